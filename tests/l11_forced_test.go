package tests

import (
	"math/rand"
	"slices"
	"testing"

	"loop.example/wholecheck/impl"
)

func TestForced(t *testing.T) {
	f := clausesOver(3, []int{-1, 2}, []int{-2, 3})
	wantForced(t, "the example", f, []int{1}, 1, 2, 3)
	wantForced(t, "none given", f, nil)
	wantForced(t, "none given", f, []int{})
	wantForced(t, "nothing follows", f, []int{3}, 3)
	wantForced(t, "nothing follows", f, []int{-1}, -1)
	wantForced(t, "the other way", f, []int{-3}, -1, -2, -3)
	wantForced(t, "some of it", f, []int{2}, 2, 3)
	wantForced(t, "given, too", f, []int{1, 2, 3}, 1, 2, 3)
	wantForced(t, "no clauses", clausesOver(5), []int{-2, 4}, -2, 4)
	wantForced(t, "no atoms", impl.Clauses{}, nil)
	wantForced(t, "by atoms, not by numbers", clausesOver(4, []int{3, -4}), []int{1, -3}, 1, -3, -4)
}

func TestForcedByClausesAlone(t *testing.T) {
	wantForced(t, "one literal", clausesOver(2, []int{2}), nil, 2)
	wantForced(t, "one contrary", clausesOver(2, []int{-1}), nil, -1)
	wantForced(t, "further ones", clausesOver(3, []int{-2, 3}, []int{1}, []int{-1, 2}), nil, 1, 2, 3)
	wantForced(t, "one literal twice", clausesOver(2, []int{1}, []int{1}), nil, 1)
	wantForced(t, "one literal that is given", clausesOver(2, []int{1}), []int{1}, 1)
	wantForced(t, "beside one that is given", clausesOver(3, []int{2}, []int{-1, -2, 3}), []int{1}, 1, 2, 3)
	wantNoForced(t, "a literal and its contrary", clausesOver(1, []int{1}, []int{-1}), nil)
	wantNoForced(t, "a contrary and its literal", clausesOver(1, []int{-1}, []int{1}), nil)
}

func TestForcedByLongerClauses(t *testing.T) {
	f := clausesOver(4, []int{1, -2, 3, -4})
	wantForced(t, "two are left", f, []int{-1, 2}, -1, 2)
	wantForced(t, "the last one is left", f, []int{-1, 2, -3}, -1, 2, -3, -4)
	wantForced(t, "the third one is left", f, []int{-1, 2, 4}, -1, 2, 3, 4)
	wantForced(t, "the second one is left", f, []int{-1, -3, 4}, -1, -2, -3, 4)
	wantForced(t, "the first one is left", f, []int{2, -3, 4}, 1, 2, -3, 4)
	wantForced(t, "a true one", f, []int{1, 2, -3}, 1, 2, -3)
	wantForced(t, "a true one at the end", f, []int{-1, 2, -3, -4}, -1, 2, -3, -4)
	wantNoForced(t, "none is left", f, []int{-1, 2, -3, 4})
	both := clausesOver(4, []int{1, 2, 3}, []int{1, 2, -3})
	wantForced(t, "one atom alone doesn't force the others", both, []int{-1}, -1)
	wantNoForced(t, "contraries are forced", both, []int{-1, -2})
	wantForced(t, "a true literal that was forced", clausesOver(3, []int{-1, 2}, []int{-1, 2, 3}), []int{1}, 1, 2)
}

func TestForcedToBeFalse(t *testing.T) {
	f := clausesOver(3, []int{-1, 2}, []int{-2, 3})
	wantNoForced(t, "given at both ends", f, []int{1, -3})
	wantNoForced(t, "given in one clause", f, []int{1, -2})
	wantNoForced(t, "a clause alone and its contrary given", clausesOver(2, []int{2}), []int{-2})
	wantNoForced(t, "a contrary alone and its atom given", clausesOver(2, []int{-2}), []int{2})
	wantNoForced(t, "two ways", clausesOver(4, []int{-1, 2}, []int{-1, 3}, []int{-2, -3}), []int{1})
	wantForced(t, "two ways that are not gone", clausesOver(4, []int{-1, 2}, []int{-1, 3}, []int{-2, -3}), []int{2}, -1, 2, -3)
	wantNoForced(t, "all clauses of two atoms", clausesOver(2, []int{1, 2}, []int{1, -2}, []int{-1, 2}, []int{-1, -2}), []int{1})
	wantForced(t, "all clauses of two atoms can't be true, but nothing follows one by one", clausesOver(2, []int{1, 2}, []int{1, -2}, []int{-1, 2}, []int{-1, -2}), nil)
}

func TestForcedByTheEmptyClause(t *testing.T) {
	wantNoForced(t, "without atoms", clausesOver(0, nil), nil)
	wantNoForced(t, "alone", clausesOver(2, []int{}), nil)
	wantNoForced(t, "beside what is given", clausesOver(2, []int{}), []int{1})
	wantNoForced(t, "behind true clauses", clausesOver(2, []int{1}, []int{1, 2}, nil), []int{1})
	wantNoForced(t, "ahead of true clauses", clausesOver(2, nil, []int{1}, []int{1, 2}), []int{1, 2})
}

// A chain whose last step is the first clause needs as many passes over the clauses as it has steps.
func TestForcedByLongChains(t *testing.T) {
	for _, atoms := range []int{2, 3, 64, 65, 699, maxAtoms} {
		f := chainOf(atoms)
		all := allOfOneSign(atoms, 1)
		wantForced(t, "from the first one on", f, []int{1}, all...)
		wantForced(t, "from the last one on", f, []int{-atoms}, contraries(all)...)
		wantForced(t, "from the middle on", f, []int{atoms/2 + 1}, all[atoms/2:]...)
		wantNoForced(t, "from both ends on", f, []int{1, -atoms})
		slices.Reverse(f.List)
		wantForced(t, "in order", f, []int{1}, all...)
		wantNoForced(t, "in order, from both ends on", f, []int{1, -atoms})
	}
}

func TestForcedByAsManyClausesAsMayBe(t *testing.T) {
	all := allOfOneSign(maxAtoms, 1)
	long := slices.Repeat([][]int{all}, maxClauses)
	wantForced(t, "long clauses", clausesOver(maxAtoms, long...), contraries(all[:699]), append(contraries(all[:699]), 700)...)
	wantForced(t, "long clauses, the first one is left", clausesOver(maxAtoms, long...), contraries(all[1:]), append([]int{1}, contraries(all[1:])...)...)
	wantForced(t, "long clauses, two are left", clausesOver(maxAtoms, long...), contraries(all[2:]), contraries(all[2:])...)
	wantNoForced(t, "long clauses, none is left", clausesOver(maxAtoms, long...), contraries(all))
	long[maxClauses-1] = []int{-1}
	wantForced(t, "the last clause", clausesOver(maxAtoms, long...), contraries(all[2:]), append([]int{-1, 2}, contraries(all[2:])...)...)
	long[maxClauses-1] = nil
	wantNoForced(t, "the last clause is empty", clausesOver(maxAtoms, long...), nil)
}

// What follows one by one is true in all values in which the clauses and what is given are; if there are such values, Forced does not fail (P11).
func TestWhatFollowsIsTrue(t *testing.T) {
	r := rand.New(rand.NewSource(114))
	failed, more := 0, 0
	for range 2500 {
		f := someClauses(r, r.Intn(7), 9, 3)
		given := someClause(r, f.Atoms, 3)
		forced, ok := impl.Forced(f, given)
		failed += boolOf(!ok)
		more += boolOf(len(forced) > len(given))
		eachRow(f.Atoms, func(row []int) {
			if !impl.TrueIn(f, row) || !allTrueByHand(given, row) {
				return
			}
			if !ok {
				t.Errorf("Forced(%v, %v) fails, and %v are values", f, given, row)
			}
			if !allTrueByHand(forced, row) {
				t.Errorf("Forced(%v, %v) = %v, and %v are values", f, given, forced, row)
			}
		})
	}
	if failed < 200 || more < 500 {
		t.Errorf("%d failed, and something followed %d times", failed, more)
	}
}

func TestForcedOfSomeClauses(t *testing.T) {
	r := rand.New(rand.NewSource(115))
	failed := 0
	for range 4000 {
		f := someClauses(r, r.Intn(12), 20, 4)
		failed += boolOf(!wantForcedByHand(t, "by hand", f, someClause(r, f.Atoms, 5)))
	}
	if failed < 400 || failed > 3600 {
		t.Errorf("%d failed", failed)
	}
}

// In half of the rounds all is true if all atoms are 1, so that nothing fails, and much follows.
func TestForcedOfManyClauses(t *testing.T) {
	r := rand.New(rand.NewSource(116))
	failed, more := 0, 0
	for round := range 60 {
		f := clausesOver(maxAtoms)
		given := clauseOfMany(r, maxAtoms, 20+r.Intn(80))
		for n := range 1000 + r.Intn(1501) {
			clause := clauseOfMany(r, maxAtoms, 2+min(n/800, 3))
			if round%2 == 0 {
				at := r.Intn(len(clause))
				clause[at] = max(clause[at], -clause[at])
			}
			f.List = append(f.List, clause)
		}
		if round%2 == 0 {
			for i, literal := range given {
				given[i] = max(literal, -literal)
			}
		}
		r.Shuffle(len(f.List), func(i int, j int) { f.List[i], f.List[j] = f.List[j], f.List[i] })
		failed += boolOf(!wantForcedByHand(t, "many clauses, by hand", f, given))
		forced, _ := impl.Forced(f, given)
		more += boolOf(len(forced) > len(given)+50)
	}
	if failed < 20 || more < 20 {
		t.Errorf("%d failed, and much followed %d times", failed, more)
	}
}

// The order of clauses changes nothing, nor does a clause that is there twice.
func TestForcedInAnyOrder(t *testing.T) {
	r := rand.New(rand.NewSource(117))
	for range 300 {
		f := someClauses(r, 9, 20, 4)
		given := someClause(r, 9, 3)
		want, ok := impl.Forced(f, given)
		f.List = append(f.List, f.List...)
		for range 5 {
			r.Shuffle(len(f.List), func(i int, j int) { f.List[i], f.List[j] = f.List[j], f.List[i] })
			if ok {
				wantForced(t, "shuffled", f, given, want...)
			} else {
				wantNoForced(t, "shuffled", f, given)
			}
		}
	}
}
