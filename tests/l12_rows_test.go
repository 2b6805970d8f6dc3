package tests

import (
	"math/rand"
	"slices"
	"testing"

	"loop.example/wholecheck/impl"
)

// followingFrom returns a chain of so many atoms, from one on.
func followingFrom(first int, many int) [][]int {
	var list [][]int
	for atom := first; atom < first+many-1; atom++ {
		list = append(list, []int{-atom, atom + 1})
	}
	return list
}

func TestCountModels(t *testing.T) {
	wantModels(t, "no atoms and no clauses", impl.Clauses{}, 1)
	wantModels(t, "no atoms and the empty clause", clausesOver(0, nil), 0)
	wantModels(t, "the example", clausesOver(2, []int{1, 2}, []int{-1, 2}, []int{-2}), 0)
	wantModels(t, "the example without the last one", clausesOver(2, []int{1, 2}, []int{-1, 2}), 2)
	wantModels(t, "the empty clause among others", clausesOver(3, []int{1}, nil, []int{2}), 0)
	wantModels(t, "contrary clauses", clausesOver(3, []int{2}, []int{-2}), 0)
	wantModels(t, "the same clause twice", clausesOver(3, []int{2, 3}, []int{2, 3}), 6)
	wantModels(t, "nothing follows one by one", clausesOver(2, allClausesOf(1, 2)...), 0)
	for atoms := range maxFree + 1 {
		wantModels(t, "no clauses", clausesOver(atoms), 1<<atoms)
		wantModels(t, "the empty clause", clausesOver(atoms, nil), 0)
		wantModels(t, "one clause of all atoms", clausesOver(atoms, allOfOneSign(atoms, 1)), 1<<atoms-1)
		wantModels(t, "one clause of all contraries", clausesOver(atoms, allOfOneSign(atoms, -1)), 1<<atoms-1)
		wantModels(t, "a chain", clausesOver(atoms, followingFrom(1, atoms)...), atoms+1)
	}
}

func TestCountModelsOfAsManyAtomsAsMayBe(t *testing.T) {
	for atom := 1; atom <= maxFree; atom++ {
		wantModels(t, "one literal", clausesOver(maxFree, []int{atom}), 1<<19)
		wantModels(t, "one contrary", clausesOver(maxFree, []int{-atom}), 1<<19)
	}
	pairs, opposite, equal := clausesOver(maxFree), clausesOver(maxFree), clausesOver(maxFree)
	for atom := 1; atom <= 10; atom++ {
		pairs.List = append(pairs.List, []int{2*atom - 1, 2 * atom})
		opposite.List = append(opposite.List, []int{atom, 21 - atom})
		equal.List = append(equal.List, []int{-atom, 21 - atom}, []int{atom, atom - 21})
	}
	wantModels(t, "one of each pair", pairs, 59049)
	wantModels(t, "one of each pair, the ends first", opposite, 59049)
	wantModels(t, "equal by pairs", equal, 1024)
	wantModels(t, "one row", clausesOver(maxFree, allClausesOf(firstNumbers(12)[1:]...)[1:]...), 512)
	long := allClausesOf(firstNumbers(21)[1:]...)
	wantModels(t, "as many clauses as may be, of all atoms", clausesOver(maxFree, long[:maxClauses]...), 1<<20-maxClauses)
	wantModels(t, "as many clauses as may be, the last ones", clausesOver(maxFree, long[1<<20-maxClauses:]...), 1<<20-maxClauses)
	wantModels(t, "as many clauses as may be, one literal", clausesOver(maxFree, slices.Repeat([][]int{{-7}}, maxClauses)...), 1<<19)
}

func TestFixedLits(t *testing.T) {
	wantFixedLits(t, "no atoms and no clauses", impl.Clauses{})
	wantFixedLits(t, "no atoms and the empty clause", clausesOver(0, nil))
	wantFixedLits(t, "no clauses", clausesOver(4))
	wantFixedLits(t, "no clauses, as many atoms as may be", clausesOver(maxFree))
	wantFixedLits(t, "one literal", clausesOver(2, []int{2}), 2)
	wantFixedLits(t, "one contrary", clausesOver(1, []int{-1}), -1)
	wantFixedLits(t, "by atoms, not by numbers", clausesOver(5, []int{4}, []int{-3}, []int{2}, []int{-5}), 2, -3, 4, -5)
	wantFixedLits(t, "two cases", clausesOver(2, []int{1, 2}, []int{-1, 2}), 2)
	wantFixedLits(t, "three cases", clausesOver(4, []int{1, 2, -3}, []int{-1, -3}, []int{-2, -3}), -3)
	wantFixedLits(t, "a chain", clausesOver(4, []int{1}, []int{-1, 2}, []int{-2, -3}), 1, 2, -3)
	wantFixedLits(t, "there is no such row", clausesOver(2, []int{1, 2}, []int{-1, 2}, []int{-2}))
	wantFixedLits(t, "there is no such row, and atoms are in no clause", clausesOver(5, []int{1}, []int{-1}, []int{4}))
	wantFixedLits(t, "the empty clause among others", clausesOver(3, []int{1}, nil, []int{-2}))
	for atoms := 1; atoms <= maxFree; atoms++ {
		all := allOfOneSign(atoms, 1)
		wantFixedLits(t, "all are 1", clausesOver(atoms, append(followingFrom(1, atoms), []int{1})...), all...)
		wantFixedLits(t, "all are 0", clausesOver(atoms, append(followingFrom(1, atoms), []int{-atoms})...), contraries(all)...)
		wantFixedLits(t, "the last one alone", clausesOver(atoms, []int{atoms}), atoms)
		wantFixedLits(t, "the first one alone", clausesOver(atoms, []int{-1}), -1)
	}
	wantFixedLits(t, "from the middle on", clausesOver(maxFree, append(followingFrom(1, maxFree), []int{13})...), allOfOneSign(maxFree, 1)[12:]...)
}

func TestFollowsFrom(t *testing.T) {
	f := clausesOver(3, []int{1, 2}, []int{-1, 2}, []int{-2, -3})
	for _, x := range []struct {
		clause []int
		want   bool
	}{
		{[]int{2}, true}, {[]int{-3}, true}, {[]int{1}, false}, {[]int{-1}, false}, {[]int{3}, false}, {[]int{-2}, false},
		{[]int{1, 2}, true}, {[]int{1, 3}, false}, {[]int{1, -3}, true}, {[]int{-1, -2}, false}, {[]int{-2, 3}, false}, {[]int{1, -2, 3}, false},
		{[]int{-1, -2, -3}, true}, {nil, false}, {[]int{}, false},
	} {
		wantFollowsFrom(t, "two of three are fixed", f, x.clause, x.want)
	}
	wantFollowsFrom(t, "no atoms and no clauses", impl.Clauses{}, nil, false)
	wantFollowsFrom(t, "no clauses", clausesOver(2), []int{1, -2}, false)
	wantFollowsFrom(t, "no clauses", clausesOver(2), nil, false)
	wantFollowsFrom(t, "one of the clauses", clausesOver(20, []int{3, -9, 20}), []int{3, -9, 20}, true)
	wantFollowsFrom(t, "more than one of the clauses", clausesOver(20, []int{3, -9, 20}), []int{3, -9, 12, 20}, true)
	wantFollowsFrom(t, "less than one of the clauses", clausesOver(20, []int{3, -9, 20}), []int{3, 20}, false)
	wantFollowsFrom(t, "atoms in no clause", clausesOver(20, []int{3}), []int{4, 5}, false)
	wantFollowsFrom(t, "atoms in no clause, and one that is", clausesOver(20, []int{3}), []int{3, 4, 5}, true)
}

// All rows of none are as told, whatever that is.
func TestAllFollowsFromWhatIsNeverTrue(t *testing.T) {
	for _, f := range []impl.Clauses{clausesOver(3, []int{1, 2}, []int{-1, 2}, []int{-2}), clausesOver(3, nil), clausesOver(3, []int{3}, []int{1, 2}, nil), clausesOver(3, allClausesOf(1, 2, 3)...)} {
		for _, clause := range [][]int{nil, {}, {1}, {-1}, {3}, {1, -2, 3}} {
			wantFollowsFrom(t, "never true", f, clause, true)
		}
	}
	wantFollowsFrom(t, "no atoms", clausesOver(0, nil), nil, true)
	wantFollowsFrom(t, "as many atoms as may be", clausesOver(20, []int{20}, []int{-20}), []int{1, -19}, true)
}

func TestFollowsFromLongChains(t *testing.T) {
	f := clausesOver(maxFree, followingFrom(1, maxFree)...)
	for a := 1; a <= maxFree; a++ {
		for b := a + 1; b <= maxFree; b++ {
			wantFollowsFrom(t, "along the chain", f, []int{-a, b}, true)
			wantFollowsFrom(t, "against the chain", f, []int{a, -b}, false)
			wantFollowsFrom(t, "one of two", f, []int{a, b}, false)
			wantFollowsFrom(t, "one contrary of two", f, []int{-a, -b}, false)
		}
	}
}

func TestRowsOfSomeClauses(t *testing.T) {
	r := rand.New(rand.NewSource(126))
	none, fixed, follow := 0, 0, 0
	for round := range 1200 {
		f := someClauses(r, r.Intn(10), 8, 3)
		if round%2 == 0 {
			f = mixedClauses(r, 4+r.Intn(6), 5+r.Intn(20), 2, 4)
		}
		models := modelsByHand(f)
		wantModels(t, "by hand", f, len(models))
		want := fixedByRows(f.Atoms, models)
		wantFixedLits(t, "by hand", f, want...)
		none += boolOf(len(models) == 0)
		fixed += boolOf(len(want) > 0)
		for range 8 {
			clause := someClause(r, f.Atoms, 4)
			follows := followsByRows(models, clause)
			wantFollowsFrom(t, "by hand", f, clause, follows)
			follow += boolOf(follows && len(models) > 0)
		}
	}
	if none < 100 || fixed < 100 || follow < 500 {
		t.Errorf("%d are never true, %d have literals that are fixed, %d clauses follow", none, fixed, follow)
	}
}

// Rows of more atoms are counted one after the other, as bits of their numbers.
func TestRowsOfManyAtoms(t *testing.T) {
	r := rand.New(rand.NewSource(127))
	for range 12 {
		f := mixedClauses(r, 15+r.Intn(6), 30+r.Intn(30), 2, 7)
		want, all, some := 0, ^uint(0), uint(0)
		for row := range uint(1) << f.Atoms {
			if isModelByBits(f, row) {
				want, all, some = want+1, all&row, some|row
			}
		}
		wantModels(t, "by bits", f, want)
		var fixed []int
		for atom := 1; atom <= f.Atoms && want > 0; atom++ {
			if all>>(atom-1)&1 == 1 {
				fixed = append(fixed, atom)
			}
			if some>>(atom-1)&1 == 0 {
				fixed = append(fixed, -atom)
			}
		}
		wantFixedLits(t, "by bits", f, fixed...)
	}
}

// isModelByBits reports whether clauses are true when the atoms have the bits of a number.
func isModelByBits(f impl.Clauses, row uint) bool {
	return !slices.ContainsFunc(f.List, func(clause []int) bool {
		return !slices.ContainsFunc(clause, func(literal int) bool {
			return int(row>>(max(literal, -literal)-1)&1) == boolOf(literal > 0)
		})
	})
}

// What is fixed follows alone, what follows can be put to the clauses without a change, and its contraries can't.
func TestRowsAgreeWithEachOther(t *testing.T) {
	r := rand.New(rand.NewSource(128))
	follow := 0
	for range 300 {
		f := mixedClauses(r, 8+r.Intn(6), 10+r.Intn(30), 2, 4)
		many := impl.CountModels(f)
		clause := clauseOfMany(r, f.Atoms, 1+r.Intn(3))
		follows := impl.FollowsFrom(f, clause)
		follow += boolOf(follows && many > 0)
		if same := impl.CountModels(withClauses(f, clause)) == many; same != follows {
			t.Errorf("FollowsFrom(%v, %v) = %v", f, clause, follows)
		}
		against := f
		for _, literal := range contraries(clause) {
			against = withClauses(against, []int{literal})
		}
		if _, is := impl.Solve(against); is == follows {
			t.Errorf("FollowsFrom(%v, %v) = %v, and beside its contraries they can be true: %v", f, clause, follows, is)
		}
		fixed := impl.FixedLits(f)
		for atom := 1; atom <= f.Atoms && many > 0; atom++ {
			wantFollowsFrom(t, "what is fixed", f, []int{atom}, slices.Contains(fixed, atom))
			wantFollowsFrom(t, "what is fixed", f, []int{-atom}, slices.Contains(fixed, -atom))
		}
	}
	if follow < 20 {
		t.Errorf("%d clauses follow", follow)
	}
}
