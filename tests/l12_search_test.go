package tests

import (
	"math/rand"
	"slices"
	"testing"

	"loop.example/wholecheck/impl"
)

func TestLimitsOfTheSolver(t *testing.T) {
	if impl.MaxProof != maxProof || impl.MaxFree != maxFree {
		t.Error("the limits of the solver are not what the document says")
	}
}

func TestSearchOfTheExamples(t *testing.T) {
	wantProof(t, "the example", clausesOver(2, []int{1, 2}, []int{-1, 2}, []int{-2}), 0, nil)
	wantValues(t, "the example without the last one", clausesOver(2, []int{1, 2}, []int{-1, 2}), 1, 0, 1)
}

func TestSearchWithoutAtoms(t *testing.T) {
	wantValues(t, "no atoms and no clauses", impl.Clauses{}, 0)
	wantValues(t, "no atoms and no clauses", impl.Clauses{List: [][]int{}}, 0)
	wantProof(t, "no atoms and the empty clause", clausesOver(0, nil), 0, nil)
	wantProof(t, "no atoms and as many empty clauses as may be", clausesOver(0, make([][]int, maxClauses)...), 0, nil)
}

func TestSearchWithTheEmptyClause(t *testing.T) {
	wantProof(t, "alone", clausesOver(3, []int{}), 0, nil)
	wantProof(t, "ahead of others", clausesOver(2, nil, []int{1, 2}), 0, nil)
	wantProof(t, "behind others", clausesOver(2, []int{1}, []int{-2}, nil), 0, nil)
	wantProof(t, "among others", clausesOver(3, []int{1, 2}, nil, []int{-1, 3}), 0, nil)
	wantProof(t, "over as many atoms as may be", clausesOver(maxAtoms, nil), 0, nil)
}

func TestSearchOfAtomsInNoClause(t *testing.T) {
	wantValues(t, "one atom", clausesOver(1), 1, 0)
	wantValues(t, "no clauses", clausesOver(4), 4, 0, 0, 0, 0)
	wantValues(t, "as many atoms as may be", clausesOver(maxAtoms), maxAtoms, make([]int, maxAtoms)...)
	wantValues(t, "around a clause", clausesOver(5, []int{2, 4}), 4, 0, 0, 0, 1, 0)
	wantValues(t, "beside what is forced", clausesOver(3, []int{2}), 2, 0, 1, 0)
	wantProof(t, "ahead of a search without values", clausesOver(3, allClausesOf(2, 3)...), 3,
		[]int{1, 2}, []int{1, -2}, []int{1}, []int{-1, 2}, []int{-1, -2}, []int{-1}, nil)
	wantProof(t, "behind a search without values", clausesOver(3, allClausesOf(1, 2)...), 1, []int{1}, []int{-1}, nil)
	wantProof(t, "between", clausesOver(3, allClausesOf(1, 3)...), 1, []int{1}, []int{-1}, nil)
}

func TestSearchThatChoosesNothing(t *testing.T) {
	wantValues(t, "clauses of one literal", clausesOver(3, []int{1}, []int{-2}, []int{3}), 0, 1, 0, 1)
	wantValues(t, "a chain", clausesOver(3, []int{-2, 3}, []int{-1, 2}, []int{1}), 0, 1, 1, 1)
	wantProof(t, "contrary clauses", clausesOver(1, []int{1}, []int{-1}), 0, nil)
	wantProof(t, "contrary clauses beside other atoms", clausesOver(5, []int{3}, []int{-3}), 0, nil)
	wantProof(t, "a chain to the contrary", clausesOver(3, []int{1}, []int{-1, 2}, []int{-2, 3}, []int{-1, -3}), 0, nil)
}

func TestSearchTriesTheContraryFirst(t *testing.T) {
	wantValues(t, "one of both", clausesOver(2, []int{1, 2}), 1, 0, 1)
	wantValues(t, "one contrary of both", clausesOver(2, []int{-1, -2}), 2, 0, 0)
	wantValues(t, "the contrary leads to none", clausesOver(2, []int{1, 2}, []int{1, -2}), 2, 1, 0)
	wantValues(t, "the second contrary leads to none", clausesOver(3, []int{2, 3}, []int{2, -3}), 3, 0, 1, 0)
	wantValues(t, "both contraries lead to none", clausesOver(3, []int{1, 3}, []int{1, -3}, []int{2, 3}, []int{2, -3}), 3, 1, 1, 0)
	wantValues(t, "the last row", clausesOver(3, allClausesOf(1, 2, 3)[:7]...), 3, 1, 1, 1)
	wantValues(t, "the first row", clausesOver(3, allClausesOf(1, 2, 3)[1:]...), 2, 0, 0, 0)
}

func TestSearchGoesOnAtTheFirstOpenAtom(t *testing.T) {
	wantValues(t, "one that was forced is not chosen", clausesOver(3, []int{1, 2}, []int{-2, -3}), 1, 0, 1, 0)
	wantValues(t, "one is forced ahead of all", clausesOver(3, []int{-1}, []int{2, 3}), 1, 0, 0, 1)
	wantValues(t, "the last one is forced", clausesOver(3, []int{3}), 2, 0, 0, 1)
	wantProof(t, "one that was forced is in no conclusion", clausesOver(4, slices.Concat([][]int{{1, 2}, {-1, 2}, {-2, 3, 4}, {-2, 3, -4}, {-2, -3, 4}, {-2, -3, -4}})...), 3,
		[]int{1, 3}, []int{1, -3}, []int{1}, []int{-1, 3}, []int{-1, -3}, []int{-1}, nil)
}

func TestConclusionsOfAllClausesOfSomeAtoms(t *testing.T) {
	wantProof(t, "one atom", clausesOver(1, allClausesOf(1)...), 0, nil)
	wantProof(t, "two atoms", clausesOver(2, allClausesOf(1, 2)...), 1, []int{1}, []int{-1}, nil)
	wantProof(t, "three atoms", clausesOver(3, allClausesOf(1, 2, 3)...), 3,
		[]int{1, 2}, []int{1, -2}, []int{1}, []int{-1, 2}, []int{-1, -2}, []int{-1}, nil)
	wantProof(t, "the last atoms", clausesOver(4, allClausesOf(2, 3, 4)...), 7,
		[]int{1, 2, 3}, []int{1, 2, -3}, []int{1, 2}, []int{1, -2, 3}, []int{1, -2, -3}, []int{1, -2}, []int{1},
		[]int{-1, 2, 3}, []int{-1, 2, -3}, []int{-1, 2}, []int{-1, -2, 3}, []int{-1, -2, -3}, []int{-1, -2}, []int{-1}, nil)
	many := clausesOver(9, allClausesOf(1, 2, 3, 4, 5, 6, 7, 8, 9)...)
	wantDecide(t, "nine atoms", many, 255)
	if proof, ok := impl.Refute(many); !ok || len(proof) != 511 {
		t.Errorf("nine atoms: %d conclusions, %v", len(proof), ok)
	}
}

func TestSearchOfCombs(t *testing.T) {
	for _, teeth := range []int{1, 2, 3, 50, 299} {
		wantValues(t, "a comb", comb(teeth, teeth+1), teeth+1, combValues(teeth, teeth+1)...)
		wantValues(t, "a comb with atoms in no clause", comb(teeth, teeth+9), teeth+9, combValues(teeth, teeth+9)...)
		wantProof(t, "a fallen comb", fallenComb(teeth, teeth+1), teeth, fallenCombProof(teeth)...)
		wantProof(t, "a fallen comb with atoms in no clause", fallenComb(teeth, maxAtoms), teeth, fallenCombProof(teeth)...)
	}
}

func TestSearchOfLongChains(t *testing.T) {
	f := chainOf(maxAtoms)
	wantValues(t, "no atom is 1", f, maxAtoms, make([]int, maxAtoms)...)
	f.List = append(f.List, []int{1, maxAtoms})
	wantValues(t, "the last one is 1", f, maxAtoms-1, append(make([]int, maxAtoms-1), 1)...)
	f.List[maxAtoms-1] = []int{1}
	wantValues(t, "all are 1", f, 0, slices.Repeat([]int{1}, maxAtoms)...)
	f.List = append(f.List, []int{-maxAtoms})
	wantProof(t, "the last one is 0, too", f, 0, nil)
}

func TestSearchOfLongClauses(t *testing.T) {
	all := allOfOneSign(maxAtoms, 1)
	f := clausesOver(maxAtoms, slices.Repeat([][]int{all}, maxClauses)...)
	wantValues(t, "the last atom is left", f, maxAtoms-1, append(make([]int, maxAtoms-1), 1)...)
	f.List[maxClauses-1] = []int{-700}
	wantValues(t, "the last atom but one is left", f, maxAtoms-2, append(make([]int, maxAtoms-2), 1, 0)...)
	f.List[0] = contraries(all)
	wantValues(t, "all contraries, too", f, maxAtoms-2, append(make([]int, maxAtoms-2), 1, 0)...)
}

func TestSearchOfShortLists(t *testing.T) {
	r := rand.New(rand.NewSource(121))
	with, without, longer := 0, 0, 0
	for round := range 3000 {
		f := someClauses(r, r.Intn(9), 5+r.Intn(30), 3)
		if round%2 == 0 {
			f = mixedClauses(r, 4+r.Intn(6), 12+r.Intn(40), 2, 4)
		}
		e := wantEnded(t, "by hand", f, forcedByHand)
		with += boolOf(e.is)
		without += boolOf(!e.is)
		longer += boolOf(len(e.concluded) > 3)
	}
	if with < 500 || without < 500 || longer < 150 {
		t.Errorf("%d searches end with values, %d without, %d conclude much", with, without, longer)
	}
}

// Clauses of three literals, about four for each atom, are as likely true together as not, and take many choices.
func TestSearchOfSomeClauses(t *testing.T) {
	r := rand.New(rand.NewSource(122))
	with, without, cut := 0, 0, 0
	for range 120 {
		atoms := 20 + r.Intn(60)
		f := mixedClauses(r, atoms, atoms*4+r.Intn(atoms), 3, 3)
		e := wantEnded(t, "by what is forced", f, impl.Forced)
		with += boolOf(e.is && len(e.concluded) > 10)
		without += boolOf(len(e.concluded) > 30 && !e.is)
		cut += boolOf(e.cut)
	}
	if with < 15 || without < 15 || cut < 15 {
		t.Errorf("%d searches end with values, %d without, %d are cut", with, without, cut)
	}
}

// Clauses of all lengths, most of them long, so that what is watched changes often.
func TestSearchOfLongerClauses(t *testing.T) {
	r := rand.New(rand.NewSource(123))
	concluded := 0
	for range 200 {
		f := mixedClauses(r, 12+r.Intn(8), 200+r.Intn(200), 3, 8)
		e := wantEnded(t, "by what is forced", f, impl.Forced)
		concluded += boolOf(len(e.concluded) > 10)
	}
	if concluded < 50 {
		t.Errorf("%d searches conclude much", concluded)
	}
}

// Clauses have values for which they are true, or a row of conclusions up to the empty clause, each of which follows one by one (P12).
func TestClausesHaveValuesOrConclusions(t *testing.T) {
	r := rand.New(rand.NewSource(124))
	with, without := 0, 0
	for round := range 1500 {
		f := someClauses(r, r.Intn(10), 10+r.Intn(40), 4)
		if round%2 == 0 {
			f = mixedClauses(r, 4+r.Intn(6), 12+r.Intn(40), 2, 4)
		}
		values, is := impl.Solve(f)
		proof, none := impl.Refute(f)
		if is == none {
			t.Errorf("Solve(%v) = %v, Refute = %v", f, is, none)
		}
		if is != canByHand(f) {
			t.Errorf("Solve(%v) = %v, %v", f, values, is)
		}
		if is {
			with++
			wantTrueIn(t, "what is solved", f, values, true)
			continue
		}
		without++
		wantFollowing(t, f, proof)
	}
	if with < 200 || without < 200 {
		t.Errorf("%d have values, %d conclusions", with, without)
	}
}

func wantFollowing(t *testing.T, f impl.Clauses, proof [][]int) {
	t.Helper()
	if len(proof) == 0 || len(proof[len(proof)-1]) > 0 {
		t.Errorf("Refute(%v) = %v: the last one is not empty", f, proof)
	}
	for n, clause := range proof {
		wantClauseValid(t, "a conclusion", clause, f.Atoms, true)
		wantNoForced(t, "a conclusion", clausesOver(f.Atoms, slices.Concat(f.List, proof[:n])...), contraries(clause))
	}
}

// The order of clauses changes nothing, nor does a clause that is there twice.
func TestSearchOfClausesInAnyOrder(t *testing.T) {
	r := rand.New(rand.NewSource(125))
	for range 100 {
		f := mixedClauses(r, 9, 20+r.Intn(20), 2, 3)
		want := searchedBy(f, impl.Forced)
		f.List = append(f.List, f.List...)
		for range 4 {
			r.Shuffle(len(f.List), func(i int, j int) { f.List[i], f.List[j] = f.List[j], f.List[i] })
			if want.is {
				wantValues(t, "shuffled", f, want.choices, want.values...)
			} else {
				wantProof(t, "shuffled", f, want.choices, want.concluded...)
			}
		}
	}
}
