package tests

import (
	"math/rand"
	"slices"
	"testing"

	"loop.example/wholecheck/impl"
)

func TestLimitsOfClauses(t *testing.T) {
	if impl.MaxAtoms != maxAtoms || impl.MaxClauses != maxClauses {
		t.Error("the limits of clauses are not what the document says")
	}
}

func TestClauseValid(t *testing.T) {
	for _, atoms := range []int{0, 1, 2, 699, maxAtoms} {
		wantClauseValid(t, "the empty clause", nil, atoms, true)
		wantClauseValid(t, "the empty clause", []int{}, atoms, true)
		wantClauseValid(t, "all atoms", allOfOneSign(atoms, 1), atoms, true)
		wantClauseValid(t, "all contraries", allOfOneSign(atoms, -1), atoms, true)
	}
	wantClauseValid(t, "one literal", []int{1}, 1, true)
	wantClauseValid(t, "one contrary", []int{-1}, 1, true)
	wantClauseValid(t, "the last atom", []int{700}, 700, true)
	wantClauseValid(t, "the last contrary", []int{-700}, 700, true)
	wantClauseValid(t, "by atoms, not by numbers", []int{1, -2, 3}, 3, true)
	wantClauseValid(t, "by atoms, not by numbers", []int{-1, -2, -3}, 3, true)
	wantClauseValid(t, "with others between", []int{2, -5, 9}, 10, true)
}

func TestClauseValidOfShortLists(t *testing.T) {
	for atoms := range 4 {
		for a := -4; a <= 4; a++ {
			wantClauseValid(t, "by hand", []int{a}, atoms, isClauseByHand([]int{a}, atoms))
			for b := -4; b <= 4; b++ {
				wantClauseValid(t, "by hand", []int{a, b}, atoms, isClauseByHand([]int{a, b}, atoms))
				for c := -4; c <= 4; c++ {
					list := []int{a, b, c}
					wantClauseValid(t, "by hand", list, atoms, isClauseByHand(list, atoms))
				}
			}
		}
	}
}

func TestClausesValid(t *testing.T) {
	wantClausesValid(t, "no atoms and no clauses", impl.Clauses{}, true)
	wantClausesValid(t, "no clauses", impl.Clauses{Atoms: 3, List: [][]int{}}, true)
	wantClausesValid(t, "as many atoms as may be", clausesOver(maxAtoms), true)
	wantClausesValid(t, "the empty clause without atoms", clausesOver(0, nil), true)
	wantClausesValid(t, "the empty clause among others", clausesOver(2, []int{1}, []int{}, []int{-2}), true)
	wantClausesValid(t, "the same clause twice", clausesOver(2, []int{1, 2}, []int{1, 2}), true)
	wantClausesValid(t, "contrary clauses", clausesOver(1, []int{1}, []int{-1}), true)
	wantClausesValid(t, "as many clauses as may be", clausesOver(1, slices.Repeat([][]int{{1}}, maxClauses)...), true)
	wantClausesValid(t, "as many empty clauses as may be", clausesOver(0, make([][]int, maxClauses)...), true)
	wantClausesValid(t, "long clauses", clausesOver(maxAtoms, slices.Repeat([][]int{allOfOneSign(maxAtoms, -1)}, maxClauses)...), true)
}

func TestClauseOf(t *testing.T) {
	wantClauseOf(t, "no literals", nil, 0)
	wantClauseOf(t, "no literals", []int{}, maxAtoms)
	wantClauseOf(t, "one literal", []int{3}, 3, 3)
	wantClauseOf(t, "one contrary", []int{-3}, 3, -3)
	wantClauseOf(t, "in order", []int{1, -2, 3}, 5, 1, -2, 3)
	wantClauseOf(t, "the other way round", []int{3, -2, 1}, 5, 1, -2, 3)
	wantClauseOf(t, "by atoms, not by numbers", []int{-3, -1, -2}, 3, -1, -2, -3)
	wantClauseOf(t, "a literal twice", []int{2, 2}, 2, 2)
	wantClauseOf(t, "a contrary twice", []int{-2, -2}, 2, -2)
	wantClauseOf(t, "a literal twice with others between", []int{2, -1, 3, 2, -1}, 3, -1, 2, 3)
	wantClauseOf(t, "many times", slices.Repeat([]int{5, -4}, 1000), 5, -4, 5)
	wantClauseOf(t, "the first atom and the last one", []int{-700, 1}, maxAtoms, 1, -700)
	all := allOfOneSign(maxAtoms, -1)
	back := slices.Clone(all)
	slices.Reverse(back)
	wantClauseOf(t, "all atoms, the last one first", back, maxAtoms, all...)
	wantClauseOf(t, "more literals than may be atoms", slices.Concat(back, all, back), maxAtoms, all...)
}

func TestClauseOfSomeLists(t *testing.T) {
	r := rand.New(rand.NewSource(111))
	none := 0
	for range 3000 {
		atoms := r.Intn(8)
		var list []int
		for range r.Intn(6) {
			list = append(list, r.Intn(2*atoms+3)-atoms-1)
		}
		want, ok := clauseOfByHand(list, atoms)
		if ok {
			wantClauseOf(t, "by hand", list, atoms, want...)
		} else {
			wantNoClauseOf(t, "by hand", list, atoms)
			none++
		}
	}
	if none < 500 || none > 2500 {
		t.Errorf("%d lists have no clause", none)
	}
}

func TestTrueIn(t *testing.T) {
	wantTrueIn(t, "no atoms and no clauses", impl.Clauses{}, nil, true)
	wantTrueIn(t, "no clauses", clausesOver(2), []int{0, 1}, true)
	wantTrueIn(t, "the empty clause without atoms", clausesOver(0, nil), nil, false)
	wantTrueIn(t, "the empty clause", clausesOver(1, []int{}), []int{1}, false)
	wantTrueIn(t, "the empty clause behind a true one", clausesOver(1, []int{1}, nil), []int{1}, false)
	wantTrueIn(t, "the empty clause ahead of a true one", clausesOver(1, nil, []int{1}), []int{1}, false)
	wantTrueIn(t, "an atom", clausesOver(1, []int{1}), []int{1}, true)
	wantTrueIn(t, "an atom that is 0", clausesOver(1, []int{1}), []int{0}, false)
	wantTrueIn(t, "a contrary", clausesOver(1, []int{-1}), []int{0}, true)
	wantTrueIn(t, "a contrary of an atom that is 1", clausesOver(1, []int{-1}), []int{1}, false)
	two := clausesOver(3, []int{1, -2}, []int{2, 3})
	for row, want := range map[[3]int]bool{
		{0, 0, 0}: false, {0, 0, 1}: true, {0, 1, 0}: false, {0, 1, 1}: false,
		{1, 0, 0}: false, {1, 0, 1}: true, {1, 1, 0}: true, {1, 1, 1}: true,
	} {
		wantTrueIn(t, "one literal of each", two, row[:], want)
	}
	wantTrueIn(t, "contrary clauses", clausesOver(1, []int{1}, []int{-1}), []int{1}, false)
	wantTrueIn(t, "as many as may be", clausesOver(maxAtoms, slices.Repeat([][]int{{-1, 700}}, maxClauses)...), make([]int, maxAtoms), true)
}

func TestTrueInOfSomeClauses(t *testing.T) {
	r := rand.New(rand.NewSource(112))
	are := 0
	for range 300 {
		f := someClauses(r, r.Intn(6), 5, 3)
		eachRow(f.Atoms, func(row []int) {
			want := areTrueByHand(f, row)
			wantTrueIn(t, "by hand", f, row, want)
			are += boolOf(want)
		})
	}
	if are < 300 {
		t.Errorf("clauses are true in %d rows alone", are)
	}
}

func TestResolved(t *testing.T) {
	wantResolved(t, "the example", []int{-1, 2}, []int{-2, 3}, 2, -1, 3)
	wantResolved(t, "to the empty clause", []int{1}, []int{-1}, 1)
	wantResolved(t, "one side alone", []int{1, 2}, []int{-1}, 1, 2)
	wantResolved(t, "the other side alone", []int{1}, []int{-1, 2}, 1, 2)
	wantResolved(t, "by atoms, not by numbers", []int{2, -5}, []int{1, -2, -3}, 2, 1, -3, -5)
	wantResolved(t, "a literal of both", []int{1, 2, -3}, []int{-1, -3, 4}, 1, 2, -3, 4)
	wantResolved(t, "the same literals", []int{1, 2, 3}, []int{1, -2, 3}, 2, 1, 3)
	wantResolved(t, "the first atom", []int{1, 5}, []int{-1, 4}, 1, 4, 5)
	wantResolved(t, "the last atom", []int{-3, 700}, []int{2, -700}, 700, 2, -3)
	wantResolved(t, "by a literal that is no atom, but in the first one", []int{-2, 3}, []int{1, 2}, -2, 1, 3)
	wantNoResolved(t, "contrary to each other", []int{1, 2}, []int{-1, -2}, 1)
	wantNoResolved(t, "contrary to each other", []int{1, 2}, []int{-1, -2}, 2)
	wantNoResolved(t, "contrary to each other, the other way round", []int{-2, 3}, []int{2, -3}, 3)
	wantNoResolved(t, "the atom is not in the first one", []int{2}, []int{-1}, 1)
	wantNoResolved(t, "its contrary is not in the second one", []int{1}, []int{2}, 1)
	wantNoResolved(t, "in none", []int{1}, []int{-1}, 2)
	wantNoResolved(t, "in both", []int{1}, []int{1}, 1)
	wantNoResolved(t, "the contrary in both", []int{-1}, []int{-1}, 1)
	wantNoResolved(t, "the contrary in the first one", []int{-1, 2}, []int{1, 3}, 1)
	wantNoResolved(t, "an empty clause", nil, []int{-1}, 1)
	wantNoResolved(t, "the other empty clause", []int{1}, []int{}, 1)
	wantNoResolved(t, "two empty clauses", nil, nil, 1)
}

func TestResolvedOfLongClauses(t *testing.T) {
	all := allOfOneSign(maxAtoms, 1)
	for _, atom := range []int{1, 2, 350, 699, 700} {
		other := slices.Clone(all)
		other[atom-1] = -atom
		want := slices.Delete(slices.Clone(all), atom-1, atom)
		wantResolved(t, "all atoms", all, other, atom, want...)
		wantResolved(t, "all atoms and one", all, []int{-atom}, atom, want...)
		wantNoResolved(t, "all atoms and all contraries", all, allOfOneSign(maxAtoms, -1), atom)
	}
}

// What is resolved is true in all values in which both clauses are.
func TestResolvedOfSomeClauses(t *testing.T) {
	r := rand.New(rand.NewSource(113))
	resolved := 0
	for range 3000 {
		a, b := someClause(r, 6, 4), someClause(r, 6, 4)
		for atom := 1; atom <= 6; atom++ {
			want, ok := resolvedByHand(a, b, atom)
			if !ok || !slices.Contains(a, atom) || !slices.Contains(b, -atom) {
				wantNoResolved(t, "by hand", a, b, atom)
				continue
			}
			resolved++
			wantResolved(t, "by hand", a, b, atom, want...)
			eachRow(6, func(row []int) {
				if isTrueClauseByHand(a, row) && isTrueClauseByHand(b, row) {
					wantTrueIn(t, "what is resolved", clausesOver(6, want), row, true)
				}
			})
		}
	}
	if resolved < 200 {
		t.Errorf("%d clauses were resolved", resolved)
	}
}
