package tests

import (
	"math/rand"
	"slices"
	"testing"

	"loop.example/wholecheck/impl"
)

func TestCoreOf(t *testing.T) {
	wantCore(t, "the example", clausesOver(2, []int{1, 2}, []int{-1, 2}, []int{-2}), 0, 1, 2)
	wantCore(t, "two of five", clausesOver(2, append(allClausesOf(1, 2), []int{1})...), 2, 3, 4)
	wantCore(t, "one literal first", clausesOver(2, append([][]int{{1}}, allClausesOf(1, 2)...)...), 1, 2, 3, 4)
	wantCore(t, "contrary clauses", clausesOver(1, []int{1}, []int{-1}), 0, 1)
	wantCore(t, "contrary clauses among others", clausesOver(4, []int{2, 3}, []int{1}, []int{3, 4}, []int{-1}, []int{-4}), 1, 3)
	wantCore(t, "two ways, the one at the end", clausesOver(2, []int{1}, []int{-1}, []int{2}, []int{-2}), 2, 3)
	wantCore(t, "two ways in turns", clausesOver(2, []int{1}, []int{2}, []int{-1}, []int{-2}), 1, 3)
	wantCore(t, "two ways, one in the other", clausesOver(2, []int{1}, []int{2}, []int{-2}, []int{-1}), 1, 2)
	wantCore(t, "the same clause three times", clausesOver(1, []int{1}, []int{1}, []int{-1}, []int{1}), 2, 3)
	wantCore(t, "a chain", clausesOver(3, []int{1}, []int{-1, 2}, []int{-2, 3}, []int{-1, -3}), 0, 1, 2, 3)
	wantCore(t, "a chain and a shorter way behind it", clausesOver(3, []int{1}, []int{-1, 2}, []int{-2, 3}, []int{-1, -3}, []int{-2}), 0, 1, 4)
	wantCore(t, "a chain behind a shorter way", clausesOver(3, []int{-2}, []int{1}, []int{-1, 2}, []int{-2, 3}, []int{-1, -3}), 1, 2, 3, 4)
}

func TestNoCoreOfWhatCanBeTrue(t *testing.T) {
	wantCore(t, "no atoms and no clauses", impl.Clauses{})
	wantCore(t, "no clauses", clausesOver(3))
	wantCore(t, "as many atoms as may be", clausesOver(maxFree))
	wantCore(t, "one clause", clausesOver(2, []int{1, 2}))
	wantCore(t, "one row", clausesOver(3, []int{1}, []int{-2}, []int{3}))
	wantCore(t, "all rows but one", clausesOver(2, allClausesOf(1, 2)[1:]...))
	wantCore(t, "all rows but one of as many atoms as may be", clausesOver(maxFree, append(followingFrom(1, 20), []int{-20})...))
}

func TestCoreOfTheEmptyClause(t *testing.T) {
	wantCore(t, "without atoms", clausesOver(0, nil), 0)
	wantCore(t, "twice", clausesOver(0, nil, []int{}), 1)
	wantCore(t, "many times", clausesOver(0, make([][]int, maxClauses)...), 2499)
	wantCore(t, "alone", clausesOver(3, []int{}), 0)
	wantCore(t, "behind what can be true", clausesOver(2, []int{1}, []int{2}, nil), 2)
	wantCore(t, "ahead of what can be true", clausesOver(2, nil, []int{1}, []int{2}), 0)
	wantCore(t, "behind what can't be true", clausesOver(2, []int{1}, []int{-1}, nil), 2)
	wantCore(t, "ahead of what can't be true", clausesOver(2, nil, []int{1}, []int{-1}), 1, 2)
	wantCore(t, "in what can't be true", clausesOver(2, []int{1}, nil, []int{-1}), 1)
	wantCore(t, "over as many atoms as may be", clausesOver(maxFree, []int{20}, nil, []int{-20}), 1)
}

func TestCoreOfManyClauses(t *testing.T) {
	all := allClausesOf(firstNumbers(12)[1:]...)
	last := allClausesOf(firstNumbers(21)[10:]...)
	for _, list := range [][][]int{all, last} {
		numbers := firstNumbers(maxClauses)
		wantCore(t, "all clauses of eleven atoms", clausesOver(maxFree, list...), numbers[:2048]...)
		wantCore(t, "and some ahead of them", clausesOver(maxFree, slices.Concat(list[:452], list)...), numbers[452:]...)
		wantCore(t, "and some behind them", clausesOver(maxFree, slices.Concat(list, list[:452])...), numbers[452:]...)
		wantCore(t, "and one of one literal behind them", clausesOver(maxFree, append(slices.Clone(list), []int{list[2047][0]})...), append(slices.Clone(numbers[:1024]), 2048)...)
		wantCore(t, "and one of one literal ahead of them", clausesOver(maxFree, append([][]int{{list[2047][0]}}, list...)...), numbers[1:2049]...)
		wantCore(t, "all but one", clausesOver(maxFree, list[1:]...))
	}
	chain := clausesOver(maxFree, append(followingFrom(1, 20), []int{1}, []int{-20})...)
	wantCore(t, "a chain of as many atoms as may be", chain, firstNumbers(21)...)
	wantCore(t, "and one literal twice", withClauses(chain, []int{1}), append(firstNumbers(19), 20, 21)...)
	ones := slices.Repeat([][]int{{3}, {-3}}, maxClauses/2)
	wantCore(t, "as many clauses of one literal as may be", clausesOver(maxFree, ones...), 2498, 2499)
}

func TestCoreOfSomeClauses(t *testing.T) {
	r := rand.New(rand.NewSource(129))
	long, shorter := 0, 0
	for round := range 500 {
		f := someClauses(r, r.Intn(6), 12, 3)
		if round%2 == 0 {
			f = mixedClauses(r, 4+r.Intn(4), 20+r.Intn(30), 2, 4)
		}
		want := coreByHand(f)
		wantCore(t, "by hand", f, want...)
		long += boolOf(len(want) > 4)
		shorter += boolOf(len(want) > 0 && len(want) < len(f.List)-1)
	}
	if long < 100 || shorter < 100 {
		t.Errorf("%d cores are long, %d are shorter than the clauses", long, shorter)
	}
}

// A core can't be true, can be without each of its clauses, and is its own core.
func TestCoresAreLeast(t *testing.T) {
	r := rand.New(rand.NewSource(130))
	found := 0
	for range 60 {
		f := mixedClauses(r, 12+r.Intn(9), 150+r.Intn(100), 2, 5)
		core := impl.CoreOf(f)
		if (len(core) > 0) != (impl.CountModels(f) == 0) {
			t.Errorf("CoreOf(%v) = %v", shownClauses(f), core)
		}
		found += boolOf(len(core) > 0)
		g := clausesOver(f.Atoms)
		for i, n := range core {
			if n < 0 || n >= len(f.List) || i > 0 && core[i-1] >= n {
				t.Fatalf("CoreOf(%v) = %v", shownClauses(f), core)
			}
			g.List = append(g.List, f.List[n])
		}
		wantModels(t, "a core", g, boolOf(len(core) == 0)<<f.Atoms)
		wantCore(t, "the core of a core", g, firstNumbers(len(core))...)
		for n := range g.List {
			if _, is := impl.Solve(clausesOver(f.Atoms, slices.Delete(slices.Clone(g.List), n, n+1)...)); !is {
				t.Errorf("CoreOf(%v) = %v, and the clause %d is not needed", shownClauses(f), core, core[n])
			}
		}
	}
	if found < 20 {
		t.Errorf("%d have cores", found)
	}
}
