package tests

import (
	"slices"
	"testing"

	"loop.example/wholecheck/impl"
)

// An atom that is chosen in a search without values leads to two searches, so that such a search has an odd number of conclusions.
func TestConclusionsThatAreCut(t *testing.T) {
	wantProof(t, "599 conclusions", fallenComb(299, 300), 299, fallenCombProof(299)...)
	wantCut(t, "601 conclusions, the last one is empty", fallenComb(300, 301))
	wantCut(t, "601 conclusions, with atoms in no clause", fallenComb(300, maxAtoms))
	wantCut(t, "all clauses of ten atoms", clausesOver(10, allClausesOf(firstNumbers(11)[1:]...)...))
	wantCut(t, "all clauses of the last nine atoms", clausesOver(10, allClausesOf(firstNumbers(11)[2:]...)...))
	wantCut(t, "all clauses of the last three atoms", clausesOver(maxAtoms, allClausesOf(698, 699, 700)...))
}

func TestValuesBehindConclusions(t *testing.T) {
	for _, atoms := range []int{601, 602, maxAtoms} {
		wantValues(t, "599 conclusions", comb(599, atoms), atoms, combValues(599, atoms)...)
		wantValues(t, "600 conclusions", comb(600, atoms), atoms, combValues(600, atoms)...)
	}
	for _, teeth := range []int{601, 602, 699} {
		wantCut(t, "more conclusions, though there are values", comb(teeth, maxAtoms))
		wantTrueIn(t, "the values", comb(teeth, maxAtoms), combValues(teeth, maxAtoms), true)
	}
	wantValues(t, "600 conclusions, and one is forced", withClauses(comb(600, 700), []int{-699}), 699, combValues(600, 700)...)
}

// What is concluded at all levels counts, not only where a clause is false.
func TestConclusionsOfAllLevelsAreCounted(t *testing.T) {
	// The 511 conclusions under the contrary of the first atom end with that atom alone.
	first := clausesOver(maxAtoms)
	for _, clause := range allClausesOf(firstNumbers(11)[2:]...) {
		first.List = append(first.List, append([]int{1}, clause...))
	}
	// Each tooth behind them is one conclusion more.
	for _, teeth := range []int{0, 1, 88, 89, 90, 91, 200} {
		f := withClauses(first)
		for atom := 11; atom < 11+teeth; atom++ {
			f.List = append(f.List, []int{atom, maxAtoms}, []int{atom, -maxAtoms})
		}
		if 511+teeth > maxProof {
			wantCut(t, "one level behind the other", f)
			continue
		}
		values := make([]int, maxAtoms)
		values[0] = 1
		copy(values[10:], slices.Repeat([]int{1}, teeth))
		// 255 choices lead to nothing.
		wantValues(t, "one level behind the other", f, 255+maxAtoms, values...)
	}
}

func TestSearchIsNotCutByChoices(t *testing.T) {
	wantDecide(t, "many choices", clausesOver(maxAtoms), maxAtoms)
	wantDecide(t, "many choices, and one is forced", clausesOver(maxAtoms, []int{1, -700}), maxAtoms-1)
	wantDecide(t, "many choices and few conclusions", comb(1, maxAtoms), maxAtoms)
	wantDecide(t, "many choices and many conclusions", comb(600, maxAtoms), maxAtoms)
}

func TestSearchOfClausesAfterOneThatWasCut(t *testing.T) {
	for range 2 {
		wantCut(t, "cut", comb(601, maxAtoms))
		wantProof(t, "not cut", fallenComb(299, 300), 299, fallenCombProof(299)...)
		wantValues(t, "not cut", comb(600, maxAtoms), maxAtoms, combValues(600, maxAtoms)...)
	}
}

// withClauses returns clauses with others behind them.
func withClauses(f impl.Clauses, others ...[]int) impl.Clauses {
	return clausesOver(f.Atoms, slices.Concat(f.List, others)...)
}
