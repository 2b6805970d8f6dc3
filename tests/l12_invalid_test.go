package tests

import (
	"slices"
	"testing"

	"loop.example/wholecheck/impl"
)

// wantNotFree checks what is told of clauses that are none, or have more atoms than are counted.
func wantNotFree(t *testing.T, name string, f impl.Clauses) {
	t.Helper()
	wantModels(t, name, f, -1)
	wantFixedLits(t, name, f)
	for _, clause := range [][]int{nil, {}, {1}, {-1}, {1, -2}, {20}, {21}, {0}, {701}, {least}} {
		wantFollowsFrom(t, name, f, clause, false)
	}
	wantCore(t, name, f)
}

func wantNothingSolved(t *testing.T, name string, f impl.Clauses) {
	t.Helper()
	wantCut(t, name, f)
	wantNotFree(t, name, f)
}

func TestSolverOfNoNumbersOfAtoms(t *testing.T) {
	for _, atoms := range noNumbersOfAtoms {
		wantNothingSolved(t, "no number of atoms", clausesOver(atoms))
		wantNothingSolved(t, "no number of atoms, the empty clause", clausesOver(atoms, nil))
		wantNothingSolved(t, "no number of atoms, one literal", clausesOver(atoms, []int{1}))
		wantNothingSolved(t, "no number of atoms, contrary clauses", clausesOver(atoms, []int{1}, []int{-1}))
	}
}

func TestSolverOfNoClauses(t *testing.T) {
	for _, atoms := range []int{2, 3, 19, maxFree, 21, 699, maxAtoms} {
		for _, c := range noClauses(atoms) {
			wantNothingSolved(t, c.name, clausesOver(atoms, c.clause))
			wantNothingSolved(t, c.name+", behind others", clausesOver(atoms, []int{1}, []int{-2}, c.clause))
			wantNothingSolved(t, c.name+", behind what can't be true", clausesOver(atoms, []int{1}, []int{-1}, c.clause))
			wantNothingSolved(t, c.name+", behind the empty clause", clausesOver(atoms, nil, c.clause))
			wantNothingSolved(t, c.name+", ahead of others", clausesOver(atoms, c.clause, []int{1, 2}, nil))
		}
	}
	wantNothingSolved(t, "no atoms", clausesOver(0, []int{1}))
	wantNothingSolved(t, "no atoms", clausesOver(0, []int{-1}))
	wantNothingSolved(t, "0 alone", clausesOver(0, []int{0}))
	wantNothingSolved(t, "one atom", clausesOver(1, []int{2}))
}

func TestSolverOfTooManyClauses(t *testing.T) {
	for _, many := range []int{maxClauses + 1, maxClauses + 2, 3 * maxClauses} {
		wantNothingSolved(t, "one literal each", clausesOver(1, slices.Repeat([][]int{{1}}, many)...))
		wantNothingSolved(t, "empty clauses", clausesOver(0, make([][]int, many)...))
		wantNothingSolved(t, "the last two are contrary", clausesOver(2, append(slices.Repeat([][]int{{1, 2}}, many-2), []int{1}, []int{-1})...))
		wantNothingSolved(t, "many atoms", clausesOver(maxAtoms, slices.Repeat([][]int{{-1, 2}}, many)...))
	}
	wantValues(t, "as many as may be", clausesOver(1, slices.Repeat([][]int{{1}}, maxClauses)...), 0, 1)
	wantModels(t, "as many as may be", clausesOver(1, slices.Repeat([][]int{{1}}, maxClauses)...), 1)
}

func TestMoreAtomsThanAreCounted(t *testing.T) {
	for _, atoms := range []int{21, 22, 32, 63, 64, 65, 699, maxAtoms} {
		wantNotFree(t, "no clauses", clausesOver(atoms))
		wantNotFree(t, "one literal", clausesOver(atoms, []int{1}))
		wantNotFree(t, "contrary clauses", clausesOver(atoms, []int{1}, []int{-1}))
		wantNotFree(t, "the empty clause", clausesOver(atoms, nil))
		wantNotFree(t, "all are fixed", clausesOver(atoms, append(followingFrom(1, atoms), []int{1})...))
		wantFollowsFrom(t, "one of the clauses", clausesOver(atoms, []int{2, -3}), []int{2, -3}, false)
		wantFollowsFrom(t, "never true", clausesOver(atoms, nil), []int{atoms}, false)
		wantProof(t, "solved all the same", clausesOver(atoms, []int{1}, []int{-1}), 0, nil)
	}
	wantModels(t, "as many as are counted", clausesOver(maxFree, nil), 0)
	wantCore(t, "as many as are counted", clausesOver(maxFree, []int{20}, []int{-20}), 0, 1)
	wantFixedLits(t, "as many as are counted", clausesOver(maxFree, []int{-20}), -20)
	wantFollowsFrom(t, "as many as are counted", clausesOver(maxFree, []int{-20}), []int{1, -20}, true)
}

func TestConclusionsThatAreNoClauses(t *testing.T) {
	for _, atoms := range []int{2, 3, 19, maxFree} {
		for _, c := range noClauses(atoms) {
			wantFollowsFrom(t, c.name, clausesOver(atoms), c.clause, false)
			wantFollowsFrom(t, c.name, clausesOver(atoms, []int{1}, []int{-2}), c.clause, false)
			wantFollowsFrom(t, c.name+", never true", clausesOver(atoms, nil), c.clause, false)
			wantFollowsFrom(t, c.name+", never true", clausesOver(atoms, []int{1}, []int{-1}), c.clause, false)
		}
	}
	for atoms := range maxFree {
		wantFollowsFrom(t, "the next atom", clausesOver(atoms, nil), []int{atoms + 1}, false)
		wantFollowsFrom(t, "the next contrary", clausesOver(atoms, nil), []int{-atoms - 1}, false)
		wantFollowsFrom(t, "none", clausesOver(atoms, nil), nil, true)
	}
}

func TestArgumentsOfTheSolverStay(t *testing.T) {
	f, all, wholes := roomyClauses()
	clause, whole := roomyNumbers(2, 5)
	for range 2 {
		wantValues(t, "roomy", f, 2, 0, 1, 0, 0, 0)
		wantModels(t, "roomy", f, 6)
		wantFixedLits(t, "roomy", f, 2, -5)
		wantFollowsFrom(t, "roomy", f, clause, true)
		wantCore(t, "roomy", f)
		wantProof(t, "roomy", impl.Clauses{Atoms: 4, List: [][]int{wholes[0][:2], wholes[0][:1], {-2}, {1}}}, 0, nil)
		wantCore(t, "roomy", impl.Clauses{Atoms: 4, List: [][]int{wholes[0][:2], wholes[0][:1], {-2}, {1}}}, 1, 3)
	}
	_, wantAll, wantWholes := roomyClauses()
	wantStates(t, "the clauses", all, wantAll...)
	wantStates(t, "the memory of the clauses", wholes, wantWholes...)
	_, want := roomyNumbers(2, 5)
	wantNumbers(t, "the conclusion", whole, want)
}

func TestResultsOfTheSolverAreNewMemory(t *testing.T) {
	solved, refuted := clausesOver(3, []int{1, 2}, []int{-1, 2}), clausesOver(3, allClausesOf(1, 2, 3)...)
	proof := [][]int{{1, 2}, {1, -2}, {1}, {-1, 2}, {-1, -2}, {-1}, nil}
	for range 2 {
		values, _ := impl.Solve(solved)
		scribble(values, 99)
		conclusions, _ := impl.Refute(refuted)
		for n := range conclusions {
			scribble(conclusions[n], 98)
			if n+1 < len(conclusions) {
				wantStates(t, "the conclusions behind one that is changed", conclusions[n+1:], proof[n+1:]...)
			}
		}
		scribble(conclusions, []int{97})
		scribble(impl.FixedLits(solved), 96)
		scribble(impl.CoreOf(refuted), 95)
		wantStates(t, "the clauses", solved.List, []int{1, 2}, []int{-1, 2})
		wantStates(t, "the clauses", refuted.List, allClausesOf(1, 2, 3)...)
		wantValues(t, "afterwards", solved, 2, 0, 1, 0)
		wantProof(t, "afterwards", refuted, 3, proof...)
		wantFixedLits(t, "afterwards", solved, 2)
		wantCore(t, "afterwards", refuted, 0, 1, 2, 3, 4, 5, 6, 7)
	}
}
