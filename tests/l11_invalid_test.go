package tests

import (
	"slices"
	"testing"

	"loop.example/wholecheck/impl"
)

type noClause struct {
	name   string
	clause []int
}

// noClauses returns what is no clause over atoms, 2 at least, each one by one thing alone.
func noClauses(atoms int) []noClause {
	list := []noClause{
		{"a literal twice", []int{1, 1}},
		{"a contrary twice", []int{-2, -2}},
		{"a literal and its contrary", []int{1, -1}},
		{"a contrary and its literal", []int{-2, 2}},
		{"not ascending", []int{2, 1}},
		{"ascending as numbers alone", []int{-2, -1}},
		{"ascending as numbers alone, with a sign", []int{-2, 1}},
		{"an atom twice at the end", append(allOfOneSign(atoms, 1), -atoms)},
		{"all literals, twice", slices.Concat(allOfOneSign(atoms, 1), allOfOneSign(atoms, 1))},
	}
	for _, literal := range noLiterals(atoms) {
		list = append(list,
			noClause{"no literal", []int{literal}},
			noClause{"no literal at the end", []int{-1, literal}},
			noClause{"no literal ahead of one", []int{literal, atoms}},
		)
	}
	return list
}

// noLiterals returns numbers that are no literals over atoms.
func noLiterals(atoms int) []int {
	return []int{0, atoms + 1, -atoms - 1, atoms + 2, 2*atoms + 1, 701, -701, 1000, -1000, greatest, -greatest, least, least + 1, least + 2}
}

// noNumbersOfAtoms are those that are below 0 or beyond MaxAtoms.
var noNumbersOfAtoms = []int{-1, -2, -700, -701, 701, 702, 1000, 1 << 32, greatest, greatest - 1, greatest / 2, least, least + 1}

func wantNothingOfClauses(t *testing.T, name string, f impl.Clauses) {
	t.Helper()
	wantClausesValid(t, name, f, false)
	for _, many := range []int{0, 1, 2, 3, maxAtoms, maxAtoms + 1} {
		wantTrueIn(t, name, f, make([]int, many), false)
		wantTrueIn(t, name, f, slices.Repeat([]int{1}, many), false)
	}
	for _, given := range [][]int{nil, {}, {1}, {-1}, {1, -2}, {0}, {701}, {least}} {
		wantNoForced(t, name, f, given)
	}
	wantClausesText(t, name, f, "")
}

func TestNoNumbersOfAtoms(t *testing.T) {
	for _, atoms := range noNumbersOfAtoms {
		for _, list := range [][]int{nil, {}, {1}, {-1}, {1, 2}, {2, 1}, {0}, {701}, {-701}, {least}, {greatest}} {
			wantClauseValid(t, "no number of atoms", list, atoms, false)
			wantNoClauseOf(t, "no number of atoms", list, atoms)
		}
		wantNothingOfClauses(t, "no number of atoms", clausesOver(atoms))
		wantNothingOfClauses(t, "no number of atoms", clausesOver(atoms, nil))
		wantNothingOfClauses(t, "no number of atoms", clausesOver(atoms, []int{1}, []int{-1, 2}))
	}
}

func TestNoClauses(t *testing.T) {
	for _, atoms := range []int{2, 3, 699, maxAtoms} {
		for _, c := range noClauses(atoms) {
			wantClauseValid(t, c.name, c.clause, atoms, false)
			wantNoForced(t, c.name, clausesOver(atoms), c.clause)
			wantNoForced(t, c.name, clausesOver(atoms, []int{1, 2}), c.clause)
			wantNothingOfClauses(t, c.name, clausesOver(atoms, c.clause))
			wantNothingOfClauses(t, c.name+", behind others", clausesOver(atoms, []int{1}, nil, c.clause))
			wantNothingOfClauses(t, c.name+", ahead of others", clausesOver(atoms, c.clause, []int{1, 2}))
		}
	}
	wantClauseValid(t, "no atoms", []int{1}, 0, false)
	wantClauseValid(t, "no atoms", []int{-1}, 0, false)
	wantClauseValid(t, "no atoms", []int{0}, 0, false)
	wantClauseValid(t, "0 alone", []int{0}, maxAtoms, false)
	wantNothingOfClauses(t, "no atoms", clausesOver(0, []int{1}))
	wantNothingOfClauses(t, "0 alone", clausesOver(0, []int{0}))
}

func TestTooManyClauses(t *testing.T) {
	for _, many := range []int{maxClauses + 1, maxClauses + 2, 3 * maxClauses} {
		wantNothingOfClauses(t, "one literal each", clausesOver(1, slices.Repeat([][]int{{1}}, many)...))
		wantNothingOfClauses(t, "empty clauses", clausesOver(0, make([][]int, many)...))
		wantNothingOfClauses(t, "clauses of two", clausesOver(maxAtoms, slices.Repeat([][]int{{-1, 2}}, many)...))
	}
}

func TestClauseOfNoLiterals(t *testing.T) {
	for _, atoms := range []int{0, 1, 2, 3, 699, maxAtoms} {
		for _, literal := range noLiterals(atoms) {
			wantNoClauseOf(t, "no literal", []int{literal}, atoms)
			wantNoClauseOf(t, "no literal twice", []int{literal, literal}, atoms)
			if atoms > 0 {
				wantNoClauseOf(t, "no literal behind one", []int{-1, literal}, atoms)
				wantNoClauseOf(t, "no literal ahead of one", []int{literal, atoms}, atoms)
				wantNoClauseOf(t, "no literal among many", append(slices.Repeat([]int{1}, 800), literal), atoms)
			}
		}
	}
	wantNoClauseOf(t, "contrary", []int{1, -1}, 1)
	wantNoClauseOf(t, "contrary, the other way round", []int{-1, 1}, 1)
	wantNoClauseOf(t, "contrary with others between", []int{2, 3, -1, -2}, 3)
	wantNoClauseOf(t, "contrary, and each twice", []int{2, -2, 2, -2}, 2)
	wantNoClauseOf(t, "contrary at the end", append(allOfOneSign(maxAtoms, 1), -700), maxAtoms)
	wantNoClauseOf(t, "contrary at the begin", append(allOfOneSign(maxAtoms, -1), 1), maxAtoms)
}

func TestTrueInNoValues(t *testing.T) {
	for _, atoms := range []int{0, 1, 2, 64, maxAtoms} {
		for _, many := range []int{0, 1, 2, 3, 63, 64, 65, 699, 700, 701, 1400} {
			if many != atoms {
				wantTrueIn(t, "another number of bits", clausesOver(atoms), make([]int, many), false)
				wantTrueIn(t, "another number of bits", clausesOver(atoms), slices.Repeat([]int{1}, many), false)
			}
		}
	}
	for at := range 3 {
		for _, n := range notBits {
			values := []int{1, 1, 1}
			values[at] = n
			wantTrueIn(t, "no bits", clausesOver(3, []int{1 + (at+1)%3}), values, false)
			wantTrueIn(t, "no bits, no clauses", clausesOver(3), values, false)
		}
	}
}

func TestForcedByNoLiteralsOfTheClauses(t *testing.T) {
	for _, atoms := range []int{0, 1, 2, 3, 699} {
		wantNoForced(t, "the next atom", clausesOver(atoms), []int{atoms + 1})
		wantNoForced(t, "the next contrary", clausesOver(atoms), []int{-atoms - 1})
		wantForced(t, "none", clausesOver(atoms), nil)
	}
}

func TestResolvedOfNoClauses(t *testing.T) {
	for _, c := range noClauses(maxAtoms) {
		wantNoResolved(t, c.name, c.clause, []int{-1}, 1)
		wantNoResolved(t, c.name, []int{1}, c.clause, 1)
		wantNoResolved(t, c.name, c.clause, []int{-2, 3}, 2)
		wantNoResolved(t, c.name, []int{2, 3}, c.clause, 2)
		wantNoResolved(t, c.name, c.clause, contraries(c.clause), 1)
		for _, literal := range c.clause {
			wantNoResolved(t, c.name, c.clause, []int{-literal}, literal)
			wantNoResolved(t, c.name, []int{-literal}, c.clause, -literal)
		}
	}
	for _, atom := range noLiterals(maxAtoms) {
		wantNoResolved(t, "by no atom", []int{1}, []int{-1}, atom)
		wantNoResolved(t, "by no atom", []int{-1, 700}, []int{1, -700}, atom)
		wantNoResolved(t, "by no atom of no clauses", []int{atom}, []int{-atom}, atom)
		wantNoResolved(t, "by no atom of empty clauses", nil, nil, atom)
	}
}

func TestClausesOfNoCircuits(t *testing.T) {
	for _, x := range noCircuits() {
		for _, edge := range []int{0, 1, 2, 3, 4, -1, greatest, least} {
			wantNoClausesOf(t, x.name, x.c, edge)
		}
		for _, many := range []int{0, 1, 2, 3, 4, 5, maxInputs, maxInputs + 1, maxGates + 2, maxGates + 3, x.c.Inputs + len(x.c.Gates)} {
			if many >= 0 && many < 10*maxGates {
				wantInputsOf(t, x.name, x.c, make([]int, many))
			}
		}
	}
}

func TestClausesOfNoEdges(t *testing.T) {
	for _, c := range []impl.Circuit{circuit(0), circuit(1), circuit(2, [2]int{2, 4}), circuit(0, [2]int{1, 1}), longCircuit(maxInputs, maxGates)} {
		for _, edge := range noEdges(c) {
			wantNoClausesOf(t, "no edge", c, edge)
		}
	}
}

func TestInputsOfNoValues(t *testing.T) {
	for _, c := range []impl.Circuit{circuit(0), circuit(1), circuit(3), circuit(0, [2]int{1, 1}), circuit(2, [2]int{2, 4}, [2]int{3, 5}), longCircuit(maxInputs, maxGates)} {
		atoms := nodesIn(c) - 1
		for _, many := range []int{0, 1, 2, c.Inputs, atoms - 1, atoms + 1, atoms + 2, 2 * atoms, len(c.Gates)} {
			if many >= 0 && many != atoms {
				wantInputsOf(t, "another number of bits", c, make([]int, many))
				wantInputsOf(t, "another number of bits", c, slices.Repeat([]int{1}, many))
			}
		}
		for _, at := range []int{0, 1, c.Inputs, atoms - 1} {
			for _, n := range notBits {
				if at >= 0 && at < atoms {
					values := make([]int, atoms)
					values[at] = n
					wantInputsOf(t, "no bits", c, values)
				}
			}
		}
	}
}

// roomyClauses returns clauses with other numbers and clauses in the memory beyond their lengths, and all of that memory.
func roomyClauses() (impl.Clauses, [][]int, [][]int) {
	var list, wholes [][]int
	for _, clause := range rows([]int{-1, 2}, []int{-2, 3, -4}, []int{-5}, []int{2, 5}) {
		part, whole := roomyNumbers(clause...)
		list, wholes = append(list, part), append(wholes, whole)
	}
	all := append(list, []int{66}, []int{66})
	return clausesOver(5, all[:4]...), all, wholes
}

func TestArgumentsOfClausesStay(t *testing.T) {
	f, all, wholes := roomyClauses()
	given, wholeGiven := roomyNumbers(1, 4)
	mixed, wholeMixed := roomyNumbers(5, -1, 5, 3, -1)
	b, wholeB := roomyNumbers(-1, 2, 4)
	values, wholeValues := roomyNumbers(1, 1, 1, 1, 0)
	c, wholeGates := roomyCircuit()
	bits, wholeBits := roomyNumbers(1, 1, 0, 0, 1, 0)
	wantForced(t, "roomy", f, given, 1, 2, 3, 4, -5)
	wantNoForced(t, "roomy", f, mixed)
	wantNoForced(t, "roomy", f, []int{-3, 4})
	wantNoForced(t, "roomy", f, []int{1, -3, 4})
	wantClauseValid(t, "roomy", given, 5, true)
	wantClausesValid(t, "roomy", f, true)
	wantClauseOf(t, "roomy", mixed, 5, -1, 3, 5)
	wantTrueIn(t, "roomy", f, values, true)
	wantResolved(t, "roomy", given, b, 1, 2, 4)
	wantClausesText(t, "roomy", f, "p cnf 5 4\n-1 2 0\n-2 3 -4 0\n-5 0\n2 5 0\n")
	wantClausesOf(t, "roomy", c, 12, clausesOfByHand(c, 12).List...)
	wantInputsOf(t, "roomy", c, bits, 1, 1, 0)
	_, wantAll, wantWholes := roomyClauses()
	wantStates(t, "the clauses", all, wantAll...)
	wantStates(t, "the memory of the clauses", wholes, wantWholes...)
	for _, x := range []struct{ whole, want []int }{
		{wholeGiven, []int{1, 4}}, {wholeMixed, []int{5, -1, 5, 3, -1}}, {wholeB, []int{-1, 2, 4}}, {wholeValues, []int{1, 1, 1, 1, 0}}, {wholeBits, []int{1, 1, 0, 0, 1, 0}},
	} {
		_, want := roomyNumbers(x.want...)
		wantNumbers(t, "an argument", x.whole, want)
	}
	if _, want := roomyCircuit(); !slices.Equal(wholeGates, want) {
		t.Errorf("the gates = %v, want %v", wholeGates, want)
	}
}

func TestResultsOfClausesAreNewMemory(t *testing.T) {
	f := clausesOver(3, []int{-1, 2}, []int{-2, 3})
	c := circuit(2, [2]int{2, 4}, [2]int{2, 2})
	given, values := []int{1}, []int{1, 0, 0, 1}
	for range 2 {
		for _, clause := range rows([]int{1}, nil, []int{1, 2, 3}) {
			forced, _ := impl.Forced(f, clause)
			scribble(forced, 99)
			ordered, _ := impl.ClauseOf(clause, 3)
			scribble(ordered, 98)
		}
		resolved, _ := impl.Resolved(f.List[0], f.List[1], 2)
		scribble(resolved, 97)
		resolved, _ = impl.Resolved(given, f.List[0], 1)
		scribble(resolved, 96)
		scribble(impl.InputsOf(c, values), 95)
		g, _ := impl.ClausesOf(c, 6)
		for i, clause := range g.List {
			scribble(clause, 94)
			if i+1 < len(g.List) && slices.Contains(g.List[i+1], 94) {
				t.Error("two clauses share their memory")
			}
		}
		scribble(g.List, []int{93})
		wantStates(t, "the clauses", f.List, []int{-1, 2}, []int{-2, 3})
		wantNumbers(t, "what is given", given, []int{1})
		wantNumbers(t, "the values", values, []int{1, 0, 0, 1})
		wantForced(t, "afterwards", f, given, 1, 2, 3)
		wantClauseOf(t, "afterwards", given, 3, 1)
		wantResolved(t, "afterwards", f.List[0], f.List[1], 2, -1, 3)
		wantClausesOf(t, "afterwards", c, 6, clausesOfByHand(c, 6).List...)
		wantInputsOf(t, "afterwards", c, values, 1, 0)
	}
}
