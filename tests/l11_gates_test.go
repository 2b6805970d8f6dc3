package tests

import (
	"math/rand"
	"slices"
	"strings"
	"testing"

	"loop.example/wholecheck/impl"
)

func TestClausesOf(t *testing.T) {
	c := circuit(2, [2]int{2, 4})
	wantClausesOf(t, "a gate", c, 6, []int{1, -3}, []int{2, -3}, []int{-1, -2, 3}, []int{3})
	wantClausesOf(t, "the contrary of a gate", c, 7, []int{1, -3}, []int{2, -3}, []int{-1, -2, 3}, []int{-3})
	wantClausesOf(t, "an input beside a gate", c, 2, []int{1, -3}, []int{2, -3}, []int{-1, -2, 3}, []int{1})
	wantClausesOf(t, "contraries", circuit(2, [2]int{3, 5}), 7, []int{-1, -3}, []int{-2, -3}, []int{1, 2, 3}, []int{-3})
	wantClausesOf(t, "the higher edge first", circuit(2, [2]int{5, 2}), 6, []int{-2, -3}, []int{1, -3}, []int{-1, 2, 3}, []int{3})
	wantClausesOf(t, "a gate of a gate", circuit(1, [2]int{2, 2}, [2]int{5, 2}), 7,
		[]int{1, -2}, []int{1, -2}, []int{-1, 2}, []int{-2, -3}, []int{1, -3}, []int{-1, 2, 3}, []int{-3})
	wantClausesOf(t, "the same gate twice", circuit(2, [2]int{2, 4}, [2]int{2, 4}), 8,
		[]int{1, -3}, []int{2, -3}, []int{-1, -2, 3}, []int{1, -4}, []int{2, -4}, []int{-1, -2, 4}, []int{4})
}

func TestClausesOfInputs(t *testing.T) {
	for inputs := range maxInputs + 1 {
		c := circuit(inputs)
		wantClausesOf(t, "the constant 1", c, 1)
		wantClausesOf(t, "the constant 0", c, 0, nil)
		for input := range inputs {
			wantClausesOf(t, "an input", c, 2*input+2, []int{input + 1})
			wantClausesOf(t, "the contrary of an input", c, 2*input+3, []int{-input - 1})
		}
	}
}

func TestClausesOfConstantsInGates(t *testing.T) {
	wantClausesOf(t, "0 first", circuit(1, [2]int{0, 2}), 4, []int{-2}, []int{1, -2}, []int{2})
	wantClausesOf(t, "0 last", circuit(1, [2]int{3, 0}), 5, []int{-1, -2}, []int{-2}, []int{-2})
	wantClausesOf(t, "1 first", circuit(1, [2]int{1, 2}), 4, []int{1, -2}, []int{-1, 2}, []int{2})
	wantClausesOf(t, "1 last", circuit(1, [2]int{3, 1}), 4, []int{-1, -2}, []int{1, 2}, []int{2})
	wantClausesOf(t, "0 twice", circuit(0, [2]int{0, 0}), 2, []int{-1}, []int{-1}, []int{1})
	wantClausesOf(t, "1 twice", circuit(0, [2]int{1, 1}), 3, []int{1}, []int{-1})
	wantClausesOf(t, "0 and 1", circuit(0, [2]int{0, 1}), 2, []int{-1}, []int{1})
	wantClausesOf(t, "1 and 0", circuit(0, [2]int{1, 0}), 2, []int{-1}, []int{1})
	wantClausesOf(t, "0 beside a gate of constants", circuit(0, [2]int{1, 1}), 0, []int{1}, nil)
	wantClausesOf(t, "1 beside a gate of constants", circuit(0, [2]int{1, 0}), 1, []int{-1})
}

func TestClausesOfEqualEdges(t *testing.T) {
	wantClausesOf(t, "an input twice", circuit(1, [2]int{2, 2}), 4, []int{1, -2}, []int{1, -2}, []int{-1, 2}, []int{2})
	wantClausesOf(t, "a contrary twice", circuit(1, [2]int{3, 3}), 4, []int{-1, -2}, []int{-1, -2}, []int{1, 2}, []int{2})
	wantClausesOf(t, "an input and its contrary", circuit(1, [2]int{2, 3}), 4, []int{1, -2}, []int{-1, -2}, []int{2})
	wantClausesOf(t, "a contrary and its input", circuit(1, [2]int{3, 2}), 5, []int{-1, -2}, []int{1, -2}, []int{-2})
	wantClausesOf(t, "a gate and its contrary", circuit(1, [2]int{2, 1}, [2]int{4, 5}), 6,
		[]int{1, -2}, []int{-1, 2}, []int{2, -3}, []int{-2, -3}, []int{3})
}

func TestClausesOfSomeCircuits(t *testing.T) {
	r := rand.New(rand.NewSource(118))
	for range 600 {
		c := someCircuit(r, 6, 20)
		edge := someEdge(r, c)
		wantClausesOf(t, "by hand", c, edge, clausesOfByHand(c, edge).List...)
	}
	for _, c := range []impl.Circuit{longCircuit(2, maxGates), longCircuit(maxInputs, maxGates), {Gates: make([]impl.And, maxGates)}} {
		for _, edge := range []int{0, 1, 2, 2*nodesIn(c) - 2, 2*nodesIn(c) - 1} {
			wantClausesOf(t, "600 gates, by hand", c, edge, clausesOfByHand(c, edge).List...)
			f, _ := impl.ClausesOf(c, edge)
			wantClausesValid(t, "600 gates", f, true)
		}
	}
}

// For each row of bits, the values of the nodes, and no others, make the clauses true, if the edge is 1.
func TestClausesOfAreTrueWhereTheEdgeIs(t *testing.T) {
	r := rand.New(rand.NewSource(119))
	for range 150 {
		c := someCircuit(r, 3, 5)
		for _, edge := range edgesIn(c) {
			f, ok := impl.ClausesOf(c, edge)
			if !ok {
				t.Errorf("ClausesOf(%v, %d) tells nothing", shown(c), edge)
			}
			eachRow(f.Atoms, func(values []int) {
				row := impl.InputsOf(c, values)
				nodes := nodeValuesByHand(c, row)
				want := slices.Equal(nodes[1:], values) && edgeByHand(nodes, edge) == 1
				wantTrueIn(t, "the clauses of a circuit", f, values, want)
			})
		}
	}
}

// The values of all nodes follow one by one from those of the inputs.
func TestNodesAreForced(t *testing.T) {
	r := rand.New(rand.NewSource(120))
	for range 100 {
		c := someCircuit(r, maxInputs, 60)
		f, _ := impl.ClausesOf(c, 1)
		row := someRow(r, c.Inputs)
		nodes := nodeValuesByHand(c, row)
		all := allOfOneSign(f.Atoms, 1)
		for i := range all {
			all[i] *= 2*nodes[1+i] - 1
		}
		wantForced(t, "the nodes of a circuit", f, all[:c.Inputs], all...)
	}
}

func TestInputsOf(t *testing.T) {
	wantInputsOf(t, "no inputs", circuit(0), nil)
	wantInputsOf(t, "no inputs", circuit(0), []int{})
	wantInputsOf(t, "no inputs, gates alone", circuit(0, [2]int{1, 1}, [2]int{0, 1}), []int{1, 0})
	wantInputsOf(t, "inputs alone", circuit(3), []int{1, 0, 1}, 1, 0, 1)
	c := circuit(2, [2]int{2, 4}, [2]int{3, 5})
	wantInputsOf(t, "with gates", c, []int{1, 0, 0, 0}, 1, 0)
	wantInputsOf(t, "with gates", c, []int{0, 1, 1, 1}, 0, 1)
	wantInputsOf(t, "values that the gates don't have", c, []int{1, 1, 0, 1}, 1, 1)
	full := longCircuit(maxInputs, maxGates)
	row := []int{1, 0, 0, 1, 1, 1, 0, 0, 0, 0, 1, 0}
	wantInputsOf(t, "as many as may be", full, nodeValuesByHand(full, row)[1:], row...)
}

func TestClausesText(t *testing.T) {
	wantClausesText(t, "no atoms and no clauses", impl.Clauses{}, "p cnf 0 0\n")
	wantClausesText(t, "no clauses", clausesOver(700), "p cnf 700 0\n")
	wantClausesText(t, "the empty clause", clausesOver(0, nil), "p cnf 0 1\n0\n")
	wantClausesText(t, "the empty clause twice", clausesOver(3, nil, []int{}), "p cnf 3 2\n0\n0\n")
	wantClausesText(t, "one literal", clausesOver(1, []int{1}), "p cnf 1 1\n1 0\n")
	wantClausesText(t, "the example", clausesOver(3, []int{-1, 2}, []int{-2, 3}), "p cnf 3 2\n-1 2 0\n-2 3 0\n")
	wantClausesText(t, "in their order", clausesOver(12, []int{-3, 10, -12}, nil, []int{1}, []int{1}), "p cnf 12 4\n-3 10 -12 0\n0\n1 0\n1 0\n")
}

func TestClausesTextOfSomeClauses(t *testing.T) {
	r := rand.New(rand.NewSource(121))
	long := 0
	for range 400 {
		f := someClauses(r, r.Intn(200), 80, 40)
		want := clausesTextByHand(f)
		if len(want) > maxText {
			want = ""
			long++
		}
		wantClausesText(t, "by hand", f, want)
	}
	if long < 40 || long > 300 {
		t.Errorf("%d texts were too long", long)
	}
}

func TestClausesTextOfTheGreatestLength(t *testing.T) {
	// Clauses of 601 and of 393 literals of four bytes, the last one short.
	three := allOfOneSign(maxAtoms, 1)[99:]
	f := clausesOver(maxAtoms, three, three[:393], nil)
	for _, c := range []struct {
		last  []int
		bytes int
	}{{[]int{1, 2}, 3998}, {[]int{-1, 2}, 3999}, {[]int{-1, -2}, 4000}, {[]int{-1, 20}, 4000}, {[]int{-1, -20}, 4001}, {[]int{1, 2, 3, 4}, 4002}} {
		f.List[2] = c.last
		want := clausesTextByHand(f)
		if len(want) != c.bytes {
			t.Fatalf("the text has %d bytes, want %d", len(want), c.bytes)
		}
		if c.bytes > maxText {
			want = ""
		}
		wantClausesText(t, "at the limit", f, want)
	}
	empty := func(many int) impl.Clauses { return clausesOver(10, make([][]int, many)...) }
	head := "p cnf 10 1993\n"
	wantClausesText(t, "empty clauses, as many as may be", empty(1993), head+strings.Repeat("0\n", 1993))
	wantClausesText(t, "empty clauses, one too many", empty(1994), "")
	wantClausesText(t, "as many clauses as may be", empty(maxClauses), "")
}
