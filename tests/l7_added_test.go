package tests

import (
	"math/rand"
	"slices"
	"testing"

	"loop.example/wholecheck/impl"
)

func TestExampleOfCircuits(t *testing.T) {
	wantAnd(t, "the example", circuit(2), 4, 2, made{circuit(2, [2]int{2, 4}), 6})
}

// plainCircuits are circuits to which And of a constant, of an edge and itself, and of contraries adds nothing, even where there is such a gate or no room.
func plainCircuits() []impl.Circuit {
	return []impl.Circuit{
		circuit(2),
		circuit(2, [2]int{2, 4}, [2]int{3, 5}),
		circuit(2, [2]int{0, 0}, [2]int{0, 1}, [2]int{1, 1}, [2]int{0, 2}, [2]int{1, 4}, [2]int{2, 2}, [2]int{2, 3}, [2]int{3, 3}, [2]int{4, 5}),
		longCircuit(2, maxGates-1),
		longCircuit(2, maxGates),
	}
}

// someEdgesIn returns the first edges and the last ones of a circuit.
func someEdgesIn(c impl.Circuit) []int {
	all := edgesIn(c)
	if len(all) <= 30 {
		return all
	}
	return slices.Concat(all[:10], all[len(all)-10:])
}

func TestAndWithoutGates(t *testing.T) {
	for _, c := range plainCircuits() {
		for _, edge := range someEdgesIn(c) {
			wantAnd(t, "with 0", c, 0, edge, made{c, 0})
			wantAnd(t, "with 1", c, 1, edge, made{c, edge})
			wantAnd(t, "with itself", c, edge, edge, made{c, edge})
			wantAnd(t, "with the contrary", c, edge, contraryByHand(edge), made{c, 0})
		}
	}
	wantAnd(t, "both constants", circuit(0), 0, 1, made{circuit(0), 0})
	wantAnd(t, "0 twice", circuit(0), 0, 0, made{circuit(0), 0})
	wantAnd(t, "1 twice", circuit(0), 1, 1, made{circuit(0), 1})
}

func TestOrWithoutGates(t *testing.T) {
	for _, c := range plainCircuits() {
		for _, edge := range someEdgesIn(c) {
			wantOr(t, "with 0", c, 0, edge, made{c, edge})
			wantOr(t, "with 1", c, 1, edge, made{c, 1})
			wantOr(t, "with itself", c, edge, edge, made{c, edge})
			wantOr(t, "with the contrary", c, edge, contraryByHand(edge), made{c, 1})
		}
	}
	wantOr(t, "both constants", circuit(0), 0, 1, made{circuit(0), 1})
	wantOr(t, "0 twice", circuit(0), 0, 0, made{circuit(0), 0})
	wantOr(t, "1 twice", circuit(0), 1, 1, made{circuit(0), 1})
}

func TestAndOfInputs(t *testing.T) {
	c := circuit(2)
	wantAnd(t, "a contrary", c, 3, 4, made{circuit(2, [2]int{3, 4}), 6})
	wantAnd(t, "the other contrary", c, 2, 5, made{circuit(2, [2]int{2, 5}), 6})
	wantAnd(t, "both contraries", c, 3, 5, made{circuit(2, [2]int{3, 5}), 6})
	one := circuit(3, [2]int{2, 4})
	wantAnd(t, "behind another gate", one, 4, 7, made{circuit(3, [2]int{2, 4}, [2]int{4, 7}), 10})
	wantAnd(t, "of a gate", one, 9, 2, made{circuit(3, [2]int{2, 4}, [2]int{2, 9}), 10})
	wantAnd(t, "of the last input and a gate", one, 8, 6, made{circuit(3, [2]int{2, 4}, [2]int{6, 8}), 10})
}

func TestOrOfInputs(t *testing.T) {
	c := circuit(2)
	wantOr(t, "inputs", c, 2, 4, made{circuit(2, [2]int{3, 5}), 7})
	wantOr(t, "a contrary", c, 3, 4, made{circuit(2, [2]int{2, 5}), 7})
	wantOr(t, "the other contrary", c, 2, 5, made{circuit(2, [2]int{3, 4}), 7})
	wantOr(t, "both contraries", c, 3, 5, made{circuit(2, [2]int{2, 4}), 7})
	wantOr(t, "of a gate", circuit(3, [2]int{2, 4}), 9, 2, made{circuit(3, [2]int{2, 4}, [2]int{3, 8}), 11})
}

func TestGatesThatAreThere(t *testing.T) {
	c := circuit(3, [2]int{2, 4}, [2]int{3, 5}, [2]int{2, 9})
	wantAnd(t, "the first gate", c, 2, 4, made{c, 8})
	wantAnd(t, "the second gate", c, 3, 5, made{c, 10})
	wantAnd(t, "the last gate", c, 2, 9, made{c, 12})
	wantAnd(t, "a gate's contrary", c, 2, 8, made{circuit(3, [2]int{2, 4}, [2]int{3, 5}, [2]int{2, 9}, [2]int{2, 8}), 14})
	wantOr(t, "the second gate", c, 2, 4, made{c, 11})
	wantOr(t, "the first gate", c, 3, 5, made{c, 9})
	twice := circuit(2, [2]int{3, 4}, [2]int{2, 4}, [2]int{2, 4}, [2]int{3, 4})
	wantAnd(t, "the first of two", twice, 2, 4, made{twice, 8})
	wantAnd(t, "the first of two with others between", twice, 3, 4, made{twice, 6})
	wantOr(t, "the first of two with others between", twice, 2, 5, made{twice, 7})
	turned := circuit(2, [2]int{4, 2})
	wantAnd(t, "a gate with the higher edge first is another one", turned, 2, 4, made{circuit(2, [2]int{4, 2}, [2]int{2, 4}), 8})
	both := circuit(2, [2]int{4, 2}, [2]int{2, 4})
	wantAnd(t, "a gate behind one with the higher edge first", both, 2, 4, made{both, 8})
	wantAnd(t, "half of a gate", circuit(2, [2]int{2, 2}, [2]int{4, 4}), 2, 4, made{circuit(2, [2]int{2, 2}, [2]int{4, 4}, [2]int{2, 4}), 10})
}

// The contraries of a gate's edges don't make the contrary of the gate.
func TestOrIsNoGateOfItsEdges(t *testing.T) {
	c := circuit(2, [2]int{2, 4})
	wantOr(t, "a gate of the same edges", c, 2, 4, made{circuit(2, [2]int{2, 4}, [2]int{3, 5}), 9})
}

func TestPickWithoutGates(t *testing.T) {
	for _, c := range plainCircuits() {
		for _, edge := range someEdgesIn(c) {
			other := (edge + 3) % (2 * nodesIn(c))
			wantPick(t, "the same edge twice", c, other, edge, edge, made{c, edge})
			wantPick(t, "the same edge three times", c, edge, edge, edge, made{c, edge})
			wantPick(t, "by 1", c, 1, edge, other, made{c, edge})
			wantPick(t, "by 0", c, 0, edge, other, made{c, other})
			wantPick(t, "1 and 0", c, edge, 1, 0, made{c, edge})
			wantPick(t, "0 and 1", c, edge, 0, 1, made{c, contraryByHand(edge)})
			wantPick(t, "itself and 0", c, edge, edge, 0, made{c, edge})
			wantPick(t, "0 and itself", c, edge, 0, edge, made{c, 0})
			wantPick(t, "itself and its contrary", c, edge, edge, contraryByHand(edge), made{c, 1})
			wantPick(t, "its contrary and itself", c, edge, contraryByHand(edge), edge, made{c, 0})
		}
	}
}

func TestPickOfInputs(t *testing.T) {
	wantPick(t, "inputs", circuit(3), 2, 4, 6, made{circuit(3, [2]int{2, 4}, [2]int{3, 6}, [2]int{9, 11}), 13})
	wantPick(t, "by a contrary", circuit(3), 3, 4, 6, made{circuit(3, [2]int{3, 4}, [2]int{2, 6}, [2]int{9, 11}), 13})
	wantPick(t, "by the last input", circuit(3), 6, 5, 3, made{circuit(3, [2]int{5, 6}, [2]int{3, 7}, [2]int{9, 11}), 13})
	wantPick(t, "contraries", circuit(2), 2, 4, 5, made{circuit(2, [2]int{2, 4}, [2]int{3, 5}, [2]int{7, 9}), 11})
	c := circuit(2)
	wantPick(t, "an input and 0", c, 2, 4, 0, made{circuit(2, [2]int{2, 4}), 6})
	wantPick(t, "0 and an input", c, 2, 0, 4, made{circuit(2, [2]int{3, 4}), 6})
	wantPick(t, "1 and an input", c, 2, 1, 4, made{circuit(2, [2]int{3, 4}, [2]int{3, 7}), 9})
	wantPick(t, "an input and 1", c, 2, 4, 1, made{circuit(2, [2]int{2, 4}, [2]int{2, 7}), 9})
	wantPick(t, "itself and an input", c, 2, 2, 4, made{circuit(2, [2]int{3, 4}, [2]int{3, 7}), 9})
	wantPick(t, "its contrary and an input", c, 2, 3, 4, made{circuit(2, [2]int{3, 4}), 6})
	wantPick(t, "an input and itself", c, 2, 4, 2, made{circuit(2, [2]int{2, 4}), 6})
}

func TestPickOfGatesThatAreThere(t *testing.T) {
	all := made{circuit(3, [2]int{2, 4}, [2]int{3, 6}, [2]int{9, 11}), 13}
	turned := made{circuit(3, [2]int{3, 6}, [2]int{2, 4}, [2]int{9, 11}), 13}
	wantPick(t, "all gates", all.c, 2, 4, 6, all)
	wantPick(t, "the first gate", circuit(3, [2]int{2, 4}), 2, 4, 6, all)
	wantPick(t, "the second gate", circuit(3, [2]int{3, 6}), 2, 4, 6, turned)
	wantPick(t, "both gates", circuit(3, [2]int{3, 6}, [2]int{2, 4}), 2, 4, 6, turned)
}

func TestTheLastGate(t *testing.T) {
	c, full := longCircuit(5, maxGates-1), longCircuit(5, maxGates-1)
	full.Gates = append(full.Gates, impl.And{A: 7, B: 9})
	last := 2*nodesIn(full) - 2
	wantAnd(t, "the last gate", c, 7, 9, made{full, last})
	wantOr(t, "the last gate", c, 6, 8, made{full, last + 1})
	wantAnd(t, "a gate that is there", full, 7, 9, made{full, last})
	wantOr(t, "a gate that is there", full, 6, 8, made{full, last + 1})
	wantAnd(t, "the first gate", full, 2, 4, made{full, 12})
	wantAnd(t, "one gate too many", full, 7, 8, nothing())
	wantOr(t, "one gate too many", full, 7, 8, nothing())
	wantAnd(t, "one gate too many, of the last one", full, 6, last+1, nothing())
	wantOr(t, "one gate too many, of the last one", full, 6, last+1, nothing())
}

func TestTheLastGatesOfPick(t *testing.T) {
	for left := range 5 {
		c := longCircuit(5, maxGates-left)
		for _, x := range []struct{ yes, no, gates int }{{8, 10, 3}, {8, 1, 2}, {1, 8, 2}, {8, 0, 1}, {0, 8, 1}, {1, 0, 0}} {
			want := nothing()
			if x.gates <= left {
				want = madeOf(pickByHand(c, 6, x.yes, x.no))
			}
			wantPick(t, "the last gates", c, 6, x.yes, x.no, want)
		}
	}
}

// The gates of a pick that are there already take no room.
func TestTheLastGatesOfPickThatAreThere(t *testing.T) {
	picked, _ := pickByHand(circuit(5), 6, 8, 10)
	for left := range 3 {
		for there := range 4 {
			c := circuit(5)
			c.Gates = slices.Clone(picked.Gates[:there])
			for len(c.Gates) < maxGates-left {
				c.Gates = append(c.Gates, impl.And{A: 3, B: 2*nodesIn(c) - 1})
			}
			want := nothing()
			if 3-there <= left {
				want = madeOf(pickByHand(c, 6, 8, 10))
			}
			wantPick(t, "gates that are there", c, 6, 8, 10, want)
		}
	}
}

// Promise 7: what is added has the value it is told to have, and the gates that were there are as they were.
func TestWhatIsAddedHasItsValue(t *testing.T) {
	r := rand.New(rand.NewSource(75))
	for range 400 {
		c := someCircuit(r, 6, 20)
		by, a, b := someEdge(r, c), someEdge(r, c), someEdge(r, c)
		and, or, pick := madeOf(impl.AddAnd(c, a, b)), madeOf(impl.AddOr(c, a, b)), madeOf(impl.AddPick(c, by, a, b))
		for _, x := range []made{and, or, pick} {
			wantCircuitValid(t, "what is made", x.c, true)
			if x.c.Inputs != c.Inputs || len(x.c.Gates) < len(c.Gates) || !slices.Equal(x.c.Gates[:len(c.Gates)], c.Gates) {
				t.Fatalf("%v became %v", c, x)
			}
		}
		eachRow(c.Inputs, func(row []int) {
			values := nodeValuesByHand(c, row)
			one, other, picked := edgeByHand(values, a), edgeByHand(values, b), edgeByHand(values, b)
			if edgeByHand(values, by) == 1 {
				picked = one
			}
			wantEdgeValue(t, "And", and.c, row, and.edge, one*other)
			wantEdgeValue(t, "Or", or.c, row, or.edge, max(one, other))
			wantEdgeValue(t, "Pick", pick.c, row, pick.edge, picked)
		})
	}
}

func TestWhatIsAddedToSomeCircuits(t *testing.T) {
	r := rand.New(rand.NewSource(76))
	for range 2000 {
		c := someCircuit(r, maxInputs, 30)
		by, a, b := someEdge(r, c), someEdge(r, c), someEdge(r, c)
		wantAnd(t, "by hand", c, a, b, madeOf(andByHand(c, a, b)))
		wantOr(t, "by hand", c, a, b, madeOf(orByHand(c, a, b)))
		wantPick(t, "by hand", c, by, a, b, madeOf(pickByHand(c, by, a, b)))
	}
}

// From no gates on until there is no room, whatever is added.
func TestFillingCircuits(t *testing.T) {
	r := rand.New(rand.NewSource(77))
	for _, inputs := range []int{2, 5, maxInputs} {
		c := circuit(inputs)
		for range 1500 {
			by, a, b := someEdge(r, c), someEdge(r, c), someEdge(r, c)
			want := madeOf(pickByHand(c, by, a, b))
			wantPick(t, "by hand", c, by, a, b, want)
			if want.edge >= 0 {
				c = want.c
			}
		}
		if len(c.Gates) < maxGates-2 {
			t.Errorf("a circuit of %d inputs has no more than %d gates", inputs, len(c.Gates))
		}
	}
}
