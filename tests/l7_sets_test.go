package tests

import (
	"math/rand"
	"slices"
	"testing"

	"loop.example/wholecheck/impl"
)

func TestCircuitOf(t *testing.T) {
	two := impl.System{Vars: vars(impl.Var{High: 1}, impl.Var{Low: 4, High: 5, First: 4})}
	wantCircuitOf(t, "the empty set", two, nil, made{circuit(2), 0})
	wantCircuitOf(t, "the empty set", two, []int{}, made{circuit(2), 0})
	wantCircuitOf(t, "all states", two, []int{0, 1, 2, 3}, made{circuit(2), 1})
	wantCircuitOf(t, "the first bit", two, []int{2, 3}, made{circuit(2), 2})
	wantCircuitOf(t, "the contrary of the first bit", two, []int{0, 1}, made{circuit(2), 3})
	wantCircuitOf(t, "the second bit", two, []int{1, 3}, made{circuit(2), 4})
	wantCircuitOf(t, "the contrary of the second bit", two, []int{0, 2}, made{circuit(2), 5})
	wantCircuitOf(t, "the last state", two, []int{3}, made{circuit(2, [2]int{2, 4}), 6})
	wantCircuitOf(t, "the first state", two, []int{0}, made{circuit(2, [2]int{3, 5}), 6})
	wantCircuitOf(t, "states that differ in both bits", two, []int{1, 2}, made{circuit(2, [2]int{2, 5}, [2]int{3, 4}, [2]int{7, 9}), 11})
	wantCircuitOf(t, "all but the first state", two, []int{1, 2, 3}, made{circuit(2, [2]int{3, 4}, [2]int{3, 7}), 9})
}

// The states of fewer values than rows of bits don't have all rows.
func TestCircuitOfAllStates(t *testing.T) {
	three := oneVar(-1, 1, 0)
	wantCircuitOf(t, "three values", three, []int{0, 1, 2}, made{circuit(2, [2]int{2, 5}, [2]int{2, 7}), 9})
	wantCircuitOf(t, "the last one of three", three, []int{2}, made{circuit(2, [2]int{2, 5}), 6})
	wantCircuitOf(t, "four values", oneVar(-1, 2, 0), []int{0, 1, 2, 3}, made{circuit(2), 1})
	wantCircuitOf(t, "one value", oneVar(7, 7, 7), []int{0}, made{circuit(0), 1})
	wantCircuitOf(t, "one value, the empty set", oneVar(7, 7, 7), nil, made{circuit(0), 0})
	wantCircuitOf(t, "one value of five", spans(1, 1, 1, 1, 1), []int{0}, made{circuit(0), 1})
	wantCircuitOf(t, "one value of five, the empty set", spans(1, 1, 1, 1, 1), []int{}, made{circuit(0), 0})
	wantCircuitOf(t, "one value between", spans(2, 1, 2), []int{1, 2}, made{circuit(2, [2]int{2, 5}, [2]int{3, 4}, [2]int{7, 9}), 11})
	five := circuit(3, [2]int{5, 7}, [2]int{2, 8}, [2]int{2, 11})
	wantCircuitOf(t, "five values", oneVar(0, 4, 0), firstNumbers(5), made{five, 13})
}

// The gates of the rows in which a bit is 1 are put first, those of the others then, and its own ones last.
func TestOrderOfGatesOfSets(t *testing.T) {
	eight := spans(2, 2, 2)
	want := circuit(3, [2]int{4, 6}, [2]int{5, 7}, [2]int{2, 8}, [2]int{3, 10}, [2]int{13, 15})
	wantCircuitOf(t, "the first and the last one", eight, []int{0, 7}, made{want, 17})
	want = circuit(3, [2]int{5, 7}, [2]int{4, 6}, [2]int{2, 8}, [2]int{3, 10}, [2]int{13, 15})
	wantCircuitOf(t, "those between", eight, []int{3, 4}, made{want, 17})
	want = circuit(3, [2]int{4, 6}, [2]int{5, 7}, [2]int{9, 11}, [2]int{4, 7}, [2]int{5, 6}, [2]int{15, 17}, [2]int{2, 13}, [2]int{3, 19}, [2]int{21, 23})
	wantCircuitOf(t, "an odd number of ones", eight, []int{1, 2, 4, 7}, made{want, 25})
	want = circuit(3, [2]int{4, 7}, [2]int{5, 6}, [2]int{9, 11})
	wantCircuitOf(t, "the same rows behind both values", eight, []int{1, 2, 5, 6}, made{want, 13})
}

func TestCircuitOfWideSystems(t *testing.T) {
	r := rand.New(rand.NewSource(78))
	for _, c := range wideSystems() {
		for _, set := range [][]int{nil, firstNumbers(c.size), {c.size - 1}, {0}, someSet(r, c.size), someSet(r, c.size), someSet(r, c.size)} {
			wantCircuitOf(t, c.name, c.s, set, madeOf(circuitOfByHand(c.s, set)))
		}
	}
}

// What is told of a set is 1 for the bits of its states, and for no other row.
func TestCircuitOfTellsStates(t *testing.T) {
	r := rand.New(rand.NewSource(79))
	for range 150 {
		s := someSystem(r, 60)
		set := someSet(r, len(allStates(s)))
		c, edge := impl.CircuitOf(s, set)
		wantCircuitValid(t, "of a set", c, true)
		in := allBitsByHand(s, set)
		eachRow(widthOf(s), func(row []int) {
			is := slices.ContainsFunc(in, func(other []int) bool { return slices.Equal(row, other) })
			wantEdgeValue(t, "of a set", c, row, edge, boolOf(is))
		})
	}
}

func TestCircuitOfSomeSets(t *testing.T) {
	r := rand.New(rand.NewSource(80))
	for range 300 {
		s := someSystem(r, maxStates)
		set := someSet(r, len(allStates(s)))
		wantCircuitOf(t, "by hand", s, set, madeOf(circuitOfByHand(s, set)))
	}
}

func TestFixed(t *testing.T) {
	c := circuit(2, [2]int{2, 4})
	wantFixed(t, "1", c, 6, 0, 1, made{circuit(2), 4})
	wantFixed(t, "1, the contrary", c, 7, 0, 1, made{circuit(2), 5})
	wantFixed(t, "0", c, 6, 0, 0, made{circuit(2), 0})
	wantFixed(t, "0, the contrary", c, 7, 0, 0, made{circuit(2), 1})
	wantFixed(t, "the second input", c, 6, 1, 1, made{circuit(2), 2})
	wantFixed(t, "the second input is 0", c, 6, 1, 0, made{circuit(2), 0})
	wantFixed(t, "the input itself is 1", c, 2, 0, 1, made{circuit(2), 1})
	wantFixed(t, "the input itself is 0", c, 2, 0, 0, made{circuit(2), 0})
	wantFixed(t, "the contrary of the input, which is 1", c, 3, 0, 1, made{circuit(2), 0})
	wantFixed(t, "the contrary of the input, which is 0", c, 3, 0, 0, made{circuit(2), 1})
	wantFixed(t, "another input", c, 4, 0, 1, made{circuit(2), 4})
	wantFixed(t, "a constant", c, 0, 0, 1, made{circuit(2), 0})
	wantFixed(t, "the other constant", c, 1, 1, 0, made{circuit(2), 1})
	wantFixed(t, "without gates", circuit(1), 2, 0, 1, made{circuit(1), 1})
	wantFixed(t, "the last of twelve", circuit(12, [2]int{2, 24}), 26, 11, 1, made{circuit(12), 2})
}

func TestFixedInputsThatAreNotNeeded(t *testing.T) {
	c := circuit(4, [2]int{2, 4}, [2]int{5, 6}, [2]int{11, 13})
	for value := range 2 {
		wantFixed(t, "no gate needs it", c, 15, 3, value, made{c, 15})
		wantFixed(t, "no gate needs it, and no gate is needed", c, 4, 3, value, made{c, 4})
		wantFixed(t, "no gate needs it, and none is there", circuit(4), 4, 3, value, made{circuit(4), 4})
	}
	// The edge {5 6} doesn't need the first input, but the other gates do, and go all the same.
	wantFixed(t, "other gates need it", c, 12, 0, 0, made{circuit(4, [2]int{5, 6}), 10})
	wantFixed(t, "other gates need it and stay", c, 12, 0, 1, made{circuit(4, [2]int{5, 6}, [2]int{5, 11}), 10})
}

// All gates are put again, whether the edge needs them or not, each one as And puts it.
func TestFixedPutsAllGates(t *testing.T) {
	c := circuit(3, [2]int{4, 6}, [2]int{6, 4}, [2]int{4, 6}, [2]int{7, 4}, [2]int{1, 6}, [2]int{0, 4}, [2]int{2, 6}, [2]int{6, 9})
	want := circuit(3, [2]int{4, 6}, [2]int{4, 7}, [2]int{6, 9})
	for edge, became := range map[int]int{8: 8, 10: 8, 12: 8, 13: 9, 14: 10, 16: 6, 17: 7, 18: 0, 19: 1, 20: 6, 22: 12, 23: 13} {
		wantFixed(t, "gates again", c, edge, 0, 1, made{want, became})
	}
	wantFixed(t, "a gate that becomes the contrary of another one", circuit(3, [2]int{2, 6}, [2]int{4, 6}, [2]int{9, 11}), 12, 0, 0, made{circuit(3, [2]int{4, 6}), 9})
	wantFixed(t, "contraries that meet", circuit(2, [2]int{2, 4}, [2]int{5, 6}), 8, 0, 1, made{circuit(2), 0})
	wantFixed(t, "the same edge twice", circuit(2, [2]int{2, 4}, [2]int{4, 6}), 8, 0, 1, made{circuit(2), 4})
	wantFixed(t, "edges in another order", circuit(3, [2]int{2, 4}, [2]int{6, 8}), 10, 0, 1, made{circuit(3, [2]int{4, 6}), 8})
}

func TestFixedInLongCircuits(t *testing.T) {
	full := longCircuit(3, maxGates)
	last := 2*nodesIn(full) - 1
	for value := range 2 {
		wantFixed(t, "600 gates stay", full, last, 2, value, made{full, last})
		for input := range 3 {
			wantFixed(t, "600 gates", full, last, input, value, madeOf(fixedByHand(full, last, input, value)))
		}
	}
}

func TestFixedOfSomeCircuits(t *testing.T) {
	r := rand.New(rand.NewSource(81))
	for range 1000 {
		c := someCircuit(r, maxInputs, 30)
		for input := range c.Inputs {
			edge, value := someEdge(r, c), r.Intn(2)
			wantFixed(t, "by hand", c, edge, input, value, madeOf(fixedByHand(c, edge, input, value)))
		}
	}
}

// What becomes of an edge has its value where the input has the fixed one, and needs the input no more.
func TestFixedHasItsValue(t *testing.T) {
	r := rand.New(rand.NewSource(82))
	for range 600 {
		c := someCircuit(r, 6, 20)
		if c.Inputs == 0 {
			continue
		}
		edge, input, value := someEdge(r, c), r.Intn(c.Inputs), r.Intn(2)
		got := madeOf(impl.Fixed(c, edge, input, value))
		wantCircuitValid(t, "fixed", got.c, true)
		if got.c.Inputs != c.Inputs || slices.Contains(impl.NeedsInputs(got.c, got.edge), input) {
			t.Errorf("Fixed(%v, %d, %d, %d) = %v has other inputs, or needs this one", c, edge, input, value, got)
		}
		eachRow(c.Inputs, func(row []int) {
			fixed := slices.Clone(row)
			fixed[input] = value
			wantEdgeValue(t, "fixed", got.c, row, got.edge, edgeByHand(nodeValuesByHand(c, fixed), edge))
		})
	}
}
