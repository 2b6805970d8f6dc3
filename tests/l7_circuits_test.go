package tests

import (
	"math/rand"
	"slices"
	"testing"

	"loop.example/wholecheck/impl"
)

func TestLimitsOfCircuits(t *testing.T) {
	if impl.MaxInputs != maxInputs || impl.MaxGates != maxGates {
		t.Error("the limits of circuits are not what the document says")
	}
}

func TestCircuitValid(t *testing.T) {
	for inputs := range maxInputs + 1 {
		wantCircuitValid(t, "no gates", circuit(inputs), true)
		own := 2 * (1 + inputs)
		wantCircuitValid(t, "the first gate of the last edge ahead", circuit(inputs, [2]int{own - 1, own - 1}), true)
		wantCircuitValid(t, "the second gate of the first one's edges", circuit(inputs, [2]int{0, 0}, [2]int{own, own + 1}), true)
	}
	wantCircuitValid(t, "gates of constants", circuit(0, [2]int{0, 0}, [2]int{0, 1}, [2]int{1, 0}, [2]int{1, 1}), true)
	wantCircuitValid(t, "the higher edge first", circuit(2, [2]int{4, 2}), true)
	wantCircuitValid(t, "the same gate twice", circuit(2, [2]int{2, 4}, [2]int{2, 4}), true)
	wantCircuitValid(t, "an edge and its contrary", circuit(1, [2]int{2, 3}, [2]int{3, 3}), true)
	wantCircuitValid(t, "empty gates", impl.Circuit{Gates: []impl.And{}}, true)
	wantCircuitValid(t, "as many gates as may be", longCircuit(12, maxGates), true)
	wantCircuitValid(t, "as many gates as may be, without inputs", impl.Circuit{Gates: make([]impl.And, maxGates)}, true)
}

func TestNodeValues(t *testing.T) {
	wantNodeValues(t, "no inputs", circuit(0), nil, 0)
	wantNodeValues(t, "no inputs", circuit(0), []int{}, 0)
	wantNodeValues(t, "gates of constants", circuit(0, [2]int{0, 0}, [2]int{0, 1}, [2]int{1, 0}, [2]int{1, 1}), nil, 0, 0, 0, 0, 1)
	wantNodeValues(t, "inputs alone", circuit(3), []int{1, 0, 1}, 0, 1, 0, 1)
	and := circuit(2, [2]int{2, 4}, [2]int{3, 4}, [2]int{2, 5}, [2]int{5, 3}, [2]int{7, 13})
	wantNodeValues(t, "both 0", and, []int{0, 0}, 0, 0, 0, 0, 0, 0, 1, 0)
	wantNodeValues(t, "the second one", and, []int{0, 1}, 0, 0, 1, 0, 1, 0, 0, 1)
	wantNodeValues(t, "the first one", and, []int{1, 0}, 0, 1, 0, 0, 0, 1, 0, 1)
	wantNodeValues(t, "both 1", and, []int{1, 1}, 0, 1, 1, 1, 0, 0, 0, 0)
	wantNodeValues(t, "an edge and its contrary", circuit(1, [2]int{2, 3}, [2]int{2, 2}, [2]int{3, 3}), []int{1}, 0, 1, 0, 1, 0)
	wantNodeValues(t, "gates with constants", circuit(1, [2]int{0, 2}, [2]int{1, 2}, [2]int{3, 1}, [2]int{2, 0}), []int{1}, 0, 1, 0, 1, 0, 0)
}

func TestNodeValuesOfSomeCircuits(t *testing.T) {
	r := rand.New(rand.NewSource(71))
	for range 500 {
		c := someCircuit(r, maxInputs, 40)
		for range 5 {
			row := someRow(r, c.Inputs)
			wantNodeValues(t, "by hand", c, row, nodeValuesByHand(c, row)...)
		}
	}
	full := longCircuit(maxInputs, maxGates)
	for range 20 {
		row := someRow(r, maxInputs)
		wantNodeValues(t, "600 gates", full, row, nodeValuesByHand(full, row)...)
	}
}

func TestEdgeValue(t *testing.T) {
	c := circuit(2, [2]int{2, 4}, [2]int{3, 7})
	for edge, want := range []int{0, 1, 1, 0, 0, 1, 0, 1, 0, 1} {
		wantEdgeValue(t, "the first one", c, []int{1, 0}, edge, want)
	}
	for edge, want := range []int{0, 1, 0, 1, 1, 0, 0, 1, 1, 0} {
		wantEdgeValue(t, "the second one", c, []int{0, 1}, edge, want)
	}
	wantEdgeValue(t, "a constant without inputs", circuit(0), nil, 0, 0)
	wantEdgeValue(t, "the other constant without inputs", circuit(0), []int{}, 1, 1)
}

func TestEdgeValueOfSomeCircuits(t *testing.T) {
	r := rand.New(rand.NewSource(72))
	for range 500 {
		c := someCircuit(r, maxInputs, 20)
		row := someRow(r, c.Inputs)
		values := nodeValuesByHand(c, row)
		for _, edge := range edgesIn(c) {
			wantEdgeValue(t, "by hand", c, row, edge, edgeByHand(values, edge))
		}
	}
}

func TestNeedsInputs(t *testing.T) {
	c := circuit(4, [2]int{2, 7}, [2]int{11, 10}, [2]int{0, 8}, [2]int{14, 5})
	wantNeeds(t, "a constant", c, 0)
	wantNeeds(t, "the other constant", c, 1)
	wantNeeds(t, "the first input", c, 2, 0)
	wantNeeds(t, "the contrary of the last input", c, 9, 3)
	wantNeeds(t, "a gate of inputs", c, 10, 0, 2)
	wantNeeds(t, "the contrary of a gate", c, 11, 0, 2)
	wantNeeds(t, "a gate of an edge and its contrary", c, 12, 0, 2)
	wantNeeds(t, "a gate that is always 0", c, 14, 3)
	wantNeeds(t, "in order", c, 16, 1, 3)
	wantNeeds(t, "a constant without inputs", circuit(0), 1)
	wantNeeds(t, "a gate of constants", circuit(2, [2]int{1, 0}, [2]int{1, 6}), 9)
	wantNeeds(t, "one way alone", circuit(2, [2]int{2, 1}, [2]int{1, 6}), 8, 0)
	wantNeeds(t, "the other way alone", circuit(2, [2]int{1, 4}, [2]int{6, 1}), 8, 1)
}

func TestNeedsInputsOfSomeCircuits(t *testing.T) {
	r := rand.New(rand.NewSource(73))
	for range 500 {
		c := someCircuit(r, maxInputs, 20)
		for _, edge := range edgesIn(c) {
			wantNeeds(t, "by hand", c, edge, needsByHand(c, edge)...)
		}
	}
}

// allOf returns a circuit with an input for each bit of a row, and the edge that is 1 for this row alone.
func allOf(row []int) (impl.Circuit, int) {
	c, edge := circuit(len(row)), 1
	for input, bit := range row {
		c, edge = andByHand(c, edge, 2*(1+input)+1-bit)
	}
	return c, edge
}

func TestNeedsInputsOfLongCircuits(t *testing.T) {
	c, edge := allOf(slices.Repeat([]int{1}, maxInputs))
	wantNeeds(t, "all inputs", c, edge, firstNumbers(maxInputs)...)
	wantNeeds(t, "all but the last one", c, edge-2, firstNumbers(maxInputs-1)...)
	long := longCircuit(3, maxGates)
	wantNeeds(t, "the last gate of 600", long, 2*nodesIn(long)-1, 0, 1)
	// Each gate doubles the ways from the last one, so no one can go all of them.
	doubling := circuit(2, [2]int{2, 4})
	for len(doubling.Gates) < maxGates {
		last := 2*nodesIn(doubling) - 2
		doubling.Gates = append(doubling.Gates, impl.And{A: last, B: last + 1})
	}
	wantNeeds(t, "too many ways", doubling, 2*nodesIn(doubling)-2, 0, 1)
}

func TestSameEdges(t *testing.T) {
	// Both ways to tell that two inputs differ: one of both and not both, and each one without the other one.
	c := circuit(2, [2]int{2, 4}, [2]int{3, 5}, [2]int{7, 9}, [2]int{2, 5}, [2]int{3, 4}, [2]int{13, 15}, [2]int{2, 3}, [2]int{4, 2})
	wantSameEdges(t, "the same edge", c, 10, 10, true)
	wantSameEdges(t, "two ways", c, 10, 17, true)
	wantSameEdges(t, "the contraries of two ways", c, 11, 16, true)
	wantSameEdges(t, "contraries", c, 10, 11, false)
	wantSameEdges(t, "contraries of two ways", c, 10, 16, false)
	wantSameEdges(t, "inputs", c, 2, 4, false)
	wantSameEdges(t, "a gate that is always 0", c, 18, 0, true)
	wantSameEdges(t, "a gate that is never 1", c, 19, 1, true)
	wantSameEdges(t, "a gate the other way round", c, 6, 20, true)
	wantSameEdges(t, "an input and a constant", c, 4, 0, false)
	wantSameEdges(t, "the constants", c, 0, 1, false)
	wantSameEdges(t, "a constant without inputs", circuit(0), 1, 1, true)
	wantSameEdges(t, "the constants without inputs", circuit(0), 0, 1, false)
	wantSameEdges(t, "a gate of constants", circuit(0, [2]int{1, 1}, [2]int{1, 0}), 2, 1, true)
	wantSameEdges(t, "another gate of constants", circuit(0, [2]int{1, 1}, [2]int{1, 0}), 2, 4, false)
}

// Edges that differ for one row of bits alone are not the same, whichever row that is.
func TestSameEdgesButForOneRow(t *testing.T) {
	for _, many := range []int{1, 2, 5, 6, 7, 8, maxInputs} {
		eachRow(many, func(row []int) {
			c, edge := allOf(row)
			wantSameEdges(t, "one row", c, edge, 0, false)
			wantSameEdges(t, "all rows but one", c, edge+1, 1, false)
		})
	}
}

func TestSameEdgesOfSomeCircuits(t *testing.T) {
	r := rand.New(rand.NewSource(74))
	for range 60 {
		c := someCircuit(r, 5, 10)
		for _, a := range edgesIn(c) {
			b := someEdge(r, c)
			wantSameEdges(t, "by hand", c, a, b, sameByHand(c, a, b))
		}
	}
	for range 60 {
		c := someCircuit(r, 9, 40)
		a, b := someEdge(r, c), someEdge(r, c)
		wantSameEdges(t, "many inputs, by hand", c, a, b, sameByHand(c, a, b))
	}
}

// A sum of all inputs made from the first one on and from the last one on is the same, through all 4096 rows.
func TestSameEdgesOfManyInputs(t *testing.T) {
	c, up, down := circuit(maxInputs), 0, 0
	for input := range maxInputs {
		c, up = sumByHand(c, up, 2*(1+input))
		c, down = sumByHand(c, down, 2*(maxInputs-input))
	}
	wantSameEdges(t, "two ways", c, up, down, true)
	wantSameEdges(t, "contraries of two ways", c, up, contraryByHand(down), false)
	without, half := sumByHand(c, up, 2*maxInputs)
	wantSameEdges(t, "without the last one", without, half, up, false)
}

// sumByHand adds an edge that is 1 if just one of two others is.
func sumByHand(c impl.Circuit, a int, b int) (impl.Circuit, int) {
	return pickByHand(c, a, contraryByHand(b), b)
}
