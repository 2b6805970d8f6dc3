package tests

import (
	"slices"
	"testing"

	"loop.example/wholecheck/impl"
)

type noCircuit struct {
	name string
	c    impl.Circuit
}

// noCircuits returns what is no circuit, each one by one thing alone.
func noCircuits() []noCircuit {
	var list []noCircuit
	for _, inputs := range []int{-1, -2, least, least + 1, maxInputs + 1, maxInputs + 2, 63, 64, greatest, greatest / 2} {
		list = append(list,
			noCircuit{"numbers of inputs", circuit(inputs)},
			noCircuit{"numbers of inputs, with a gate", circuit(inputs, [2]int{0, 1})},
		)
	}
	// The second gate, of two inputs, can have the edges 0 to 7.
	for _, edge := range []int{-1, -2, least, least + 1, 8, 9, 10, 11, 1000, greatest - 1, greatest} {
		list = append(list,
			noCircuit{"the first edge", circuit(2, [2]int{2, 4}, [2]int{edge, 4})},
			noCircuit{"the second edge", circuit(2, [2]int{2, 4}, [2]int{4, edge})},
			noCircuit{"the first edge, ahead of another gate", circuit(2, [2]int{2, 4}, [2]int{edge, 4}, [2]int{2, 4})},
			noCircuit{"the second edge, ahead of another gate", circuit(2, [2]int{2, 4}, [2]int{4, edge}, [2]int{2, 4})},
		)
	}
	last := longCircuit(2, maxGates)
	last.Gates[maxGates-1].B = 2 * (nodesIn(last) - 1)
	return append(list,
		noCircuit{"a gate of itself", circuit(0, [2]int{0, 2})},
		noCircuit{"a gate of its contrary", circuit(0, [2]int{3, 0})},
		noCircuit{"the last gate of itself", last},
		noCircuit{"one gate too many", longCircuit(2, maxGates+1)},
		noCircuit{"one gate too many of constants", impl.Circuit{Gates: make([]impl.And, maxGates+1)}},
		noCircuit{"far too many gates", impl.Circuit{Inputs: 3, Gates: make([]impl.And, 3*maxGates)}},
	)
}

func TestNoCircuits(t *testing.T) {
	for _, x := range noCircuits() {
		wantCircuitValid(t, x.name, x.c, false)
		for _, row := range [][]int{nil, {}, {0}, {1, 0}, {0, 0, 0}, make([]int, maxInputs), make([]int, maxInputs+1)} {
			wantNodeValues(t, x.name, x.c, row)
			wantEdgeValue(t, x.name, x.c, row, 0, -1)
			wantEdgeValue(t, x.name, x.c, row, 2, -1)
		}
		for _, e := range [][2]int{{0, 0}, {0, 1}, {1, 1}, {2, 2}, {2, 4}, {-1, 0}, {greatest, least}} {
			wantAnd(t, x.name, x.c, e[0], e[1], nothing())
			wantOr(t, x.name, x.c, e[0], e[1], nothing())
			wantPick(t, x.name, x.c, 1, e[0], e[1], nothing())
			wantPick(t, x.name, x.c, e[0], e[1], e[1], nothing())
			wantFixed(t, x.name, x.c, e[0], 0, 0, nothing())
			wantFixed(t, x.name, x.c, e[1], 1, 1, nothing())
			wantNeeds(t, x.name, x.c, e[0])
			wantNeeds(t, x.name, x.c, e[1])
			wantSameEdges(t, x.name, x.c, e[0], e[1], false)
		}
	}
}

// noEdges returns numbers that are no edges of a circuit.
func noEdges(c impl.Circuit) []int {
	end := 2 * nodesIn(c)
	return []int{-1, -2, -3, -end, end, end + 1, end + 2, 2 * end, 4 * maxGates, greatest, greatest - 1, least, least + 1}
}

func TestNoEdges(t *testing.T) {
	for _, c := range []impl.Circuit{circuit(0), circuit(1), circuit(2), circuit(3, [2]int{2, 4}, [2]int{3, 5}), longCircuit(maxInputs, maxGates)} {
		row := make([]int, c.Inputs)
		for _, edge := range noEdges(c) {
			wantEdgeValue(t, "no edge", c, row, edge, -1)
			wantNeeds(t, "no edge", c, edge)
			for _, other := range []int{0, 1, 2*nodesIn(c) - 1, edge} {
				wantAnd(t, "no edge", c, edge, other, nothing())
				wantOr(t, "no edge", c, edge, other, nothing())
				wantPick(t, "by no edge", c, edge, other, other, nothing())
				wantPick(t, "no edge where it is 1", c, other, edge, 0, nothing())
				wantPick(t, "no edge where it is 0", c, other, 0, edge, nothing())
				wantPick(t, "no edge in both places", c, other, edge, edge, nothing())
				wantSameEdges(t, "no edge", c, edge, other, false)
			}
			for input := range c.Inputs {
				wantFixed(t, "no edge", c, edge, input, 0, nothing())
				wantFixed(t, "no edge", c, edge, input, 1, nothing())
			}
		}
	}
}

func TestNoValuesOfNoRows(t *testing.T) {
	for inputs := range maxInputs + 1 {
		c := circuit(inputs, [2]int{0, 1})
		for _, many := range []int{0, 1, 2, 3, 4, 5, 6, 7, 8, 9, 10, 11, 12, 13, 14, 63, 64, 65, 1000} {
			if many == inputs {
				continue
			}
			wantNodeValues(t, "another number of bits", c, make([]int, many))
			wantEdgeValue(t, "another number of bits", c, make([]int, many), 1, -1)
			wantEdgeValue(t, "another number of bits", c, slices.Repeat([]int{1}, many), 0, -1)
		}
		for at := range inputs {
			for _, n := range notBits {
				for _, row := range rows(make([]int, inputs), slices.Repeat([]int{1}, inputs)) {
					row[at] = n
					wantNodeValues(t, "no bits", c, row)
					wantEdgeValue(t, "no bits", c, row, 1, -1)
					wantEdgeValue(t, "no bits, an edge that doesn't need them", c, row, 2*(1+inputs), -1)
				}
			}
		}
	}
}

func TestFixedOfNoInputs(t *testing.T) {
	for _, c := range []impl.Circuit{circuit(0), circuit(0, [2]int{1, 1}), circuit(1), circuit(3, [2]int{2, 4}), longCircuit(maxInputs, maxGates)} {
		for _, input := range []int{-1, -2, -c.Inputs - 1, c.Inputs, c.Inputs + 1, c.Inputs + 2, 2 * (c.Inputs + 1), nodesIn(c), 64, greatest, least, least + 1} {
			for edge := range 2 {
				wantFixed(t, "no input", c, edge, input, 0, nothing())
				wantFixed(t, "no input", c, edge, input, 1, nothing())
			}
			wantFixed(t, "no input, of the last node", c, 2*nodesIn(c)-1, input, 1, nothing())
		}
		for input := range c.Inputs {
			for _, value := range notBits {
				wantFixed(t, "no value", c, 0, input, value, nothing())
				wantFixed(t, "no value", c, 2*nodesIn(c)-1, input, value, nothing())
			}
		}
	}
}

func TestCircuitOfNoSets(t *testing.T) {
	for _, c := range noSystems() {
		for _, set := range [][]int{nil, {}, {0}, {0, 1}, {1, 2}, {-1}, {399}} {
			wantCircuitOf(t, c.name, c.s, set, nothing())
		}
	}
	for _, s := range []impl.System{stayer(), {Vars: pair().Vars}} {
		for _, c := range noSets(9) {
			wantCircuitOf(t, c.name, s, c.set, nothing())
		}
	}
	for _, c := range noSets(maxStates) {
		wantCircuitOf(t, c.name+", 400 states", spans(20, 20), c.set, nothing())
	}
	for _, set := range [][]int{{0, 1}, {1}, {-1}, {0, 0}, {greatest}, {least}} {
		wantCircuitOf(t, "one state", oneVar(4, 4, 4), set, nothing())
	}
}

// roomyCircuit returns a circuit with other gates in the memory beyond its length, and all of that memory.
func roomyCircuit() (impl.Circuit, []impl.And) {
	gates := circuit(3, [2]int{2, 4}, [2]int{6, 4}, [2]int{3, 9}).Gates
	whole := append(gates, slices.Repeat([]impl.And{{A: 77, B: 77}}, 9)...)
	return impl.Circuit{Inputs: 3, Gates: whole[:3]}, whole
}

func TestArgumentsOfCircuitsStay(t *testing.T) {
	c, whole := roomyCircuit()
	row, wholeRow := roomyNumbers(1, 1, 0)
	wantCircuitValid(t, "roomy", c, true)
	wantNodeValues(t, "roomy", c, row, 0, 1, 1, 0, 1, 0, 0)
	wantEdgeValue(t, "roomy", c, row, 9, 0)
	wantAnd(t, "roomy", c, 3, 5, made{circuit(3, [2]int{2, 4}, [2]int{6, 4}, [2]int{3, 9}, [2]int{3, 5}), 14})
	wantOr(t, "roomy", c, 3, 5, made{c, 9})
	wantPick(t, "roomy", c, 6, 2, 4, made{circuit(3, [2]int{2, 4}, [2]int{6, 4}, [2]int{3, 9}, [2]int{2, 6}, [2]int{4, 7}, [2]int{15, 17}), 19})
	wantNeeds(t, "roomy", c, 12, 0, 1)
	wantFixed(t, "roomy", c, 12, 2, 1, made{circuit(3, [2]int{2, 4}, [2]int{3, 9}), 10})
	wantSameEdges(t, "roomy", c, 12, 3, true)
	_, want := roomyCircuit()
	if !slices.Equal(whole, want) {
		t.Errorf("the gates = %v, want %v", whole, want)
	}
	_, wantRow := roomyNumbers(1, 1, 0)
	wantNumbers(t, "the row", wholeRow, wantRow)
}

func TestArgumentsOfCircuitOfStay(t *testing.T) {
	s, numbers, lists := roomy()
	set, wholeSet := roomyNumbers(0, 2, 3, 8)
	wantCircuitOf(t, "roomy", s, set, madeOf(circuitOfByHand(s, set)))
	_, wantSet := roomyNumbers(0, 2, 3, 8)
	wantNumbers(t, "the set", wholeSet, wantSet)
	_, numbersBefore, listsBefore := roomy()
	wantStates(t, "the lists of variables", numbers, numbersBefore...)
	if !slices.EqualFunc(lists, listsBefore, slices.Equal) {
		t.Errorf("expressions = %v, want %v", lists, listsBefore)
	}
}

func TestResultsOfCircuitsAreNewMemory(t *testing.T) {
	c, whole := roomyCircuit()
	_, before := roomyCircuit()
	for range 2 {
		scribble(impl.NodeValues(c, []int{1, 1, 0}), 99)
		scribble(impl.NeedsInputs(c, 12), 98)
		for _, x := range circuitsOf(c) {
			scribble(x.Gates, impl.And{A: 97, B: 97})
		}
		if !slices.Equal(whole, before) {
			t.Errorf("the gates = %v, want %v", whole, before)
		}
		wantNodeValues(t, "afterwards", c, []int{1, 1, 0}, 0, 1, 1, 0, 1, 0, 0)
		wantNeeds(t, "afterwards", c, 12, 0, 1)
		wantAnd(t, "afterwards", c, 2, 4, made{c, 8})
		wantCircuitOf(t, "afterwards", spans(2, 2), []int{3}, made{circuit(2, [2]int{2, 4}), 6})
	}
}

// circuitsOf returns circuits made of one by each function, with gates that were put and without.
func circuitsOf(c impl.Circuit) []impl.Circuit {
	var list []impl.Circuit
	for _, edge := range edgesIn(c) {
		and, _ := impl.AddAnd(c, 3, edge)
		or, _ := impl.AddOr(c, edge, 2)
		pick, _ := impl.AddPick(c, 6, 4, edge)
		fixed, _ := impl.Fixed(c, edge, 2, 1)
		list = append(list, and, or, pick, fixed)
	}
	of, _ := impl.CircuitOf(spans(2, 2), []int{3})
	return append(list, of)
}
