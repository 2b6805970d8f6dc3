package tests

import (
	"slices"
	"testing"

	"loop.example/wholecheck/impl"
)

type noDiagram struct {
	name string
	d    impl.Diagram
}

// noDiagramsOfForks returns what is no diagram because of one fork of three variables.
func noDiagramsOfForks() []noDiagram {
	var list []noDiagram
	// Place 2 is of the last variable and place 3 of the second one; the fork is place 4.
	add := func(name string, v int, low int, high int) {
		ahead := diagram(3, [3]int{2, 0, 1}, [3]int{1, 0, 2})
		list = append(list,
			noDiagram{name, withForks(ahead, [3]int{v, low, high})},
			noDiagram{name + ", ahead of another fork", withForks(ahead, [3]int{v, low, high}, [3]int{0, 1, 0})},
		)
	}
	for _, v := range []int{-1, -2, 3, 4, maxInputs, maxInputs + 1, greatest, least, least + 1} {
		add("no variable", v, 0, 1)
	}
	for _, n := range []int{-1, -2, 4, 5, 6, maxForks, maxForks + 2, greatest, greatest - 1, least, least + 1} {
		add("no place at Low", 0, n, 3)
		add("no place at High", 0, 3, n)
	}
	for n := range 4 {
		add("the same place twice", 0, n, n)
	}
	add("the same variable at Low", 1, 3, 0)
	add("the same variable at High", 1, 0, 3)
	add("a lower variable at Low", 2, 3, 0)
	add("a lower variable at High", 2, 1, 3)
	add("the last variable again at Low", 2, 2, 0)
	add("the last variable again at High", 2, 1, 2)
	add("the fork ahead of it again", 1, 0, 2)
	add("the first fork again", 2, 0, 1)
	return list
}

// noDiagrams returns what is no diagram, each one by one thing alone.
func noDiagrams() []noDiagram {
	list := noDiagramsOfForks()
	for _, vars := range []int{-1, -2, least, least + 1, maxInputs + 1, maxInputs + 2, 63, 64, greatest, greatest / 2} {
		list = append(list,
			noDiagram{"numbers of variables", diagram(vars)},
			noDiagram{"numbers of variables, with a fork", diagram(vars, [3]int{0, 0, 1})},
		)
	}
	last := longDiagram(5, maxForks)
	last.Forks[maxForks-1] = last.Forks[maxForks-2]
	far := longDiagram(5, maxForks)
	far.Forks[maxForks-1] = far.Forks[0]
	return append(list,
		noDiagram{"a fork without variables", diagram(0, [3]int{0, 0, 1})},
		noDiagram{"the last of 2000 forks again", last},
		noDiagram{"the first of 2000 forks again", far},
		noDiagram{"one fork too many", longDiagram(5, maxForks+1)},
		noDiagram{"one fork too many, twelve variables", longDiagram(12, maxForks+1)},
		noDiagram{"far too many forks", longDiagram(5, 3*maxForks)},
		noDiagram{"far too many forks that are none", impl.Diagram{Vars: 3, Forks: make([]impl.Fork, 3*maxForks)}},
	)
}

func TestNoDiagrams(t *testing.T) {
	for _, x := range noDiagrams() {
		wantDiagramValid(t, x.name, x.d, false)
		for _, n := range []int{0, 1, 2, 3, -1, greatest, least} {
			for _, row := range [][]int{nil, {0}, {1, 0, 1}, make([]int, max(0, min(x.d.Vars, 64)))} {
				wantDiagramValue(t, x.name, x.d, n, row, -1)
			}
			wantFork(t, x.name, x.d, 0, n, n, noDrawing())
			wantFork(t, x.name, x.d, 0, 1, n, noDrawing())
			wantDiagramNot(t, x.name, x.d, n, noDrawing())
			wantDiagramAnd(t, x.name, x.d, n, 0, noDrawing())
			wantDiagramAnd(t, x.name, x.d, n, n, noDrawing())
			wantDiagramOr(t, x.name, x.d, n, 1, noDrawing())
			wantDiagramOr(t, x.name, x.d, n, n, noDrawing())
			wantDiagramFix(t, x.name, x.d, n, 0, 0, noDrawing())
			wantDiagramFix(t, x.name, x.d, n, 2, 1, noDrawing())
			wantDiagramSome(t, x.name, x.d, n, nil, noDrawing())
			wantDiagramSome(t, x.name, x.d, n, []int{0, 1}, noDrawing())
			wantDiagramCount(t, x.name, x.d, n, -1)
			wantDiagramRow(t, x.name, x.d, n)
			wantDiagramUses(t, x.name, x.d, n)
		}
	}
}

// goodDiagrams returns diagrams of which other arguments are tried.
func goodDiagrams() []impl.Diagram {
	return []impl.Diagram{diagram(0), diagram(1), diagram(2, [3]int{1, 0, 1}), majority(), longDiagram(5, maxForks), longDiagram(12, 300)}
}

// noPlaces returns numbers that are no places of a diagram.
func noPlaces(d impl.Diagram) []int {
	end := placesIn(d)
	return []int{-1, -2, -3, -end, end, end + 1, end + 2, 2 * end, 2 * maxForks, greatest, greatest - 1, least, least + 1}
}

func TestNoPlaces(t *testing.T) {
	for _, d := range goodDiagrams() {
		row := make([]int, d.Vars)
		for _, n := range noPlaces(d) {
			wantDiagramValue(t, "no place", d, n, row, -1)
			wantDiagramNot(t, "no place", d, n, noDrawing())
			for _, other := range []int{0, 1, placesIn(d) - 1, n} {
				wantDiagramAnd(t, "no place", d, n, other, noDrawing())
				wantDiagramOr(t, "no place", d, n, other, noDrawing())
				for v := range d.Vars {
					wantFork(t, "no place at Low", d, v, n, other, noDrawing())
					wantFork(t, "no place at High", d, v, other, n, noDrawing())
				}
			}
			for v := range d.Vars {
				wantDiagramFix(t, "no place", d, n, v, 0, noDrawing())
				wantDiagramFix(t, "no place", d, n, v, 1, noDrawing())
				wantDiagramSome(t, "no place", d, n, []int{v}, noDrawing())
			}
			wantDiagramSome(t, "no place", d, n, nil, noDrawing())
			wantDiagramSome(t, "no place, all variables", d, n, firstNumbers(d.Vars), noDrawing())
			wantDiagramCount(t, "no place", d, n, -1)
			wantDiagramRow(t, "no place", d, n)
			wantDiagramUses(t, "no place", d, n)
		}
	}
}

// noVariablesOf returns numbers that are no variables of a diagram.
func noVariablesOf(d impl.Diagram) []int {
	return []int{-1, -2, -d.Vars - 1, d.Vars, d.Vars + 1, maxInputs, maxInputs + 1, 63, 64, greatest, least, least + 1}
}

func TestNoVariables(t *testing.T) {
	for _, d := range goodDiagrams() {
		for _, v := range noVariablesOf(d) {
			if v >= 0 && v < d.Vars {
				continue
			}
			for _, n := range []int{0, 1, placesIn(d) - 1} {
				wantFork(t, "no variable", d, v, n, n, noDrawing())
				wantFork(t, "no variable", d, v, 0, n, noDrawing())
				wantFork(t, "no variable", d, v, n, 1, noDrawing())
				wantDiagramFix(t, "no variable", d, n, v, 0, noDrawing())
				wantDiagramFix(t, "no variable", d, n, v, 1, noDrawing())
				wantDiagramSome(t, "no variable", d, n, []int{v}, noDrawing())
				wantDiagramSome(t, "no variable behind others", d, n, append(firstNumbers(d.Vars), v), noDrawing())
				wantDiagramSome(t, "no variable ahead of others", d, n, append([]int{v}, firstNumbers(d.Vars)...), noDrawing())
			}
		}
	}
}

func TestForksOfVariablesThatAreNotGreater(t *testing.T) {
	d := diagram(4, [3]int{3, 0, 1}, [3]int{2, 0, 2}, [3]int{1, 3, 1}, [3]int{0, 4, 1})
	for n := 2; n < placesIn(d); n++ {
		for v := variableByHand(d, n); v < 4; v++ {
			wantFork(t, "at Low", d, v, n, 0, noDrawing())
			wantFork(t, "at High", d, v, 1, n, noDrawing())
			wantFork(t, "at both", d, v, n, n, noDrawing())
			if v < 3 {
				wantFork(t, "at Low, beside a greater one", d, v, n, 2, noDrawing())
				wantFork(t, "at High, beside a greater one", d, v, 2, n, noDrawing())
			}
		}
	}
}

func TestNoValuesOfNoRowsOfDiagrams(t *testing.T) {
	for vars := range maxInputs + 1 {
		d := diagram(vars)
		if vars > 0 {
			d = withForks(d, [3]int{vars - 1, 0, 1})
		}
		for _, many := range []int{0, 1, 2, 3, 4, 5, 6, 7, 8, 9, 10, 11, 12, 13, 14, 63, 64, 65, 1000} {
			if many == vars {
				continue
			}
			for n := range placesIn(d) {
				wantDiagramValue(t, "another number of bits", d, n, make([]int, many), -1)
				wantDiagramValue(t, "another number of bits", d, n, slices.Repeat([]int{1}, many), -1)
			}
		}
		for at := range vars {
			for _, bit := range notBits {
				for _, row := range rows(make([]int, vars), slices.Repeat([]int{1}, vars)) {
					row[at] = bit
					wantDiagramValue(t, "no bits", d, 2, row, -1)
					wantDiagramValue(t, "no bits, a place that doesn't need them", d, 1, row, -1)
				}
			}
		}
	}
}

func TestFixToNoValues(t *testing.T) {
	for _, d := range goodDiagrams() {
		for v := range d.Vars {
			for _, value := range notBits {
				for _, n := range []int{0, 1, 2, placesIn(d) - 1} {
					wantDiagramFix(t, "no value", d, n, v, value, noDrawing())
				}
			}
		}
	}
}

func TestSomeOfVariablesThatAreNotAscending(t *testing.T) {
	for _, d := range []impl.Diagram{majority(), longDiagram(3, 50), longDiagram(12, 300)} {
		for _, vars := range [][]int{{0, 0}, {2, 2}, {1, 0}, {2, 1}, {2, 0}, {0, 2, 1}, {1, 0, 2}, {0, 1, 1}, {0, 0, 1}, {0, 1, 2, 2}, {0, 1, 2, 0}, {2, 1, 0}, {0, -1}, {-1, 0}, make([]int, 100)} {
			for _, n := range []int{0, 1, 2, placesIn(d) - 1} {
				wantDiagramSome(t, "not ascending", d, n, vars, noDrawing())
			}
		}
	}
}

func TestDiagramOfNoEdges(t *testing.T) {
	for _, x := range noCircuits() {
		for _, edge := range []int{0, 1, 2, 4, -1, greatest, least} {
			wantDiagramOf(t, x.name, x.c, edge, noDrawing())
		}
	}
	for _, c := range []impl.Circuit{circuit(0), circuit(1), circuit(2), circuit(3, [2]int{2, 4}, [2]int{3, 5}), longCircuit(maxInputs, maxGates)} {
		for _, edge := range noEdges(c) {
			wantDiagramOf(t, "no edge", c, edge, noDrawing())
		}
	}
}

// roomyDiagram returns a diagram with other forks in the memory beyond its length, and all of that memory.
func roomyDiagram() (impl.Diagram, []impl.Fork) {
	whole := append(majority().Forks, slices.Repeat([]impl.Fork{{Var: 77, Low: 77, High: 77}}, 9)...)
	return impl.Diagram{Vars: 3, Forks: whole[:4]}, whole
}

func TestArgumentsOfDiagramsStay(t *testing.T) {
	d, whole := roomyDiagram()
	row, wholeRow := roomyNumbers(1, 1, 0)
	vars, wholeVars := roomyNumbers(1, 2)
	wantDiagramValid(t, "roomy", d, true)
	wantDiagramValue(t, "roomy", d, 5, row, 1)
	wantFork(t, "roomy", d, 0, 4, 3, drawn{withForks(d, [3]int{0, 4, 3}), 6})
	wantDiagramNot(t, "roomy", d, 2, drawn{withForks(d, [3]int{2, 1, 0}), 6})
	wantDiagramAnd(t, "roomy", d, 5, 4, drawnOf(combinedByHand(d, 5, 4, andDecides)))
	wantDiagramOr(t, "roomy", d, 5, 3, drawnOf(combinedByHand(d, 5, 3, orDecides)))
	wantDiagramFix(t, "roomy", d, 5, 1, 0, drawn{withForks(d, [3]int{0, 0, 2}), 6})
	wantDiagramSome(t, "roomy", d, 5, vars, drawnOf(someByHand(d, 5, vars)))
	wantDiagramCount(t, "roomy", d, 5, 4)
	wantDiagramRow(t, "roomy", d, 5, 0, 1, 1)
	wantDiagramUses(t, "roomy", d, 5, 0, 1, 2)
	_, want := roomyDiagram()
	if !slices.Equal(whole, want) {
		t.Errorf("the forks = %v, want %v", whole, want)
	}
	_, wantRow := roomyNumbers(1, 1, 0)
	_, wantVars := roomyNumbers(1, 2)
	wantNumbers(t, "the row", wholeRow, wantRow)
	wantNumbers(t, "the variables", wholeVars, wantVars)
}

func TestArgumentsOfDiagramOfStay(t *testing.T) {
	c, whole := roomyCircuit()
	for _, edge := range edgesIn(c) {
		wantDiagramOf(t, "roomy", c, edge, drawnOf(diagramOfByHand(c, edge)))
	}
	if _, want := roomyCircuit(); !slices.Equal(whole, want) {
		t.Errorf("the gates = %v, want %v", whole, want)
	}
}

func TestResultsOfDiagramsAreNewMemory(t *testing.T) {
	d, whole := roomyDiagram()
	_, before := roomyDiagram()
	c := circuit(2, [2]int{2, 4})
	for range 2 {
		scribble(impl.DiagramRow(d, 5), 99)
		scribble(impl.DiagramUses(d, 5), 98)
		for n := range placesIn(d) {
			for _, x := range drawingsOfAll(d, n) {
				scribble(x.d.Forks, impl.Fork{Var: 97, Low: 97, High: 97})
			}
		}
		of, _ := impl.DiagramOf(c, 6)
		scribble(of.Forks, impl.Fork{Var: 96, Low: 96, High: 96})
		if !slices.Equal(whole, before) {
			t.Errorf("the forks = %v, want %v", whole, before)
		}
		wantDiagramRow(t, "afterwards", d, 5, 0, 1, 1)
		wantDiagramUses(t, "afterwards", d, 5, 0, 1, 2)
		wantDiagramNot(t, "afterwards", d, 2, drawn{withForks(d, [3]int{2, 1, 0}), 6})
		wantDiagramOf(t, "afterwards", c, 6, drawn{diagram(2, [3]int{1, 0, 1}, [3]int{0, 0, 2}), 3})
	}
}

// drawingsOfAll returns diagrams made of one with three variables by each function, with forks that were put and without.
func drawingsOfAll(d impl.Diagram, n int) []drawn {
	list := []drawn{drawnOf(impl.DiagramNot(d, n)), drawnOf(impl.DiagramSome(d, n, nil)), drawnOf(impl.AddFork(d, 0, 0, n)), drawnOf(impl.AddFork(d, 2, 1, 1))}
	for other := range placesIn(d) {
		list = append(list, drawnOf(impl.DiagramAnd(d, n, other)), drawnOf(impl.DiagramOr(d, n, other)))
	}
	for v := range d.Vars {
		list = append(list, drawnOf(impl.DiagramFix(d, n, v, 0)), drawnOf(impl.DiagramFix(d, n, v, 1)), drawnOf(impl.DiagramSome(d, n, []int{v})))
	}
	return list
}
