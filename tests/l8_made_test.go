package tests

import (
	"math/rand"
	"slices"
	"testing"

	"loop.example/wholecheck/impl"
)

func TestDiagramOf(t *testing.T) {
	c := circuit(2, [2]int{2, 4}, [2]int{3, 5}, [2]int{7, 9})
	wantDiagramOf(t, "0", c, 0, drawn{diagram(2), 0})
	wantDiagramOf(t, "1", c, 1, drawn{diagram(2), 1})
	wantDiagramOf(t, "the first input", c, 2, drawn{diagram(2, [3]int{0, 0, 1}), 2})
	wantDiagramOf(t, "its contrary", c, 3, drawn{diagram(2, [3]int{0, 1, 0}), 2})
	wantDiagramOf(t, "the second input", c, 4, drawn{diagram(2, [3]int{1, 0, 1}), 2})
	wantDiagramOf(t, "its contrary", c, 5, drawn{diagram(2, [3]int{1, 1, 0}), 2})
	wantDiagramOf(t, "both", c, 6, drawn{diagram(2, [3]int{1, 0, 1}, [3]int{0, 0, 2}), 3})
	wantDiagramOf(t, "not both", c, 7, drawn{diagram(2, [3]int{1, 1, 0}, [3]int{0, 1, 2}), 3})
	wantDiagramOf(t, "none", c, 8, drawn{diagram(2, [3]int{1, 1, 0}, [3]int{0, 2, 0}), 3})
	wantDiagramOf(t, "one of both", c, 9, drawn{diagram(2, [3]int{1, 0, 1}, [3]int{0, 2, 1}), 3})
	wantDiagramOf(t, "they differ", c, 10, drawn{diagram(2, [3]int{1, 0, 1}, [3]int{1, 1, 0}, [3]int{0, 2, 3}), 4})
	wantDiagramOf(t, "they are equal", c, 11, drawn{diagram(2, [3]int{1, 1, 0}, [3]int{1, 0, 1}, [3]int{0, 2, 3}), 4})
	wantDiagramOf(t, "a gate that is always 0", circuit(1, [2]int{2, 3}), 4, drawn{diagram(1), 0})
	wantDiagramOf(t, "a gate that is never 1", circuit(1, [2]int{2, 3}), 5, drawn{diagram(1), 1})
	for inputs := range maxInputs + 1 {
		wantDiagramOf(t, "0 without gates", circuit(inputs), 0, drawn{diagram(inputs), 0})
		wantDiagramOf(t, "1 without gates", circuit(inputs), 1, drawn{diagram(inputs), 1})
		for v := range inputs {
			wantDiagramOf(t, "an input", circuit(inputs), 2*(1+v), drawn{diagram(inputs, [3]int{v, 0, 1}), 2})
		}
	}
}

// The place for 0 is made ahead of that for 1, and a variable on which nothing depends is passed over.
func TestOrderOfForksOfCircuits(t *testing.T) {
	c := circuit(3, [2]int{2, 4}, [2]int{2, 6}, [2]int{4, 6})
	c, edge := orByHand(c, 8, 10)
	c, edge = orByHand(c, edge, 12)
	wantDiagramOf(t, "most of three", c, edge, drawn{majority(), 5})
	c, edge = pickByHand(circuit(4), 2, 8, 6)
	wantDiagramOf(t, "one by another one", c, edge, drawn{diagram(4, [3]int{2, 0, 1}, [3]int{3, 0, 1}, [3]int{0, 2, 3}), 4})
}

// Each row counts, and at its own place among 4096.
func TestDiagramOfOneRow(t *testing.T) {
	r := rand.New(rand.NewSource(87))
	for vars := range maxInputs + 1 {
		for range 20 {
			row := someRow(r, vars)
			c, edge := allOf(row)
			want, place := diagram(vars), 1
			for v, bit := range slices.Backward(row) {
				low, high := 0, place
				if bit == 0 {
					low, high = place, 0
				}
				want, place = forkByHand(want, v, low, high)
			}
			wantDiagramOf(t, "one row", c, edge, drawn{want, place})
		}
	}
}

func TestDiagramOfSomeCircuits(t *testing.T) {
	r := rand.New(rand.NewSource(88))
	for range 300 {
		c := someCircuit(r, 8, 30)
		edge := someEdge(r, c)
		wantDiagramOf(t, "by hand", c, edge, drawnOf(diagramOfByHand(c, edge)))
	}
	for range 5 {
		c := someCircuit(r, 0, 0)
		for c.Inputs = maxInputs; len(c.Gates) < 60; {
			c.Gates = append(c.Gates, impl.And{A: someEdge(r, c), B: someEdge(r, c)})
		}
		for _, edge := range []int{2*nodesIn(c) - 1, someEdge(r, c)} {
			wantDiagramOf(t, "twelve inputs, by hand", c, edge, drawnOf(diagramOfByHand(c, edge)))
		}
	}
	full := longCircuit(maxInputs, maxGates)
	wantDiagramOf(t, "600 gates", full, 2*nodesIn(full)-1, drawnOf(diagramOfByHand(full, 2*nodesIn(full)-1)))
}

// The sum of all inputs has two forks of each variable but the first one.
func TestDiagramOfManyInputs(t *testing.T) {
	c, edge := circuit(maxInputs), 0
	for input := range maxInputs {
		c, edge = sumByHand(c, edge, 2*(1+input))
	}
	want := drawnOf(diagramOfByHand(c, edge))
	if len(want.d.Forks) != 2*maxInputs-1 {
		t.Errorf("the sum by hand has %d forks", len(want.d.Forks))
	}
	wantDiagramOf(t, "the sum", c, edge, want)
}

// constantsWithAll checks what a diagram's places are with constants, and with themselves.
func constantsWithAll(t *testing.T, d impl.Diagram) {
	t.Helper()
	for n := range min(placesIn(d), 30) {
		wantDiagramAnd(t, "with 0", d, 0, n, drawn{d, 0})
		wantDiagramAnd(t, "with 1", d, 1, n, drawn{d, n})
		wantDiagramAnd(t, "with itself", d, n, n, drawn{d, n})
		wantDiagramOr(t, "with 0", d, 0, n, drawn{d, n})
		wantDiagramOr(t, "with 1", d, 1, n, drawn{d, 1})
		wantDiagramOr(t, "with itself", d, n, n, drawn{d, n})
		wantDiagramSome(t, "of no variables", d, n, nil, drawn{d, n})
		wantDiagramSome(t, "of no variables", d, n, []int{}, drawn{d, n})
		wantDiagramSome(t, "of all variables", d, n, firstNumbers(d.Vars), drawn{drawnOf(someByHand(d, n, firstNumbers(d.Vars))).d, boolOf(n != 0)})
	}
	for n := range 2 {
		wantDiagramNot(t, "a constant", d, n, drawn{d, 1 - n})
		for v := range d.Vars {
			wantDiagramFix(t, "a constant, 0", d, n, v, 0, drawn{d, n})
			wantDiagramFix(t, "a constant, 1", d, n, v, 1, drawn{d, n})
			wantDiagramSome(t, "a constant", d, n, []int{v}, drawn{d, n})
		}
	}
}

func TestConstantsAsPlaces(t *testing.T) {
	for vars := range maxInputs + 1 {
		constantsWithAll(t, diagram(vars))
	}
	constantsWithAll(t, majority())
	constantsWithAll(t, longDiagram(5, maxForks-10))
}

func TestDiagramNot(t *testing.T) {
	both := diagram(2, [3]int{1, 0, 1}, [3]int{0, 0, 2})
	wantDiagramNot(t, "a bit", both, 2, drawn{withForks(both, [3]int{1, 1, 0}), 4})
	wantDiagramNot(t, "both bits", both, 3, drawn{withForks(both, [3]int{1, 1, 0}, [3]int{0, 1, 4}), 5})
	d := majority()
	want := withForks(d, [3]int{2, 1, 0}, [3]int{1, 1, 6}, [3]int{1, 6, 0}, [3]int{0, 7, 8})
	wantDiagramNot(t, "the contrary of Low is made first", d, 5, drawn{want, 9})
	passing := diagram(3, [3]int{2, 0, 1}, [3]int{0, 0, 2})
	wantDiagramNot(t, "a variable that is passed over", passing, 3, drawn{withForks(passing, [3]int{2, 1, 0}, [3]int{0, 1, 4}), 5})
}

func TestContrariesThatAreThere(t *testing.T) {
	d := diagram(2, [3]int{1, 0, 1}, [3]int{1, 1, 0}, [3]int{0, 2, 3}, [3]int{0, 1, 3})
	wantDiagramNot(t, "a bit", d, 2, drawn{d, 3})
	wantDiagramNot(t, "the other one", d, 3, drawn{d, 2})
	wantDiagramNot(t, "places on both sides that are there", d, 4, drawn{withForks(d, [3]int{0, 3, 2}), 6})
	wantDiagramNot(t, "a place on one side that is there", d, 5, drawn{withForks(d, [3]int{0, 0, 2}), 6})
}

// differing returns a diagram in which place 5 is true where the first two of three bits differ, and 3 where the last one is 1.
func differing() impl.Diagram {
	return diagram(3, [3]int{1, 0, 1}, [3]int{2, 0, 1}, [3]int{1, 1, 0}, [3]int{0, 2, 4})
}

func TestDiagramAnd(t *testing.T) {
	d := diagram(2, [3]int{0, 0, 1}, [3]int{1, 0, 1})
	wantDiagramAnd(t, "bits", d, 2, 3, drawn{withForks(d, [3]int{0, 0, 3}), 4})
	d = differing()
	want := withForks(d, [3]int{1, 0, 3}, [3]int{1, 3, 0}, [3]int{0, 6, 7})
	wantDiagramAnd(t, "what is 0 is made first", d, 5, 3, drawn{want, 8})
	wantDiagramAnd(t, "contraries", d, 2, 4, drawn{d, 0})
	wantDiagramAnd(t, "one side alone is left", d, 5, 4, drawn{withForks(d, [3]int{0, 0, 4}), 6})
	d = diagram(2, [3]int{1, 0, 1}, [3]int{0, 0, 2}, [3]int{0, 2, 1})
	wantDiagramAnd(t, "sides that become equal", d, 2, 4, drawn{d, 2})
	wantDiagramAnd(t, "a fork that is there", d, 3, 4, drawn{d, 3})
	d = diagram(4, [3]int{3, 0, 1}, [3]int{1, 0, 2}, [3]int{2, 1, 0}, [3]int{0, 4, 0})
	want = withForks(d, [3]int{2, 2, 0}, [3]int{1, 0, 6}, [3]int{0, 7, 0})
	wantDiagramAnd(t, "variables that are passed over", d, 3, 5, drawn{want, 8})
}

func TestDiagramOr(t *testing.T) {
	d := diagram(2, [3]int{0, 0, 1}, [3]int{1, 0, 1})
	wantDiagramOr(t, "bits", d, 2, 3, drawn{withForks(d, [3]int{0, 3, 1}), 4})
	d = differing()
	want := withForks(d, [3]int{1, 3, 1}, [3]int{1, 1, 3}, [3]int{0, 6, 7})
	wantDiagramOr(t, "what is 0 is made first", d, 5, 3, drawn{want, 8})
	wantDiagramOr(t, "contraries", d, 2, 4, drawn{d, 1})
	wantDiagramOr(t, "one side alone is left", d, 5, 4, drawn{withForks(d, [3]int{0, 1, 4}), 6})
	d = diagram(2, [3]int{1, 0, 1}, [3]int{0, 0, 2}, [3]int{0, 2, 1})
	wantDiagramOr(t, "sides that become equal", d, 2, 3, drawn{d, 2})
	wantDiagramOr(t, "a fork that is there", d, 3, 4, drawn{d, 4})
	d = diagram(4, [3]int{3, 0, 1}, [3]int{1, 1, 2}, [3]int{2, 1, 0}, [3]int{0, 4, 1})
	want = withForks(d, [3]int{2, 1, 2}, [3]int{1, 1, 6}, [3]int{0, 7, 1})
	wantDiagramOr(t, "variables that are passed over", d, 3, 5, drawn{want, 8})
}

func TestDiagramFix(t *testing.T) {
	d := majority()
	wantDiagramFix(t, "its own variable is 0", d, 5, 0, 0, drawn{d, 3})
	wantDiagramFix(t, "its own variable is 1", d, 5, 0, 1, drawn{d, 4})
	wantDiagramFix(t, "its own variable, a constant", d, 4, 1, 1, drawn{d, 1})
	wantDiagramFix(t, "the second one is 0", d, 5, 1, 0, drawn{withForks(d, [3]int{0, 0, 2}), 6})
	wantDiagramFix(t, "the second one is 1", d, 5, 1, 1, drawn{withForks(d, [3]int{0, 2, 1}), 6})
	wantDiagramFix(t, "the last one is 0", d, 5, 2, 0, drawn{withForks(d, [3]int{1, 0, 1}, [3]int{0, 0, 6}), 7})
	wantDiagramFix(t, "the last one is 1", d, 5, 2, 1, drawn{withForks(d, [3]int{1, 0, 1}, [3]int{0, 6, 1}), 7})
	wantDiagramFix(t, "a lower variable", d, 4, 0, 1, drawn{d, 4})
	wantDiagramFix(t, "sides that become equal", d, 3, 2, 0, drawn{d, 0})
	d = diagram(4, [3]int{3, 0, 1}, [3]int{3, 1, 0}, [3]int{2, 2, 3}, [3]int{2, 3, 2}, [3]int{1, 4, 1}, [3]int{1, 0, 5}, [3]int{0, 6, 7})
	want := withForks(d, [3]int{2, 0, 1}, [3]int{1, 9, 1}, [3]int{2, 1, 0}, [3]int{1, 0, 11}, [3]int{0, 10, 12})
	wantDiagramFix(t, "Low is made first", d, 8, 3, 0, drawn{want, 13})
	want = withForks(d, [3]int{2, 1, 0}, [3]int{1, 9, 1}, [3]int{2, 0, 1}, [3]int{1, 0, 11}, [3]int{0, 10, 12})
	wantDiagramFix(t, "Low is made first, 1", d, 8, 3, 1, drawn{want, 13})
}

func TestFixOfVariablesThatArePassedOver(t *testing.T) {
	d := diagram(4, [3]int{3, 0, 1}, [3]int{1, 0, 2}, [3]int{0, 3, 2})
	for value := range 2 {
		wantDiagramFix(t, "no fork has it", d, 4, 2, value, drawn{d, 4})
		wantDiagramFix(t, "no fork has it behind this place", d, 3, 0, value, drawn{d, 3})
	}
	wantDiagramFix(t, "one side has it", d, 4, 1, 0, drawn{withForks(d, [3]int{0, 0, 2}), 5})
	wantDiagramFix(t, "one side has it, and both become equal", d, 4, 1, 1, drawn{d, 2})
}

func TestFixedPlacesThatAreThere(t *testing.T) {
	d := withForks(majority(), [3]int{0, 0, 2}, [3]int{0, 2, 1}, [3]int{1, 0, 1})
	wantDiagramFix(t, "the whole place", d, 5, 1, 0, drawn{d, 6})
	wantDiagramFix(t, "the whole place, 1", d, 5, 1, 1, drawn{d, 7})
	wantDiagramFix(t, "one side", d, 5, 2, 0, drawn{withForks(d, [3]int{0, 0, 8}), 9})
}

func TestDiagramSome(t *testing.T) {
	d := majority()
	wantDiagramSome(t, "its own variable", d, 5, []int{0}, drawn{d, 4})
	wantDiagramSome(t, "the place for 0 is made first", d, 5, []int{1}, drawn{withForks(d, [3]int{0, 0, 2}, [3]int{0, 2, 1}), 7})
	wantDiagramSome(t, "the last one", d, 5, []int{2}, drawn{withForks(d, [3]int{1, 0, 1}, [3]int{0, 0, 6}, [3]int{0, 6, 1}), 8})
	wantDiagramSome(t, "the first two", d, 5, []int{0, 1}, drawn{d, 1})
	wantDiagramSome(t, "the last two, one after the other", d, 5, []int{1, 2}, drawn{withForks(d, [3]int{0, 0, 2}, [3]int{0, 2, 1}, [3]int{0, 0, 1}), 1})
	wantDiagramSome(t, "the first and the last one", d, 5, []int{0, 2}, drawn{withForks(d, [3]int{1, 0, 1}), 1})
	wantDiagramSome(t, "the last one of both", d, 3, []int{2}, drawn{withForks(d, [3]int{1, 0, 1}), 6})
	wantDiagramSome(t, "all", d, 5, []int{0, 1, 2}, drawn{d, 1})
	wantDiagramSome(t, "a variable that is passed over", d, 2, []int{0, 1}, drawn{d, 2})
	given := diagram(2, [3]int{1, 0, 1}, [3]int{0, 0, 2})
	wantDiagramSome(t, "a fork that is there", given, 3, []int{0}, drawn{given, 2})
	wantDiagramSome(t, "forks that no place needs stay", given, 3, []int{1}, drawn{withForks(given, [3]int{0, 0, 1}), 4})
}

// Or makes a fork that neither value has.
func TestSomeMakesOrBehindBothValues(t *testing.T) {
	d := diagram(3, [3]int{2, 0, 1}, [3]int{2, 1, 0}, [3]int{1, 0, 2}, [3]int{1, 3, 0}, [3]int{0, 4, 5})
	want := withForks(d, [3]int{0, 0, 3}, [3]int{0, 2, 0}, [3]int{0, 2, 3})
	wantDiagramSome(t, "three forks", d, 6, []int{1}, drawn{want, 9})
}

func wantAllByHand(t *testing.T, name string, r *rand.Rand, d impl.Diagram) {
	t.Helper()
	a, b := somePlace(r, d), somePlace(r, d)
	wantDiagramNot(t, name, d, a, drawnOf(combinedByHand(d, a, 1, notDecides)))
	wantDiagramAnd(t, name, d, a, b, drawnOf(combinedByHand(d, a, b, andDecides)))
	wantDiagramOr(t, name, d, a, b, drawnOf(combinedByHand(d, a, b, orDecides)))
	if d.Vars > 0 {
		v, value := r.Intn(d.Vars), r.Intn(2)
		wantDiagramFix(t, name, d, a, v, value, drawnOf(fixOfPlaceByHand(d, a, v, value)))
	}
	vars := someSet(r, d.Vars)
	wantDiagramSome(t, name, d, a, vars, drawnOf(someByHand(d, a, vars)))
}

func TestOperationsOnSomeDiagrams(t *testing.T) {
	r := rand.New(rand.NewSource(89))
	for range 2000 {
		wantAllByHand(t, "by hand", r, someDiagram(r, 7, 30))
	}
	for range 60 {
		wantAllByHand(t, "twelve variables, by hand", r, crowdedDiagram(r, maxInputs, 60+r.Intn(200)))
	}
}

// What is made has the value that it is told to have, and the forks that were there are as they were.
func TestWhatIsMadeHasItsValue(t *testing.T) {
	r := rand.New(rand.NewSource(90))
	for range 300 {
		d := someDiagram(r, 6, 25)
		if d.Vars == 0 {
			continue
		}
		a, b, v, value := somePlace(r, d), somePlace(r, d), r.Intn(d.Vars), r.Intn(2)
		not, and, or := drawnOf(impl.DiagramNot(d, a)), drawnOf(impl.DiagramAnd(d, a, b)), drawnOf(impl.DiagramOr(d, a, b))
		fix, some := drawnOf(impl.DiagramFix(d, a, v, value)), drawnOf(impl.DiagramSome(d, a, []int{v}))
		for _, x := range []drawn{not, and, or, fix, some} {
			wantDiagramValid(t, "what is made", x.d, true)
			if x.d.Vars != d.Vars || len(x.d.Forks) < len(d.Forks) || !slices.Equal(x.d.Forks[:len(d.Forks)], d.Forks) {
				t.Fatalf("%v became %v", shownDiagram(d), x)
			}
		}
		eachRow(d.Vars, func(row []int) {
			one, other := constantByHand(d, a, row), constantByHand(d, b, row)
			fixed, turned := slices.Clone(row), slices.Clone(row)
			fixed[v], turned[v] = value, 1-row[v]
			wantDiagramValue(t, "Not", not.d, not.place, row, 1-one)
			wantDiagramValue(t, "And", and.d, and.place, row, one*other)
			wantDiagramValue(t, "Or", or.d, or.place, row, max(one, other))
			wantDiagramValue(t, "Fix", fix.d, fix.place, row, constantByHand(d, a, fixed))
			wantDiagramValue(t, "Some", some.d, some.place, row, max(one, constantByHand(d, a, turned)))
		})
	}
}

// What is told of an edge is true where the edge is 1.
func TestDiagramOfHasTheEdgesValue(t *testing.T) {
	r := rand.New(rand.NewSource(91))
	for range 200 {
		c := someCircuit(r, 7, 20)
		edge := someEdge(r, c)
		x := drawnOf(impl.DiagramOf(c, edge))
		wantDiagramValid(t, "of an edge", x.d, true)
		eachRow(c.Inputs, func(row []int) {
			wantDiagramValue(t, "of an edge", x.d, x.place, row, edgeByHand(nodeValuesByHand(c, row), edge))
		})
	}
}
