package tests

import (
	"math/rand"
	"slices"
	"testing"

	"loop.example/wholecheck/impl"
)

func TestLimitOfDiagrams(t *testing.T) {
	if impl.MaxForks != maxForks {
		t.Error("the limit of diagrams is not what the document says")
	}
}

func TestExampleOfDiagrams(t *testing.T) {
	one := diagram(2, [3]int{1, 0, 1})
	both := diagram(2, [3]int{1, 0, 1}, [3]int{0, 0, 2})
	wantFork(t, "the first fork", diagram(2), 1, 0, 1, drawn{one, 2})
	wantFork(t, "the second fork", one, 0, 0, 2, drawn{both, 3})
	eachRow(2, func(row []int) { wantDiagramValue(t, "both bits are 1", both, 3, row, row[0]*row[1]) })
}

// majority returns a diagram in which place 5 is true where two of three bits or all are 1, 3 where the last two are, and 4 where one of these is.
func majority() impl.Diagram {
	return diagram(3, [3]int{2, 0, 1}, [3]int{1, 0, 2}, [3]int{1, 2, 1}, [3]int{0, 3, 4})
}

func TestDiagramValid(t *testing.T) {
	for vars := range maxInputs + 1 {
		wantDiagramValid(t, "no forks", diagram(vars), true)
		wantDiagramValid(t, "empty forks", impl.Diagram{Vars: vars, Forks: []impl.Fork{}}, true)
		for v := range vars {
			wantDiagramValid(t, "both forks of a variable", diagram(vars, [3]int{v, 0, 1}, [3]int{v, 1, 0}), true)
		}
		for v := range max(1, vars) - 1 {
			wantDiagramValid(t, "a fork of the next variable's", diagram(vars, [3]int{v + 1, 0, 1}, [3]int{v, 2, 0}, [3]int{v, 1, 2}), true)
		}
	}
	wantDiagramValid(t, "the example", majority(), true)
	wantDiagramValid(t, "a variable that is passed over", diagram(3, [3]int{2, 0, 1}, [3]int{0, 0, 2}), true)
	wantDiagramValid(t, "variables in any order", diagram(3, [3]int{0, 0, 1}, [3]int{2, 0, 1}, [3]int{1, 3, 1}, [3]int{2, 1, 0}, [3]int{0, 4, 5}), true)
	wantDiagramValid(t, "the same places for two variables", diagram(3, [3]int{2, 0, 1}, [3]int{1, 0, 2}, [3]int{0, 0, 2}), true)
	wantDiagramValid(t, "the same places the other way round", diagram(2, [3]int{1, 0, 1}, [3]int{0, 0, 2}, [3]int{0, 2, 0}), true)
	wantDiagramValid(t, "the same Low", diagram(2, [3]int{1, 0, 1}, [3]int{0, 0, 2}, [3]int{0, 0, 1}), true)
	wantDiagramValid(t, "the same High", diagram(2, [3]int{1, 0, 1}, [3]int{0, 2, 1}, [3]int{0, 0, 1}), true)
	wantDiagramValid(t, "as many forks as may be", longDiagram(5, maxForks), true)
	wantDiagramValid(t, "as many forks as may be, twelve variables", longDiagram(12, maxForks), true)
}

func TestAddFork(t *testing.T) {
	d := majority()
	wantFork(t, "a new one", d, 1, 1, 2, drawn{withForks(d, [3]int{1, 1, 2}), 6})
	wantFork(t, "of forks", d, 0, 4, 3, drawn{withForks(d, [3]int{0, 4, 3}), 6})
	wantFork(t, "of places with the last variable", d, 1, 2, 0, drawn{withForks(d, [3]int{1, 2, 0}), 6})
	wantFork(t, "of a place that passes over a variable", d, 0, 2, 1, drawn{withForks(d, [3]int{0, 2, 1}), 6})
	wantFork(t, "the last variable", d, 2, 1, 0, drawn{withForks(d, [3]int{2, 1, 0}), 6})
	wantFork(t, "other variables of the same places", d, 0, 0, 1, drawn{withForks(d, [3]int{0, 0, 1}), 6})
	wantFork(t, "one variable", diagram(1), 0, 1, 0, drawn{diagram(1, [3]int{0, 1, 0}), 2})
	wantFork(t, "the last of twelve", diagram(12), 11, 0, 1, drawn{diagram(12, [3]int{11, 0, 1}), 2})
}

func TestForksThatAreThere(t *testing.T) {
	d := majority()
	for i, f := range d.Forks {
		wantFork(t, "a fork that is there", d, f.Var, f.Low, f.High, drawn{d, 2 + i})
	}
	for n := range 2 {
		for v := range 3 {
			wantFork(t, "a constant twice", d, v, n, n, drawn{d, n})
		}
	}
	wantFork(t, "a fork twice", d, 0, 3, 3, drawn{d, 3})
	wantFork(t, "a fork of the last variable twice", d, 1, 2, 2, drawn{d, 2})
	wantFork(t, "without forks", diagram(4), 3, 1, 1, drawn{diagram(4), 1})
}

func TestForksOfSomeDiagrams(t *testing.T) {
	r := rand.New(rand.NewSource(81))
	for range 3000 {
		d := someDiagram(r, maxInputs, 30)
		v, low, high := r.Intn(maxInputs), somePlace(r, d), somePlace(r, d)
		if len(d.Forks) > 0 && r.Intn(3) == 0 {
			f := d.Forks[r.Intn(len(d.Forks))]
			v, low, high = f.Var, f.Low, f.High
		}
		want := noDrawing()
		if v < d.Vars && v < min(variableByHand(d, low), variableByHand(d, high)) {
			want = drawnOf(forkByHand(d, v, low, high))
		}
		wantFork(t, "by hand", d, v, low, high, want)
	}
}

func TestDiagramValue(t *testing.T) {
	d := majority()
	eachRow(3, func(row []int) {
		wantDiagramValue(t, "a constant", d, 0, row, 0)
		wantDiagramValue(t, "the other constant", d, 1, row, 1)
		wantDiagramValue(t, "the last bit", d, 2, row, row[2])
		wantDiagramValue(t, "the last two", d, 3, row, row[1]*row[2])
		wantDiagramValue(t, "one of the last two", d, 4, row, max(row[1], row[2]))
		wantDiagramValue(t, "most of three", d, 5, row, (row[0]+row[1]+row[2])/2)
	})
	for n := range 2 {
		wantDiagramValue(t, "without variables", diagram(0), n, nil, n)
		wantDiagramValue(t, "without variables", diagram(0), n, []int{}, n)
	}
}

// wantPlaceByHand checks all that is told of a place without making another diagram.
func wantPlaceByHand(t *testing.T, name string, r *rand.Rand, d impl.Diagram, n int) {
	t.Helper()
	list := trueRowsByHand(d, n)
	wantDiagramCount(t, name, d, n, len(list))
	var first []int
	if len(list) > 0 {
		first = list[0]
	}
	wantDiagramRow(t, name, d, n, first...)
	wantDiagramUses(t, name, d, n, usesByHand(d, n)...)
	row := someRow(r, d.Vars)
	wantDiagramValue(t, name, d, n, row, constantByHand(d, n, row))
}

func TestPlacesOfSomeDiagrams(t *testing.T) {
	r := rand.New(rand.NewSource(82))
	for range 120 {
		d := someDiagram(r, 6, 25)
		for n := range placesIn(d) {
			wantPlaceByHand(t, "by hand", r, d, n)
		}
	}
}

func TestPlacesOfLongDiagrams(t *testing.T) {
	r := rand.New(rand.NewSource(83))
	for _, d := range []impl.Diagram{longDiagram(12, maxForks), crowdedDiagram(r, 12, maxForks), crowdedDiagram(r, 5, maxForks)} {
		for _, n := range []int{0, 1, 2, 3, 40, 1000, placesIn(d) - 2, placesIn(d) - 1, r.Intn(maxForks), r.Intn(maxForks)} {
			wantPlaceByHand(t, "2000 forks", r, d, n)
		}
	}
}

func TestDiagramCount(t *testing.T) {
	for vars := range maxInputs + 1 {
		wantDiagramCount(t, "the constant 0", diagram(vars), 0, 0)
		wantDiagramCount(t, "the constant 1", diagram(vars), 1, 1<<vars)
		for v := range vars {
			wantDiagramCount(t, "half of the rows", diagram(vars, [3]int{v, 0, 1}), 2, 1<<vars/2)
			wantDiagramCount(t, "the other half", diagram(vars, [3]int{v, 1, 0}), 2, 1<<vars/2)
		}
	}
	for n, want := range []int{0, 8, 4, 2, 6, 4} {
		wantDiagramCount(t, "the example", majority(), n, want)
	}
	wantDiagramCount(t, "a variable that is passed over", diagram(3, [3]int{2, 0, 1}, [3]int{0, 0, 2}), 3, 2)
	wantDiagramCount(t, "a variable that is passed over on one side", diagram(3, [3]int{2, 0, 1}, [3]int{1, 0, 2}, [3]int{0, 2, 3}), 4, 3)
	wantDiagramCount(t, "the last variables are passed over", diagram(12, [3]int{1, 0, 1}, [3]int{0, 0, 2}), 3, 1024)
}

func TestDiagramRow(t *testing.T) {
	for vars := range maxInputs + 1 {
		wantDiagramRow(t, "the constant 0", diagram(vars), 0)
		wantDiagramRow(t, "the constant 1", diagram(vars), 1, make([]int, vars)...)
		for v := range vars {
			row := make([]int, vars)
			wantDiagramRow(t, "a bit that is 0", diagram(vars, [3]int{v, 1, 0}), 2, row...)
			row[v] = 1
			wantDiagramRow(t, "a bit that is 1", diagram(vars, [3]int{v, 0, 1}), 2, row...)
		}
	}
	wantDiagramRow(t, "the last bit", majority(), 2, 0, 0, 1)
	wantDiagramRow(t, "the last two", majority(), 3, 0, 1, 1)
	wantDiagramRow(t, "one of the last two", majority(), 4, 0, 0, 1)
	wantDiagramRow(t, "two of three", majority(), 5, 0, 1, 1)
	wantDiagramRow(t, "the first bit must be 1", diagram(3, [3]int{2, 0, 1}, [3]int{0, 0, 2}), 3, 1, 0, 1)
	wantDiagramRow(t, "a later bit is 0", diagram(3, [3]int{2, 1, 0}, [3]int{1, 0, 2}, [3]int{0, 0, 3}), 4, 1, 1, 0)
	wantDiagramRow(t, "0 where High is the constant 1", diagram(2, [3]int{1, 0, 1}, [3]int{0, 2, 1}), 3, 0, 1)
}

func TestDiagramUses(t *testing.T) {
	d := majority()
	wantDiagramUses(t, "a constant", d, 0)
	wantDiagramUses(t, "the other constant", d, 1)
	wantDiagramUses(t, "itself alone", d, 2, 2)
	wantDiagramUses(t, "itself and another one", d, 3, 1, 2)
	wantDiagramUses(t, "all", d, 5, 0, 1, 2)
	wantDiagramUses(t, "a variable that is passed over", diagram(3, [3]int{2, 0, 1}, [3]int{0, 0, 2}), 3, 0, 2)
	wantDiagramUses(t, "Low alone", diagram(3, [3]int{2, 0, 1}, [3]int{1, 1, 0}, [3]int{0, 3, 1}), 4, 0, 1)
	wantDiagramUses(t, "High alone", diagram(3, [3]int{2, 0, 1}, [3]int{1, 1, 0}, [3]int{0, 1, 2}), 4, 0, 2)
	wantDiagramUses(t, "other variables on either side", diagram(4, [3]int{3, 0, 1}, [3]int{2, 0, 1}, [3]int{1, 3, 2}), 4, 1, 2, 3)
	wantDiagramUses(t, "one that is behind it is not used", withForks(d, [3]int{2, 1, 0}), 6, 2)
}

// Promise 8: places that are true for the same bits are one place.
func wantPlacesApart(t *testing.T, name string, d impl.Diagram) {
	t.Helper()
	places := map[string]int{}
	for n := range placesIn(d) {
		column := columnByHand(d, n)
		if other, is := places[column]; is {
			t.Fatalf("%s: the places %d and %d of %v are true for the same bits", name, other, n, shownDiagram(d))
		}
		places[column] = n
	}
}

func TestPlacesAreApart(t *testing.T) {
	wantPlacesApart(t, "2000 forks", longDiagram(5, maxForks))
	r := rand.New(rand.NewSource(84))
	wantPlacesApart(t, "2000 forks", crowdedDiagram(r, 6, maxForks))
	for range 100 {
		d := someDiagram(r, 5, 30)
		wantDiagramValid(t, "some diagram", d, true)
		wantPlacesApart(t, "some diagram", d)
	}
}

// Promise 8: whatever is made of a diagram's places, no two of its places become true for the same bits, and those that were there stay.
func TestPlacesStayApart(t *testing.T) {
	r := rand.New(rand.NewSource(85))
	for range 40 {
		d := impl.Diagram{Vars: 1 + r.Intn(6)}
		for len(d.Forks) < 60 {
			before := d
			for _, x := range drawingsOf(r, d) {
				d = longer(d, x.d)
			}
			if len(d.Forks) == len(before.Forks) {
				break
			}
			wantDiagramValid(t, "what is made", d, true)
			wantPlacesApart(t, "what is made", d)
			if !slices.Equal(d.Forks[:len(before.Forks)], before.Forks) {
				t.Fatalf("%v became %v", shownDiagram(before), shownDiagram(d))
			}
		}
	}
}

// longer returns the one of two diagrams with more forks.
func longer(d impl.Diagram, other impl.Diagram) impl.Diagram {
	if len(other.Forks) > len(d.Forks) {
		return other
	}
	return d
}

// drawingsOf returns what each function that adds forks makes of some places of a diagram with a variable at least.
func drawingsOf(r *rand.Rand, d impl.Diagram) []drawn {
	a, b, v := somePlace(r, d), somePlace(r, d), r.Intn(d.Vars)
	return []drawn{
		drawnOf(impl.AddFork(d, v, a, b)),
		drawnOf(impl.DiagramNot(d, a)),
		drawnOf(impl.DiagramAnd(d, a, b)),
		drawnOf(impl.DiagramOr(d, a, b)),
		drawnOf(impl.DiagramFix(d, a, v, r.Intn(2))),
		drawnOf(impl.DiagramSome(d, a, someSet(r, d.Vars))),
	}
}

// Promise 8: a truth that is made in two ways is one place, and nothing is put the second time.
func TestTwoWaysToOnePlace(t *testing.T) {
	r := rand.New(rand.NewSource(86))
	for range 300 {
		d := someDiagram(r, 6, 25)
		a, b := somePlace(r, d), somePlace(r, d)
		d, both := impl.DiagramAnd(d, a, b)
		d, neither := impl.DiagramNot(d, both)
		d, notA := impl.DiagramNot(d, a)
		d, notB := impl.DiagramNot(d, b)
		wantDiagramOr(t, "Or of contraries", d, notA, notB, drawn{d, neither})
		wantDiagramNot(t, "the contrary of the contrary", d, neither, drawn{d, both})
		wantDiagramAnd(t, "And with itself", d, both, both, drawn{d, both})
		wantDiagramOr(t, "Or with one of both", d, both, a, drawn{d, a})
		wantDiagramAnd(t, "And with one of both", d, both, a, drawn{d, both})
		wantDiagramOr(t, "Or with the contrary", d, a, notA, drawn{d, 1})
		wantDiagramAnd(t, "And with the contrary", d, a, notA, drawn{d, 0})
		for v := range variableByHand(d, both) {
			if v < d.Vars {
				wantDiagramFix(t, "a variable that is passed over", d, both, v, r.Intn(2), drawn{d, both})
				wantDiagramSome(t, "a variable that is passed over", d, both, []int{v}, drawn{d, both})
			}
		}
	}
}
