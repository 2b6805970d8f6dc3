package tests

import (
	"fmt"
	"math/rand"
	"slices"
	"testing"

	"loop.example/wholecheck/impl"
)

// The number of the document's chapter 8, written out.
const maxForks = 2000

// diagram returns a diagram with forks of a variable and two places each.
func diagram(vars int, forks ...[3]int) impl.Diagram {
	d := impl.Diagram{Vars: vars}
	for _, f := range forks {
		d.Forks = append(d.Forks, impl.Fork{Var: f[0], Low: f[1], High: f[2]})
	}
	return d
}

// withForks returns a diagram with other forks behind its own.
func withForks(d impl.Diagram, forks ...[3]int) impl.Diagram {
	d.Forks = slices.Concat(d.Forks, diagram(0, forks...).Forks)
	return d
}

// placesIn returns how many places a diagram has: the constants and the forks.
func placesIn(d impl.Diagram) int { return 2 + len(d.Forks) }

// longDiagram returns a diagram with so many forks: all of the last variable, then all of the one ahead of it, and so on.
// With five variables or more, none of 2000 forks is of the first one.
func longDiagram(vars int, forks int) impl.Diagram {
	d := impl.Diagram{Vars: vars}
	for v := vars - 1; v >= 0; v-- {
		ahead := placesIn(d)
		for low := range ahead {
			for high := range ahead {
				if low != high && len(d.Forks) < forks {
					d.Forks = append(d.Forks, impl.Fork{Var: v, Low: low, High: high})
				}
			}
		}
	}
	return d
}

// variableByHand returns the variable at a place; that of a constant is greater than all others.
func variableByHand(d impl.Diagram, n int) int {
	if n < 2 {
		return maxInputs
	}
	return d.Forks[n-2].Var
}

// sideByHand returns where a place goes for the value of a variable.
func sideByHand(d impl.Diagram, n int, v int, value int) int {
	if variableByHand(d, n) != v {
		return n
	}
	return [2]int{d.Forks[n-2].Low, d.Forks[n-2].High}[value]
}

// constantByHand returns the constant to which one comes from a place.
func constantByHand(d impl.Diagram, n int, row []int) int {
	for n >= 2 {
		v := variableByHand(d, n)
		n = sideByHand(d, n, v, row[v])
	}
	return n
}

// columnByHand returns the values of a place for all rows of bits.
func columnByHand(d impl.Diagram, n int) string {
	var column []byte
	eachRow(d.Vars, func(row []int) { column = append(column, '0'+byte(constantByHand(d, n, row))) })
	return string(column)
}

// forkByHand adds a fork to a diagram by the words of the document; a place of -1 stays -1.
func forkByHand(d impl.Diagram, v int, low int, high int) (impl.Diagram, int) {
	if low < 0 || high < 0 {
		return impl.Diagram{}, -1
	}
	if low == high {
		return d, low
	}
	at := slices.Index(d.Forks, impl.Fork{Var: v, Low: low, High: high})
	if at < 0 {
		at = len(d.Forks)
		d = withForks(d, [3]int{v, low, high})
	}
	if len(d.Forks) > maxForks {
		return impl.Diagram{}, -1
	}
	return d, 2 + at
}

// decision returns the constant that becomes of two places, and whether one does.
type decision func(a int, b int) (int, bool)

func notDecides(a int, b int) (int, bool) { return 1 - a, a < 2 && b < 2 }

func andDecides(a int, b int) (int, bool) {
	return boolOf(a == 1 && b == 1), a == 0 || b == 0 || a == 1 && b == 1
}

func orDecides(a int, b int) (int, bool) {
	return boolOf(a == 1 || b == 1), a == 1 || b == 1 || a == 0 && b == 0
}

// combinedByHand makes a place of two places by the words of the document, without keeping what was made.
func combinedByHand(d impl.Diagram, a int, b int, decides decision) (impl.Diagram, int) {
	if constant, is := decides(a, b); is {
		return d, constant
	}
	v := min(variableByHand(d, a), variableByHand(d, b))
	d, low := combinedByHand(d, sideByHand(d, a, v, 0), sideByHand(d, b, v, 0), decides)
	if low < 0 {
		return d, -1
	}
	d, high := combinedByHand(d, sideByHand(d, a, v, 1), sideByHand(d, b, v, 1), decides)
	return forkByHand(d, v, low, high)
}

func fixOfPlaceByHand(d impl.Diagram, n int, v int, value int) (impl.Diagram, int) {
	own := variableByHand(d, n)
	if own >= v {
		return d, sideByHand(d, n, v, value)
	}
	d, low := fixOfPlaceByHand(d, sideByHand(d, n, own, 0), v, value)
	if low < 0 {
		return d, -1
	}
	d, high := fixOfPlaceByHand(d, sideByHand(d, n, own, 1), v, value)
	return forkByHand(d, own, low, high)
}

func someByHand(d impl.Diagram, n int, vars []int) (impl.Diagram, int) {
	for _, v := range vars {
		var zero, one int
		if d, zero = fixOfPlaceByHand(d, n, v, 0); zero < 0 {
			return d, -1
		}
		if d, one = fixOfPlaceByHand(d, n, v, 1); one < 0 {
			return d, -1
		}
		if d, n = combinedByHand(d, zero, one, orDecides); n < 0 {
			return d, -1
		}
	}
	return d, n
}

// ofRowsByHand adds the place that is true for the rows that begin with some bits and for which an edge is 1.
func ofRowsByHand(d impl.Diagram, c impl.Circuit, edge int, begin []int) (impl.Diagram, int) {
	if len(begin) == c.Inputs {
		return d, edgeByHand(nodeValuesByHand(c, begin), edge)
	}
	d, low := ofRowsByHand(d, c, edge, append(slices.Clone(begin), 0))
	d, high := ofRowsByHand(d, c, edge, append(slices.Clone(begin), 1))
	return forkByHand(d, len(begin), low, high)
}

func diagramOfByHand(c impl.Circuit, edge int) (impl.Diagram, int) {
	return ofRowsByHand(impl.Diagram{Vars: c.Inputs}, c, edge, nil)
}

// trueRowsByHand returns the rows of bits for which a place is true, in order.
func trueRowsByHand(d impl.Diagram, n int) [][]int {
	var list [][]int
	eachRow(d.Vars, func(row []int) {
		if constantByHand(d, n, row) == 1 {
			list = append(list, row)
		}
	})
	return list
}

func usesByHand(d impl.Diagram, n int) []int {
	used := map[int]bool{}
	seen := map[int]bool{}
	for list := []int{n}; len(list) > 0; list = list[1:] {
		if at := list[0]; at >= 2 && !seen[at] {
			f := d.Forks[at-2]
			seen[at], used[f.Var] = true, true
			list = append(list, f.Low, f.High)
		}
	}
	return numbersWhere(d.Vars, func(v int) bool { return used[v] })
}

// somePlace returns some place of a diagram, often a constant or one of the last ones.
func somePlace(r *rand.Rand, d impl.Diagram) int {
	end := placesIn(d)
	switch r.Intn(10) {
	case 0:
		return r.Intn(2)
	case 1, 2, 3, 4:
		return max(0, end-1-r.Intn(6))
	}
	return r.Intn(end)
}

// tryFork puts some fork of a variable behind all others of a diagram, if there can be one.
func tryFork(r *rand.Rand, d impl.Diagram, v int) impl.Diagram {
	low, high := somePlace(r, d), somePlace(r, d)
	if low == high || min(variableByHand(d, low), variableByHand(d, high)) <= v || slices.Contains(d.Forks, impl.Fork{Var: v, Low: low, High: high}) {
		return d
	}
	return withForks(d, [3]int{v, low, high})
}

// someDiagram returns a diagram with at most so many variables and forks, most of which are of lower variables than those ahead.
func someDiagram(r *rand.Rand, vars int, forks int) impl.Diagram {
	d := impl.Diagram{Vars: r.Intn(vars + 1)}
	for i := range forks {
		if d.Vars == 0 {
			break
		}
		v := d.Vars - 1 - i*d.Vars/forks
		if r.Intn(4) == 0 {
			v = r.Intn(d.Vars)
		}
		d = tryFork(r, d, v)
	}
	return d
}

// crowdedDiagram returns a diagram of some variables with just so many forks, of all of the variables.
func crowdedDiagram(r *rand.Rand, vars int, forks int) impl.Diagram {
	d := longDiagram(vars, min(forks, 60))
	for len(d.Forks) < forks {
		d = tryFork(r, d, r.Intn(vars))
	}
	return d
}

// shownDiagram is a diagram that is written without most of its forks if it has many.
type shownDiagram impl.Diagram

func (d shownDiagram) String() string {
	if len(d.Forks) <= 30 {
		return fmt.Sprintf("{%d %v}", d.Vars, d.Forks)
	}
	return fmt.Sprintf("{%d, %d forks, the last ones %v}", d.Vars, len(d.Forks), d.Forks[len(d.Forks)-5:])
}

// drawn is a diagram that is told, and the place that is told with it.
type drawn struct {
	d     impl.Diagram
	place int
}

func drawnOf(d impl.Diagram, place int) drawn { return drawn{d, place} }

// noDrawing is what is told where there is no diagram.
func noDrawing() drawn { return drawn{impl.Diagram{}, -1} }

func (x drawn) is(other drawn) bool {
	return x.place == other.place && x.d.Vars == other.d.Vars && slices.Equal(x.d.Forks, other.d.Forks)
}

func (x drawn) String() string { return fmt.Sprintf("%v, %d", shownDiagram(x.d), x.place) }

func wantDiagramValid(t *testing.T, name string, d impl.Diagram, want bool) {
	t.Helper()
	if got := impl.DiagramValid(d); got != want {
		t.Errorf("%s: DiagramValid(%v) = %v", name, shownDiagram(d), got)
	}
}

func wantFork(t *testing.T, name string, d impl.Diagram, v int, low int, high int, want drawn) {
	t.Helper()
	if got := drawnOf(impl.AddFork(d, v, low, high)); !got.is(want) {
		t.Errorf("%s: AddFork(%v, %d, %d, %d) = %v, want %v", name, shownDiagram(d), v, low, high, got, want)
	}
}

func wantDiagramOf(t *testing.T, name string, c impl.Circuit, edge int, want drawn) {
	t.Helper()
	if got := drawnOf(impl.DiagramOf(c, edge)); !got.is(want) {
		t.Errorf("%s: DiagramOf(%v, %d) = %v, want %v", name, shown(c), edge, got, want)
	}
}

func wantDiagramValue(t *testing.T, name string, d impl.Diagram, n int, row []int, want int) {
	t.Helper()
	if got := impl.DiagramValue(d, n, row); got != want {
		t.Errorf("%s: DiagramValue(%v, %d, %v) = %d, want %d", name, shownDiagram(d), n, row, got, want)
	}
}

func wantDiagramNot(t *testing.T, name string, d impl.Diagram, n int, want drawn) {
	t.Helper()
	if got := drawnOf(impl.DiagramNot(d, n)); !got.is(want) {
		t.Errorf("%s: DiagramNot(%v, %d) = %v, want %v", name, shownDiagram(d), n, got, want)
	}
}

// wantDiagramAnd checks And of two places, either one first.
func wantDiagramAnd(t *testing.T, name string, d impl.Diagram, a int, b int, want drawn) {
	t.Helper()
	for _, n := range [][2]int{{a, b}, {b, a}} {
		if got := drawnOf(impl.DiagramAnd(d, n[0], n[1])); !got.is(want) {
			t.Errorf("%s: DiagramAnd(%v, %d, %d) = %v, want %v", name, shownDiagram(d), n[0], n[1], got, want)
		}
	}
}

// wantDiagramOr checks Or of two places, either one first.
func wantDiagramOr(t *testing.T, name string, d impl.Diagram, a int, b int, want drawn) {
	t.Helper()
	for _, n := range [][2]int{{a, b}, {b, a}} {
		if got := drawnOf(impl.DiagramOr(d, n[0], n[1])); !got.is(want) {
			t.Errorf("%s: DiagramOr(%v, %d, %d) = %v, want %v", name, shownDiagram(d), n[0], n[1], got, want)
		}
	}
}

func wantDiagramFix(t *testing.T, name string, d impl.Diagram, n int, v int, value int, want drawn) {
	t.Helper()
	if got := drawnOf(impl.DiagramFix(d, n, v, value)); !got.is(want) {
		t.Errorf("%s: DiagramFix(%v, %d, %d, %d) = %v, want %v", name, shownDiagram(d), n, v, value, got, want)
	}
}

func wantDiagramSome(t *testing.T, name string, d impl.Diagram, n int, vars []int, want drawn) {
	t.Helper()
	if got := drawnOf(impl.DiagramSome(d, n, vars)); !got.is(want) {
		t.Errorf("%s: DiagramSome(%v, %d, %v) = %v, want %v", name, shownDiagram(d), n, vars, got, want)
	}
}

func wantDiagramCount(t *testing.T, name string, d impl.Diagram, n int, want int) {
	t.Helper()
	if got := impl.DiagramCount(d, n); got != want {
		t.Errorf("%s: DiagramCount(%v, %d) = %d, want %d", name, shownDiagram(d), n, got, want)
	}
}

func wantDiagramRow(t *testing.T, name string, d impl.Diagram, n int, want ...int) {
	t.Helper()
	if got := impl.DiagramRow(d, n); !slices.Equal(got, want) {
		t.Errorf("%s: DiagramRow(%v, %d) = %v, want %v", name, shownDiagram(d), n, got, want)
	}
}

func wantDiagramUses(t *testing.T, name string, d impl.Diagram, n int, want ...int) {
	t.Helper()
	if got := impl.DiagramUses(d, n); !slices.Equal(got, want) {
		t.Errorf("%s: DiagramUses(%v, %d) = %v, want %v", name, shownDiagram(d), n, got, want)
	}
}
