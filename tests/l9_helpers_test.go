package tests

import (
	"math/rand"
	"slices"
	"testing"

	"loop.example/wholecheck/impl"
)

// The number of the document's chapter 9, written out.
const maxSift = 5

// diagramByHand returns a diagram made from no forks as the document says of DiagramOf, by what the truth has for a row of bits.
func diagramByHand(vars int, value func(row []int) int) drawn {
	return drawnOf(fromRowsByHand(impl.Diagram{Vars: vars}, nil, value))
}

// fromRowsByHand adds the place of the rows that begin with some bits.
func fromRowsByHand(d impl.Diagram, begin []int, value func(row []int) int) (impl.Diagram, int) {
	if len(begin) == d.Vars {
		return d, value(begin)
	}
	d, low := fromRowsByHand(d, append(slices.Clone(begin), 0), value)
	d, high := fromRowsByHand(d, append(slices.Clone(begin), 1), value)
	return forkByHand(d, len(begin), low, high)
}

// givenBack returns the bits of the variables when the variable order[k] has the bit k of a row.
func givenBack(row []int, order []int) []int {
	own := make([]int, len(row))
	for k, v := range order {
		own[v] = row[k]
	}
	return own
}

func reorderedByHand(d impl.Diagram, n int, order []int) drawn {
	return diagramByHand(d.Vars, func(row []int) int { return constantByHand(d, n, givenBack(row, order)) })
}

// forksByHand returns how many forks there are to which one comes from a place.
func forksByHand(d impl.Diagram, n int) int {
	seen := map[int]bool{}
	for list := []int{n}; len(list) > 0; list = list[1:] {
		if at := list[0]; at >= 2 && !seen[at] {
			seen[at] = true
			list = append(list, d.Forks[at-2].Low, d.Forks[at-2].High)
		}
	}
	return len(seen)
}

// sizeByHand returns how many forks a place has when its variables are in an order.
func sizeByHand(d impl.Diagram, n int, order []int) int {
	x := reorderedByHand(d, n, order)
	return forksByHand(x.d, x.place)
}

func compactedByHand(d impl.Diagram, n int) drawn {
	return drawnOf(takenByHand(impl.Diagram{Vars: d.Vars}, d, n))
}

// takenByHand adds a place of another diagram by the words of the document, without keeping what was added.
func takenByHand(made impl.Diagram, d impl.Diagram, n int) (impl.Diagram, int) {
	if n < 2 {
		return made, n
	}
	f := d.Forks[n-2]
	made, low := takenByHand(made, d, f.Low)
	made, high := takenByHand(made, d, f.High)
	return forkByHand(made, f.Var, low, high)
}

// exchangedByHand returns the order of so many variables in which v and v + 1 are exchanged.
func exchangedByHand(vars int, v int) []int {
	order := firstNumbers(vars)
	order[v], order[v+1] = v+1, v
	return order
}

// allOrders returns the orders of so many variables, by the first number that differs.
func allOrders(vars int) [][]int {
	list := [][]int{{}}
	for range vars {
		var longer [][]int
		for _, begin := range list {
			for v := range vars {
				if !slices.Contains(begin, v) {
					longer = append(longer, append(slices.Clone(begin), v))
				}
			}
		}
		list = longer
	}
	return list
}

func leastByHand(d impl.Diagram, n int) []int {
	var least []int
	for _, order := range allOrders(d.Vars) {
		if least == nil || sizeByHand(d, n, order) < sizeByHand(d, n, least) {
			least = order
		}
	}
	return least
}

// placedByHand returns an order in which a variable stands at a place, the others staying in their order.
func placedByHand(order []int, v int, place int) []int {
	others := slices.DeleteFunc(slices.Clone(order), func(other int) bool { return other == v })
	return slices.Insert(others, place, v)
}

func siftedByHand(d impl.Diagram, n int) []int {
	order := firstNumbers(d.Vars)
	for v := range d.Vars {
		var sizes []int
		for place := range d.Vars {
			sizes = append(sizes, sizeByHand(d, n, placedByHand(order, v, place)))
		}
		if fewest := slices.Min(sizes); fewest < sizes[slices.Index(order, v)] {
			order = placedByHand(order, v, slices.Index(sizes, fewest))
		}
	}
	return order
}

// someOrder returns some order of so many variables.
func someOrder(r *rand.Rand, vars int) []int { return r.Perm(vars) }

// someTruth returns a diagram of a truth that has some value for each row of bits: 1 for about one of so many.
func someTruth(r *rand.Rand, vars int, of int) drawn {
	return diagramByHand(vars, func([]int) int { return boolOf(r.Intn(of) == 0) })
}

// truthByNumber returns a diagram of a truth that has the bits of a number as its values, the first row's lowest.
func truthByNumber(vars int, number int) drawn {
	at := -1
	return diagramByHand(vars, func([]int) int {
		at++
		return number >> at & 1
	})
}

// equalByPairs returns a diagram of a truth of variables of which each pair is equal.
func equalByPairs(vars int, pairs ...[2]int) drawn {
	return diagramByHand(vars, func(row []int) int {
		return boolOf(!slices.ContainsFunc(pairs, func(p [2]int) bool { return row[p[0]] != row[p[1]] }))
	})
}

// anyOfBoth returns a diagram of a truth of variables of which both of some pair are 1.
func anyOfBoth(vars int, pairs ...[2]int) drawn {
	return diagramByHand(vars, func(row []int) int {
		return boolOf(slices.ContainsFunc(pairs, func(p [2]int) bool { return row[p[0]]+row[p[1]] == 2 }))
	})
}

func wantOrderValid(t *testing.T, name string, order []int, vars int, want bool) {
	t.Helper()
	if got := impl.OrderValid(order, vars); got != want {
		t.Errorf("%s: OrderValid(%v, %d) = %v", name, order, vars, got)
	}
}

func wantOrderBack(t *testing.T, name string, order []int, want ...int) {
	t.Helper()
	if got := impl.OrderBack(order); !slices.Equal(got, want) {
		t.Errorf("%s: OrderBack(%v) = %v, want %v", name, order, got, want)
	}
}

func wantForksOf(t *testing.T, name string, d impl.Diagram, n int, want int) {
	t.Helper()
	if got := impl.ForksOf(d, n); got != want {
		t.Errorf("%s: ForksOf(%v, %d) = %d, want %d", name, shownDiagram(d), n, got, want)
	}
}

func wantCompacted(t *testing.T, name string, d impl.Diagram, n int, want drawn) {
	t.Helper()
	if got := drawnOf(impl.Compacted(d, n)); !got.is(want) {
		t.Errorf("%s: Compacted(%v, %d) = %v, want %v", name, shownDiagram(d), n, got, want)
	}
}

func wantReordered(t *testing.T, name string, d impl.Diagram, n int, order []int, want drawn) {
	t.Helper()
	if got := drawnOf(impl.Reordered(d, n, order)); !got.is(want) {
		t.Errorf("%s: Reordered(%v, %d, %v) = %v, want %v", name, shownDiagram(d), n, order, got, want)
	}
}

func wantSwapped(t *testing.T, name string, d impl.Diagram, n int, v int, want drawn) {
	t.Helper()
	if got := drawnOf(impl.SwapOrder(d, n, v)); !got.is(want) {
		t.Errorf("%s: SwapOrder(%v, %d, %d) = %v, want %v", name, shownDiagram(d), n, v, got, want)
	}
}

func wantSifted(t *testing.T, name string, d impl.Diagram, n int, want ...int) {
	t.Helper()
	if got := impl.SiftOrder(d, n); !slices.Equal(got, want) {
		t.Errorf("%s: SiftOrder(%v, %d) = %v, want %v", name, shownDiagram(d), n, got, want)
	}
}

func wantLeast(t *testing.T, name string, d impl.Diagram, n int, want ...int) {
	t.Helper()
	if got := impl.LeastOrder(d, n); !slices.Equal(got, want) {
		t.Errorf("%s: LeastOrder(%v, %d) = %v, want %v", name, shownDiagram(d), n, got, want)
	}
}
