package tests

import (
	"math/rand"
	"slices"
	"testing"

	"loop.example/wholecheck/impl"
)

func TestLimitOfOrders(t *testing.T) {
	if impl.MaxSift != maxSift {
		t.Error("the limit of orders is not what the document says")
	}
}

func TestExampleOfOrders(t *testing.T) {
	c := circuit(4)
	edge := 1
	for _, p := range [][2]int{{2, 6}, {4, 8}} {
		var same int
		c, same = pickByHand(c, p[0], p[1], p[1]+1)
		c, edge = andByHand(c, edge, same)
	}
	d, n := impl.DiagramOf(c, edge)
	wantForksOf(t, "as they are numbered", d, n, 9)
	x, place := impl.Reordered(d, n, []int{0, 2, 1, 3})
	wantForksOf(t, "pair by pair", x, place, 6)
	wantLeast(t, "equal by pairs", d, n, 0, 2, 1, 3)
	wantSifted(t, "equal by pairs", d, n, 0, 2, 1, 3)
	eachRow(4, func(row []int) {
		wantDiagramValue(t, "pair by pair", x, place, row, boolOf(row[0] == row[1] && row[2] == row[3]))
	})
}

func TestOrderValid(t *testing.T) {
	r := rand.New(rand.NewSource(101))
	wantOrderValid(t, "no variables", nil, 0, true)
	wantOrderValid(t, "no variables", []int{}, 0, true)
	for vars := range maxInputs + 1 {
		order := firstNumbers(vars)
		wantOrderValid(t, "as they are numbered", order, vars, true)
		slices.Reverse(order)
		wantOrderValid(t, "the other way round", order, vars, true)
		for range 20 {
			wantOrderValid(t, "some order", someOrder(r, vars), vars, true)
		}
	}
}

// Of all lists of numbers just those with each number once are orders.
func TestOrdersAmongAllLists(t *testing.T) {
	for vars := range 5 {
		list := allOrders(vars)
		many := 0
		for length := range vars + 2 {
			eachList(length, -1, vars, func(order []int) {
				is := slices.ContainsFunc(list, func(other []int) bool { return slices.Equal(order, other) })
				wantOrderValid(t, "all lists", order, vars, is)
				many += boolOf(is)
			})
		}
		if want := []int{1, 1, 2, 6, 24}[vars]; many != want {
			t.Errorf("%d orders of %d variables", many, vars)
		}
	}
}

// eachList calls a function with each list of so many numbers between two.
func eachList(length int, low int, high int, look func(list []int)) {
	if length == 0 {
		look(nil)
		return
	}
	eachList(length-1, low, high, func(ahead []int) {
		for n := low; n <= high; n++ {
			look(append(slices.Clone(ahead), n))
		}
	})
}

func TestOrderBack(t *testing.T) {
	wantOrderBack(t, "no variables", nil)
	wantOrderBack(t, "no variables", []int{})
	wantOrderBack(t, "one variable", []int{0}, 0)
	wantOrderBack(t, "two exchanged", []int{1, 0}, 1, 0)
	wantOrderBack(t, "round", []int{1, 2, 0}, 2, 0, 1)
	wantOrderBack(t, "round the other way", []int{2, 0, 1}, 1, 2, 0)
	wantOrderBack(t, "four", []int{3, 1, 0, 2}, 2, 1, 3, 0)
	wantOrderBack(t, "as many as may be", []int{11, 0, 1, 2, 3, 4, 5, 6, 7, 8, 9, 10}, 1, 2, 3, 4, 5, 6, 7, 8, 9, 10, 11, 0)
	r := rand.New(rand.NewSource(102))
	for vars := range maxInputs + 1 {
		wantOrderBack(t, "as they are numbered", firstNumbers(vars), firstNumbers(vars)...)
		for range 20 {
			order := someOrder(r, vars)
			var want []int
			for v := range vars {
				want = append(want, slices.Index(order, v))
			}
			wantOrderBack(t, "some order", order, want...)
			wantOrderBack(t, "some order back", want, order...)
		}
	}
}

// unneeded returns a diagram in which place 6 is true where two of three bits differ, and comes to three forks of five.
func unneeded() impl.Diagram {
	return diagram(3, [3]int{2, 1, 0}, [3]int{2, 0, 1}, [3]int{1, 0, 2}, [3]int{0, 1, 4}, [3]int{0, 3, 2})
}

func TestForksOf(t *testing.T) {
	for vars := range maxInputs + 1 {
		wantForksOf(t, "a constant", diagram(vars), 0, 0)
		wantForksOf(t, "the other constant", diagram(vars), 1, 0)
	}
	for n, want := range []int{0, 0, 1, 2, 2, 4} {
		wantForksOf(t, "two of three", majority(), n, want)
	}
	for n, want := range []int{0, 0, 1, 1, 2, 3, 3} {
		wantForksOf(t, "forks that are not needed", unneeded(), n, want)
	}
	wantForksOf(t, "Low alone", diagram(2, [3]int{1, 0, 1}, [3]int{0, 2, 1}), 3, 2)
	wantForksOf(t, "High alone", diagram(2, [3]int{1, 0, 1}, [3]int{0, 1, 2}), 3, 2)
	wantForksOf(t, "one that is behind it is not counted", withForks(majority(), [3]int{0, 0, 4}), 5, 4)
	wantForksOf(t, "the last place", withForks(majority(), [3]int{0, 0, 4}), 6, 3)
}

func TestForksOfLongDiagrams(t *testing.T) {
	r := rand.New(rand.NewSource(103))
	for _, d := range []impl.Diagram{longDiagram(5, maxForks), longDiagram(12, maxForks), crowdedDiagram(r, 12, maxForks), crowdedDiagram(r, 6, maxForks)} {
		for _, n := range []int{0, 1, 2, 3, 40, 1000, placesIn(d) - 2, placesIn(d) - 1, r.Intn(maxForks), r.Intn(maxForks)} {
			wantForksOf(t, "2000 forks", d, n, forksByHand(d, n))
			wantCompacted(t, "2000 forks", d, n, compactedByHand(d, n))
		}
	}
}

func TestCompacted(t *testing.T) {
	for vars := range maxInputs + 1 {
		wantCompacted(t, "a constant", diagram(vars), 0, drawn{diagram(vars), 0})
		wantCompacted(t, "the other constant", diagram(vars), 1, drawn{diagram(vars), 1})
	}
	d := majority()
	wantCompacted(t, "a constant beside forks", d, 0, drawn{diagram(3), 0})
	wantCompacted(t, "the other constant beside forks", d, 1, drawn{diagram(3), 1})
	wantCompacted(t, "all are needed", d, 5, drawn{d, 5})
	wantCompacted(t, "the first fork alone", d, 2, drawn{diagram(3, [3]int{2, 0, 1}), 2})
	wantCompacted(t, "those behind are not needed", d, 3, drawn{diagram(3, [3]int{2, 0, 1}, [3]int{1, 0, 2}), 3})
	wantCompacted(t, "one between is not needed", d, 4, drawn{diagram(3, [3]int{2, 0, 1}, [3]int{1, 2, 1}), 3})
	wantCompacted(t, "variables that are passed over", diagram(5, [3]int{4, 1, 0}, [3]int{4, 0, 1}, [3]int{1, 3, 1}), 4, drawn{diagram(5, [3]int{4, 0, 1}, [3]int{1, 2, 1}), 3})
}

// A fork's Low is put ahead of its High, whatever stood first.
func TestOrderOfCompactedForks(t *testing.T) {
	d := unneeded()
	wantCompacted(t, "High stood ahead of Low", d, 6, drawn{diagram(3, [3]int{2, 0, 1}, [3]int{2, 1, 0}, [3]int{0, 2, 3}), 4})
	wantCompacted(t, "Low is a constant", d, 5, drawn{diagram(3, [3]int{2, 1, 0}, [3]int{1, 0, 2}, [3]int{0, 1, 3}), 4})
	want := diagram(3, [3]int{2, 1, 0}, [3]int{1, 0, 2}, [3]int{2, 0, 1}, [3]int{0, 3, 4})
	wantCompacted(t, "High stood between Low and its own High", withForks(d, [3]int{0, 4, 3}), 7, drawn{want, 5})
	wantCompacted(t, "High is Low's own", withForks(d, [3]int{0, 4, 2}), 7, drawn{diagram(3, [3]int{2, 1, 0}, [3]int{1, 0, 2}, [3]int{0, 3, 2}), 4})
	shared := diagram(4, [3]int{3, 0, 1}, [3]int{2, 2, 1}, [3]int{2, 0, 2}, [3]int{1, 3, 4}, [3]int{1, 4, 3}, [3]int{0, 6, 5})
	wantCompacted(t, "forks to which both come", shared, 7, drawn{diagram(4, [3]int{3, 0, 1}, [3]int{2, 0, 2}, [3]int{2, 2, 1}, [3]int{1, 3, 4}, [3]int{1, 4, 3}, [3]int{0, 5, 6}), 7})
}

func TestCompactedOfSomeDiagrams(t *testing.T) {
	r := rand.New(rand.NewSource(104))
	for range 1500 {
		d := someDiagram(r, maxInputs, 40)
		n := somePlace(r, d)
		want := compactedByHand(d, n)
		wantForksOf(t, "by hand", d, n, forksByHand(d, n))
		wantCompacted(t, "by hand", d, n, want)
		wantCompacted(t, "once more", want.d, want.place, want)
		wantDiagramValid(t, "compacted", want.d, true)
		wantForksOf(t, "compacted", want.d, want.place, len(want.d.Forks))
	}
}

func TestReordered(t *testing.T) {
	// Place 4 is true where the first bit is 0 or the second one is 1.
	d := diagram(2, [3]int{1, 0, 1}, [3]int{0, 0, 2}, [3]int{0, 1, 2})
	wantReordered(t, "as they are numbered", d, 4, []int{0, 1}, drawn{diagram(2, [3]int{1, 0, 1}, [3]int{0, 1, 2}), 3})
	wantReordered(t, "exchanged", d, 4, []int{1, 0}, drawn{diagram(2, [3]int{1, 1, 0}, [3]int{0, 2, 1}), 3})
	wantReordered(t, "one bit becomes the other", d, 2, []int{1, 0}, drawn{diagram(2, [3]int{0, 0, 1}), 2})
	for _, order := range allOrders(3) {
		wantReordered(t, "two of three", majority(), 5, order, drawn{majority(), 5})
		wantReordered(t, "a constant", majority(), 0, order, drawn{diagram(3), 0})
		wantReordered(t, "the other constant", majority(), 1, order, drawn{diagram(3), 1})
		wantReordered(t, "the last bit", majority(), 2, order, drawn{diagram(3, [3]int{slices.Index(order, 2), 0, 1}), 2})
	}
}

// In a round of three, the order is not the same as the order back.
func TestReorderedTakesTheVariableAtEachPlace(t *testing.T) {
	d := diagram(3, [3]int{2, 0, 1}, [3]int{1, 2, 1}, [3]int{0, 0, 3})
	wantReordered(t, "the first one, and one of the others", d, 4, []int{0, 1, 2}, drawn{d, 4})
	wantReordered(t, "the first one stands at the end", d, 4, []int{1, 2, 0}, drawn{diagram(3, [3]int{2, 0, 1}, [3]int{1, 0, 2}, [3]int{0, 3, 2}), 4})
	wantReordered(t, "the first one stands between", d, 4, []int{2, 0, 1}, drawn{diagram(3, [3]int{2, 0, 1}, [3]int{1, 0, 2}, [3]int{1, 0, 1}, [3]int{0, 3, 4}), 5})
	wantReordered(t, "the other two exchanged", d, 4, []int{0, 2, 1}, drawn{d, 4})
}

func TestReorderedOfFewVariables(t *testing.T) {
	for n := range 2 {
		for vars := range maxInputs + 1 {
			order := firstNumbers(vars)
			slices.Reverse(order)
			wantReordered(t, "a constant", diagram(vars), n, order, drawn{diagram(vars), n})
		}
		wantReordered(t, "no variables", diagram(0), n, nil, drawn{diagram(0), n})
		wantReordered(t, "no variables", diagram(0), n, []int{}, drawn{diagram(0), n})
	}
	wantReordered(t, "one variable", diagram(1, [3]int{0, 1, 0}), 2, []int{0}, drawn{diagram(1, [3]int{0, 1, 0}), 2})
	wantReordered(t, "one variable, a fork that is not needed", diagram(1, [3]int{0, 1, 0}, [3]int{0, 0, 1}), 3, []int{0}, drawn{diagram(1, [3]int{0, 0, 1}), 2})
}

// Each variable comes to its place, also beyond those of one word of rows.
func TestReorderedMovesEachVariable(t *testing.T) {
	r := rand.New(rand.NewSource(105))
	for vars := range maxInputs + 1 {
		for v := range vars {
			order := someOrder(r, vars)
			wantReordered(t, "one bit", diagram(vars, [3]int{v, 1, 0}), 2, order, drawn{diagram(vars, [3]int{slices.Index(order, v), 1, 0}), 2})
		}
	}
}

func TestReorderedOfSomeDiagrams(t *testing.T) {
	r := rand.New(rand.NewSource(106))
	for range 400 {
		d := someDiagram(r, 7, 40)
		n, order := somePlace(r, d), someOrder(r, d.Vars)
		wantReordered(t, "by hand", d, n, order, reorderedByHand(d, n, order))
	}
	for _, d := range []impl.Diagram{crowdedDiagram(r, maxInputs, maxForks), longDiagram(12, maxForks), longDiagram(5, maxForks), crowdedDiagram(r, maxInputs, 200)} {
		for range 6 {
			n, order := somePlace(r, d), someOrder(r, d.Vars)
			wantReordered(t, "many forks, by hand", d, n, order, reorderedByHand(d, n, order))
		}
	}
}

// A truth of six pairs has 18 forks when equal ones stand beside each other, and 189 when they stand apart.
func TestReorderedOfManyForks(t *testing.T) {
	x := equalByPairs(12, [2]int{0, 6}, [2]int{1, 7}, [2]int{2, 8}, [2]int{3, 9}, [2]int{4, 10}, [2]int{5, 11})
	wantForksOf(t, "apart", x.d, x.place, 189)
	beside := []int{0, 6, 1, 7, 2, 8, 3, 9, 4, 10, 5, 11}
	want := equalByPairs(12, [2]int{0, 1}, [2]int{2, 3}, [2]int{4, 5}, [2]int{6, 7}, [2]int{8, 9}, [2]int{10, 11})
	wantReordered(t, "beside each other", x.d, x.place, beside, want)
	wantForksOf(t, "beside each other", want.d, want.place, 18)
	wantReordered(t, "apart again", want.d, want.place, impl.OrderBack(beside), x)
}

// A truth without a rule has as many forks as there can be of twelve variables.
func TestReorderedOfAsManyForksAsCanBe(t *testing.T) {
	r := rand.New(rand.NewSource(107))
	x := someTruth(r, maxInputs, 2)
	if len(x.d.Forks) < 700 {
		t.Errorf("the truth has %d forks", len(x.d.Forks))
	}
	for range 8 {
		order := someOrder(r, maxInputs)
		wantReordered(t, "about 765 forks", x.d, x.place, order, reorderedByHand(x.d, x.place, order))
	}
}

func TestSwapOrder(t *testing.T) {
	d := diagram(3, [3]int{2, 0, 1}, [3]int{1, 2, 1}, [3]int{0, 0, 3})
	wantSwapped(t, "the first two", d, 4, 0, drawn{diagram(3, [3]int{2, 0, 1}, [3]int{1, 0, 2}, [3]int{1, 0, 1}, [3]int{0, 3, 4}), 5})
	wantSwapped(t, "the last two", d, 4, 1, drawn{d, 4})
	wantSwapped(t, "a place to which the first one does not belong", d, 3, 0, drawn{diagram(3, [3]int{2, 0, 1}, [3]int{0, 2, 1}), 3})
	wantSwapped(t, "a constant", d, 1, 1, drawn{diagram(3), 1})
	wantSwapped(t, "a constant", d, 0, 0, drawn{diagram(3), 0})
	wantSwapped(t, "two variables", diagram(2, [3]int{0, 0, 1}), 2, 0, drawn{diagram(2, [3]int{1, 0, 1}), 2})
	wantSwapped(t, "forks that are not needed", unneeded(), 6, 1, drawn{diagram(3, [3]int{1, 0, 1}, [3]int{1, 1, 0}, [3]int{0, 2, 3}), 4})
}

func TestSwapsOfSomeDiagrams(t *testing.T) {
	r := rand.New(rand.NewSource(108))
	for range 200 {
		d := someDiagram(r, 7, 40)
		n := somePlace(r, d)
		for v := range max(1, d.Vars) - 1 {
			want := reorderedByHand(d, n, exchangedByHand(d.Vars, v))
			wantSwapped(t, "by hand", d, n, v, want)
			wantReordered(t, "by the order", d, n, exchangedByHand(d.Vars, v), want)
			wantSwapped(t, "back", want.d, want.place, v, compactedByHand(d, n))
		}
	}
	d := crowdedDiagram(r, maxInputs, maxForks)
	for v := range maxInputs - 1 {
		n := somePlace(r, d)
		wantSwapped(t, "2000 forks", d, n, v, reorderedByHand(d, n, exchangedByHand(maxInputs, v)))
	}
}

// Promise 9: whatever the order of its variables is, a truth stays the same.
func TestTruthsStayTheSame(t *testing.T) {
	r := rand.New(rand.NewSource(109))
	for range 300 {
		d := someDiagram(r, 7, 40)
		n, order := somePlace(r, d), someOrder(r, d.Vars)
		x, place := impl.Reordered(d, n, order)
		short, at := impl.Compacted(d, n)
		wantDiagramValid(t, "reordered", x, true)
		wantDiagramValid(t, "compacted", short, true)
		eachRow(d.Vars, func(row []int) {
			own := givenBack(row, order)
			want := constantByHand(d, n, own)
			wantDiagramValue(t, "reordered", x, place, row, want)
			wantDiagramValue(t, "compacted", short, at, own, want)
		})
		wantDiagramCount(t, "reordered", x, place, len(trueRowsByHand(d, n)))
		wantReordered(t, "back", x, place, impl.OrderBack(order), drawn{short, at})
		wantReordered(t, "as they are numbered", d, n, firstNumbers(d.Vars), drawn{short, at})
	}
}

// Promise 9: one order behind the other is as good as one order alone, and exchanges as an order of both.
func TestOrdersOneBehindTheOther(t *testing.T) {
	r := rand.New(rand.NewSource(110))
	for range 200 {
		d := someDiagram(r, 7, 40)
		n, first, second := somePlace(r, d), someOrder(r, d.Vars), someOrder(r, d.Vars)
		var both []int
		for _, k := range second {
			both = append(both, first[k])
		}
		x, place := impl.Reordered(d, n, first)
		wantReordered(t, "one behind the other", x, place, second, reorderedByHand(d, n, both))
		order := firstNumbers(d.Vars)
		x, place = impl.Compacted(d, n)
		for v := range max(1, d.Vars) - 1 {
			x, place = impl.SwapOrder(x, place, v)
			order[v], order[v+1] = order[v+1], order[v]
			wantReordered(t, "exchanged one behind the other", d, n, order, drawn{x, place})
		}
	}
}
