package tests

import (
	"slices"
	"testing"

	"loop.example/wholecheck/impl"
)

// noOrders returns lists that are no orders of so many variables.
func noOrders(vars int) [][]int {
	list := [][]int{firstNumbers(vars + 1), slices.Repeat([]int{0}, vars+1), firstNumbers(100), make([]int, 1000)}
	if vars > 0 {
		list = append(list, nil, []int{}, firstNumbers(vars-1), firstNumbers(vars)[1:], append(firstNumbers(vars), vars-1))
	}
	// One number alone is another one.
	for at := range vars {
		for _, v := range []int{-1, -2, -vars, vars, vars + 1, maxInputs, 63, 64, greatest, least, least + 1, (at + 1) % vars} {
			order := firstNumbers(vars)
			order[at] = v
			if v < 0 || v >= vars || vars > 1 && v == (at+1)%vars {
				list = append(list, order)
			}
		}
	}
	return list
}

// noNumbersOfVariables returns numbers of variables that are beyond the limits.
var noNumbersOfVariables = []int{-1, -2, least, least + 1, maxInputs + 1, maxInputs + 2, 63, 64, greatest, greatest - 1}

func TestNoOrders(t *testing.T) {
	for vars := range maxInputs + 1 {
		for _, order := range noOrders(vars) {
			wantOrderValid(t, "no order", order, vars, false)
			if len(order) == vars || len(order) > maxInputs {
				wantOrderBack(t, "no order", order)
			}
		}
	}
	for _, vars := range noNumbersOfVariables {
		for _, order := range [][]int{nil, {}, {0}, {-1}, firstNumbers(maxInputs), firstNumbers(max(0, min(vars, 100)))} {
			wantOrderValid(t, "numbers of variables", order, vars, false)
		}
	}
	for _, many := range []int{13, 14, 63, 64, 65, 100, 1000} {
		wantOrderBack(t, "too many variables", firstNumbers(many))
		wantOrderValid(t, "too many variables", firstNumbers(many), many, false)
		wantOrderValid(t, "too many variables", firstNumbers(many), maxInputs, false)
	}
}

func TestOrdersOfAnotherLength(t *testing.T) {
	for vars := range maxInputs + 1 {
		for many := range maxInputs + 1 {
			wantOrderValid(t, "another length", firstNumbers(many), vars, many == vars)
		}
	}
}

func TestOrdersOfNoDiagrams(t *testing.T) {
	for _, x := range noDiagrams() {
		orders := [][]int{nil, {0}, {0, 1, 2}, firstNumbers(5), firstNumbers(max(0, min(x.d.Vars, 64)))}
		for _, n := range []int{0, 1, 2, 3, -1, greatest, least} {
			wantForksOf(t, x.name, x.d, n, -1)
			wantCompacted(t, x.name, x.d, n, noDrawing())
			for _, order := range orders {
				wantReordered(t, x.name, x.d, n, order, noDrawing())
			}
			for _, v := range []int{0, 1, -1, greatest} {
				wantSwapped(t, x.name, x.d, n, v, noDrawing())
			}
			wantSifted(t, x.name, x.d, n)
			wantLeast(t, x.name, x.d, n)
		}
	}
}

func TestOrdersOfNoPlaces(t *testing.T) {
	for _, d := range append(goodDiagrams(), unneeded(), crowdedPairs()) {
		for _, n := range noPlaces(d) {
			wantForksOf(t, "no place", d, n, -1)
			wantCompacted(t, "no place", d, n, noDrawing())
			wantReordered(t, "no place", d, n, firstNumbers(d.Vars), noDrawing())
			for v := range max(1, d.Vars) - 1 {
				wantSwapped(t, "no place", d, n, v, noDrawing())
			}
			wantSifted(t, "no place", d, n)
			wantLeast(t, "no place", d, n)
		}
	}
}

// crowdedPairs returns a diagram of four variables in which other orders are better than the one as they are numbered.
func crowdedPairs() impl.Diagram { return equalByPairs(4, [2]int{0, 2}, [2]int{1, 3}).d }

func TestReorderedByNoOrders(t *testing.T) {
	for _, d := range append(goodDiagrams(), unneeded(), crowdedPairs()) {
		for _, order := range noOrders(d.Vars) {
			for _, n := range []int{0, 1, placesIn(d) - 1} {
				wantReordered(t, "no order", d, n, order, noDrawing())
			}
		}
	}
}

func TestSwapsOfNoVariables(t *testing.T) {
	for _, d := range append(goodDiagrams(), unneeded(), crowdedPairs(), diagram(12)) {
		for _, n := range []int{0, 1, placesIn(d) - 1} {
			for _, v := range append(noVariablesOf(d), d.Vars-1) {
				if v < 0 || v+1 >= d.Vars || v == greatest {
					wantSwapped(t, "no variable or the last one", d, n, v, noDrawing())
				}
			}
		}
	}
	wantSwapped(t, "one variable", diagram(1, [3]int{0, 0, 1}), 2, 0, noDrawing())
	wantSwapped(t, "no variables", diagram(0), 1, 0, noDrawing())
	wantSwapped(t, "no variables", diagram(0), 1, -1, noDrawing())
	wantSwapped(t, "the last one of three", majority(), 5, 2, noDrawing())
	wantSwapped(t, "the last one but one", majority(), 5, 1, drawn{majority(), 5})
}

// Orders are sought of five variables, and not of six, whether they are needed or not.
func TestOrdersOfTooManyVariables(t *testing.T) {
	for vars := maxSift + 1; vars <= maxInputs; vars++ {
		x := equalByPairs(vars, [2]int{0, 2}, [2]int{1, 3})
		for _, d := range []impl.Diagram{x.d, diagram(vars), diagram(vars, [3]int{vars - 1, 0, 1}), longDiagram(vars, maxForks)} {
			for _, n := range []int{0, 1, placesIn(d) - 1, placesIn(d), -1} {
				wantSifted(t, "too many variables", d, n)
				wantLeast(t, "too many variables", d, n)
			}
		}
	}
	x := equalByPairs(maxSift, [2]int{0, 2}, [2]int{1, 3})
	wantSifted(t, "as many as may be", x.d, x.place, siftedByHand(x.d, x.place)...)
	wantLeast(t, "as many as may be", x.d, x.place, 0, 2, 1, 3, 4)
}

func TestArgumentsOfOrdersStay(t *testing.T) {
	d, whole := roomyDiagram()
	order, wholeOrder := roomyNumbers(2, 0, 1)
	bad, wholeBad := roomyNumbers(2, 0, 2)
	wantOrderValid(t, "roomy", order, 3, true)
	wantOrderBack(t, "roomy", order, 1, 2, 0)
	wantOrderValid(t, "roomy", bad, 3, false)
	wantOrderBack(t, "roomy", bad)
	wantForksOf(t, "roomy", d, 5, 4)
	wantCompacted(t, "roomy", d, 5, drawn{majority(), 5})
	wantReordered(t, "roomy", d, 5, order, drawn{majority(), 5})
	wantReordered(t, "roomy", d, 5, bad, noDrawing())
	wantSwapped(t, "roomy", d, 5, 1, drawn{majority(), 5})
	wantSifted(t, "roomy", d, 5, 0, 1, 2)
	wantLeast(t, "roomy", d, 5, 0, 1, 2)
	if _, want := roomyDiagram(); !slices.Equal(whole, want) {
		t.Errorf("the forks = %v, want %v", whole, want)
	}
	_, wantOrder := roomyNumbers(2, 0, 1)
	_, wantBad := roomyNumbers(2, 0, 2)
	wantNumbers(t, "the order", wholeOrder, wantOrder)
	wantNumbers(t, "what is no order", wholeBad, wantBad)
}

func TestResultsOfOrdersAreNewMemory(t *testing.T) {
	d, whole := roomyDiagram()
	_, before := roomyDiagram()
	order, wholeOrder := roomyNumbers(2, 0, 1)
	_, beforeOrder := roomyNumbers(2, 0, 1)
	for range 2 {
		scribble(impl.OrderBack(order), 99)
		scribble(impl.SiftOrder(d, 5), 98)
		scribble(impl.LeastOrder(d, 5), 97)
		for n := range placesIn(d) {
			for _, x := range []drawn{drawnOf(impl.Compacted(d, n)), drawnOf(impl.Reordered(d, n, order)), drawnOf(impl.SwapOrder(d, n, 0))} {
				scribble(x.d.Forks, impl.Fork{Var: 96, Low: 96, High: 96})
			}
		}
		if !slices.Equal(whole, before) {
			t.Errorf("the forks = %v, want %v", whole, before)
		}
		wantNumbers(t, "the order", wholeOrder, beforeOrder)
		wantOrderBack(t, "afterwards", order, 1, 2, 0)
		wantSifted(t, "afterwards", d, 5, 0, 1, 2)
		wantLeast(t, "afterwards", d, 5, 0, 1, 2)
		wantCompacted(t, "afterwards", d, 5, drawn{majority(), 5})
		wantReordered(t, "afterwards", d, 5, order, drawn{majority(), 5})
		wantSwapped(t, "afterwards", d, 5, 0, drawn{majority(), 5})
	}
}
