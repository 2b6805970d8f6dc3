package tests

import (
	"math/rand"
	"slices"
	"testing"

	"loop.example/wholecheck/impl"
)

// chosenBy returns a diagram of a truth of three variables: one of two, by the third one.
func chosenBy(by int, yes int, no int) drawn {
	return diagramByHand(3, func(row []int) int { return []int{row[no], row[yes]}[row[by]] })
}

func TestOrdersOfConstants(t *testing.T) {
	for vars := range maxSift + 1 {
		for n := range 2 {
			wantLeast(t, "a constant", diagram(vars), n, firstNumbers(vars)...)
			wantSifted(t, "a constant", diagram(vars), n, firstNumbers(vars)...)
		}
		for v := range vars {
			d := diagram(vars, [3]int{v, 0, 1}, [3]int{v, 1, 0})
			for n := range placesIn(d) {
				wantLeast(t, "a constant or one bit", d, n, firstNumbers(vars)...)
				wantSifted(t, "a constant or one bit", d, n, firstNumbers(vars)...)
			}
		}
	}
}

// If all orders are as good, the first one is told, and each variable stays.
func TestOrdersThatAreAsGood(t *testing.T) {
	wantLeast(t, "two of three", majority(), 5, 0, 1, 2)
	wantSifted(t, "two of three", majority(), 5, 0, 1, 2)
	for vars := range maxSift + 1 {
		x := diagramByHand(vars, func(row []int) int { return sum(row) % 2 })
		wantLeast(t, "the sum", x.d, x.place, firstNumbers(vars)...)
		wantSifted(t, "the sum", x.d, x.place, firstNumbers(vars)...)
		x = diagramByHand(vars, func(row []int) int { return boolOf(sum(row) == vars) })
		wantLeast(t, "all bits", x.d, x.place, firstNumbers(vars)...)
		wantSifted(t, "all bits", x.d, x.place, firstNumbers(vars)...)
	}
}

func sum(list []int) int {
	all := 0
	for _, n := range list {
		all += n
	}
	return all
}

func TestLeastOrder(t *testing.T) {
	x := equalByPairs(4, [2]int{0, 2}, [2]int{1, 3})
	wantLeast(t, "the example", x.d, x.place, 0, 2, 1, 3)
	x = equalByPairs(4, [2]int{0, 3}, [2]int{1, 2})
	wantLeast(t, "the first and the last one", x.d, x.place, 0, 3, 1, 2)
	x = equalByPairs(4, [2]int{0, 1}, [2]int{2, 3})
	wantLeast(t, "they stand so", x.d, x.place, 0, 1, 2, 3)
	x = anyOfBoth(4, [2]int{0, 2}, [2]int{1, 3})
	wantLeast(t, "both of some pair", x.d, x.place, 0, 2, 1, 3)
	x = chosenBy(0, 1, 2)
	wantLeast(t, "chosen by the first one", x.d, x.place, 0, 1, 2)
	x = chosenBy(1, 0, 2)
	wantLeast(t, "chosen by the second one", x.d, x.place, 1, 0, 2)
	x = chosenBy(2, 1, 0)
	wantLeast(t, "chosen by the last one", x.d, x.place, 2, 0, 1)
	wantLeast(t, "forks that are not needed", unneeded(), 5, 0, 1, 2)
	x = equalByPairs(5, [2]int{0, 3}, [2]int{1, 4})
	wantLeast(t, "one variable on which nothing depends", x.d, x.place, 0, 2, 3, 1, 4)
}

func TestSiftOrder(t *testing.T) {
	x := equalByPairs(4, [2]int{0, 2}, [2]int{1, 3})
	wantSifted(t, "the example", x.d, x.place, 0, 2, 1, 3)
	x = equalByPairs(4, [2]int{0, 1}, [2]int{2, 3})
	wantSifted(t, "they stand so", x.d, x.place, 0, 1, 2, 3)
	x = chosenBy(0, 1, 2)
	wantSifted(t, "chosen by the first one", x.d, x.place, 0, 1, 2)
	x = chosenBy(1, 0, 2)
	wantSifted(t, "chosen by the second one", x.d, x.place, 1, 0, 2)
	// 0 goes to the end, where there are 4 forks of 5; then 1 goes behind 2, where there are 3, and as many at the end; 2 stays.
	x = chosenBy(2, 1, 0)
	wantSifted(t, "chosen by the last one", x.d, x.place, 2, 1, 0)
	wantForksOf(t, "chosen by the last one", x.d, x.place, 5)
	wantSifted(t, "forks that are not needed", unneeded(), 5, 0, 1, 2)
}

// Moving one variable after the other finds no better order than 6 forks, and there is one with 5.
func TestSiftedOrdersThatAreNotTheLeast(t *testing.T) {
	x := truthByNumber(4, 481)
	wantForksOf(t, "as they are numbered", x.d, x.place, 7)
	wantSifted(t, "moved", x.d, x.place, 1, 0, 2, 3)
	wantLeast(t, "all orders", x.d, x.place, 2, 3, 0, 1)
	for order, want := range map[[4]int]int{{1, 0, 2, 3}: 6, {2, 3, 0, 1}: 5} {
		y, place := impl.Reordered(x.d, x.place, order[:])
		wantForksOf(t, "reordered", y, place, want)
	}
	x = truthByNumber(4, 1221)
	wantSifted(t, "nothing moves", x.d, x.place, 0, 1, 2, 3)
	wantLeast(t, "all orders", x.d, x.place, 1, 3, 0, 2)
}

func wantOrdersByHand(t *testing.T, name string, d impl.Diagram, n int) {
	t.Helper()
	wantLeast(t, name, d, n, leastByHand(d, n)...)
	wantSifted(t, name, d, n, siftedByHand(d, n)...)
}

func TestOrdersOfAllTruthsOfThreeVariables(t *testing.T) {
	for vars := range 4 {
		for number := range 1 << (1 << vars) {
			x := truthByNumber(vars, number)
			wantOrdersByHand(t, "all truths", x.d, x.place)
		}
	}
}

func TestOrdersOfSomeTruths(t *testing.T) {
	r := rand.New(rand.NewSource(111))
	for number := 0; number < 1<<16; number += 61 {
		x := truthByNumber(4, number)
		wantOrdersByHand(t, "truths of four variables", x.d, x.place)
	}
	for i := range 60 {
		x := someTruth(r, maxSift, 2+i%5)
		wantOrdersByHand(t, "truths of five variables", x.d, x.place)
	}
	for _, d := range []impl.Diagram{longDiagram(5, maxForks), crowdedDiagram(r, 5, maxForks), crowdedDiagram(r, 4, 900)} {
		for range 6 {
			wantOrdersByHand(t, "many forks that are not needed", d, somePlace(r, d))
		}
	}
	for range 60 {
		d := someDiagram(r, maxSift, 30)
		wantOrdersByHand(t, "some diagrams", d, somePlace(r, d))
	}
}

// What is told is an order, that of all orders is not worse than the other one, and this one not worse than none.
func TestOrdersThatAreTold(t *testing.T) {
	r := rand.New(rand.NewSource(112))
	moved, better := 0, 0
	for i := range 400 {
		x := someTruth(r, i%(maxSift+1), 2+i%3)
		sift, best := impl.SiftOrder(x.d, x.place), impl.LeastOrder(x.d, x.place)
		wantOrderValid(t, "SiftOrder", sift, x.d.Vars, true)
		wantOrderValid(t, "LeastOrder", best, x.d.Vars, true)
		own, sifted, fewest := len(x.d.Forks), sizeByHand(x.d, x.place, sift), sizeByHand(x.d, x.place, best)
		if fewest > sifted || sifted > own {
			t.Errorf("%v has %d forks, %d in the order %v, and %d in the order %v", x, own, sifted, sift, fewest, best)
		}
		moved += boolOf(!slices.Equal(sift, firstNumbers(x.d.Vars)))
		better += boolOf(fewest < sifted)
	}
	if moved < 50 || better < 5 {
		t.Errorf("%d orders were others than at first, and %d were better than those found by moving", moved, better)
	}
}
