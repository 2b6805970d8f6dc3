package tests

import (
	"math/rand"
	"testing"

	"loop.example/wholecheck/impl"
)

// eachState calls a function with each state between two others.
func eachState(low []int, high []int, look func(state []int)) {
	var from func(state []int)
	from = func(state []int) {
		if len(state) == len(low) {
			look(state)
			return
		}
		for n := low[len(state)]; n <= high[len(state)]; n++ {
			from(append(state, n))
		}
	}
	from(make([]int, 0, len(low)))
}

// endsByHand returns the least and the greatest value that an expression has in the states between two others.
func endsByHand(list []impl.Term, low []int, high []int) (int, int) {
	a, b := 20000, -20000
	eachState(low, high, func(state []int) {
		n := valueByHand(list, len(list)-1, state)
		a, b = min(a, n), max(b, n)
	})
	return a, b
}

// An operation whose terms have no variable in common takes each value at its ends, so that no other ends are right.
func TestEndsOfOneOperation(t *testing.T) {
	for op := opAdd; op <= opEqual; op++ {
		list := terms(variable(0), variable(1), of(op, 0, 1))
		eachState([]int{-2, -2}, []int{3, 3}, func(low []int) {
			eachState(low, []int{3, 3}, func(high []int) {
				a, b := endsByHand(list, low, high)
				wantEnds(t, "one operation", list, low, high, a, b)
			})
		})
	}
}

func TestEndsOfTruths(t *testing.T) {
	both := terms(num(0), variable(0), of(opLess, 0, 1), variable(1), of(opLess, 0, 3))
	for _, last := range terms(not(2), not(4), of(opAnd, 2, 4), of(opOr, 2, 4)) {
		list := append(both, last)
		eachState([]int{0, 0}, []int{1, 1}, func(low []int) {
			eachState(low, []int{1, 1}, func(high []int) {
				a, b := endsByHand(list, low, high)
				wantEnds(t, "truths", list, low, high, a, b)
			})
		})
	}
}

func TestEndsTermByTerm(t *testing.T) {
	twice := func(op int) []impl.Term { return terms(variable(0), of(op, 0, 0)) }
	low, high := []int{-2}, []int{3}
	wantEnds(t, "a constant", terms(num(7)), low, high, 7, 7)
	wantEnds(t, "a variable", terms(variable(0)), low, high, -2, 3)
	wantEnds(t, "its sum", twice(opAdd), low, high, -4, 6)
	wantEnds(t, "less itself", twice(opSub), low, high, -5, 5)
	wantEnds(t, "its square", twice(opMul), low, high, -6, 9)
	wantEnds(t, "below itself", twice(opLess), low, high, 0, 1)
	wantEnds(t, "equal to itself", twice(opEqual), low, high, 0, 1)
	wantEnds(t, "one number below itself", twice(opLess), high, high, 0, 0)
	wantEnds(t, "one number equal to itself", twice(opEqual), high, high, 1, 1)
	less := terms(variable(0), of(opLess, 0, 0), not(1))
	wantEnds(t, "or not", append(less, of(opOr, 1, 2)), low, high, 0, 1)
	wantEnds(t, "and not", append(less, of(opAnd, 1, 2)), low, high, 0, 1)
	wantEnds(t, "terms not needed", terms(variable(0), of(opMul, 0, 0), num(-1)), low, high, -1, -1)
	wantEnds(t, "no variables", terms(num(4), of(opAdd, 0, 0)), nil, []int{}, 8, 8)
	wantEnds(t, "the last variable", terms(variable(4)), []int{0, 0, 0, 0, -9999}, []int{0, 0, 0, 0, 9999}, -9999, 9999)
}

func TestEndsAreHeld(t *testing.T) {
	low, high := []int{9000, -9999}, []int{9999, -9000}
	sum := terms(variable(0), of(opAdd, 0, 0), of(opSub, 1, 0))
	wantEnds(t, "a sum above", sum[:2], low, high, 9999, 9999)
	wantEnds(t, "less itself", sum, low, high, 0, 999)
	below := terms(variable(1), variable(0), of(opSub, 0, 1), of(opAdd, 2, 1))
	wantEnds(t, "a difference below", below[:3], low, high, -9999, -9999)
	wantEnds(t, "and what was taken", below, low, high, -999, 0)
	product := terms(variable(0), variable(1), of(opMul, 0, 1), of(opMul, 2, 1))
	wantEnds(t, "a product below", product[:3], low, high, -9999, -9999)
	wantEnds(t, "a product above", product, low, high, 9999, 9999)
	wantEnds(t, "a product to both sides", terms(variable(0), of(opMul, 0, 0)), []int{-9999}, []int{9999}, -9999, 9999)
	wantEnds(t, "a sum half above", terms(variable(0), of(opAdd, 0, 0)), []int{-5000}, []int{4999}, -9999, 9998)
	wantEnds(t, "a difference half below", terms(variable(0), num(1), of(opSub, 0, 1)), []int{-9999}, []int{-9997}, -9999, -9998)
}

func TestEndsOfTheExample(t *testing.T) {
	list := []impl.Term{{Op: 1}, {N: 2}, {Op: 2, B: 1}, {Op: 5, A: 2, B: 1}}
	wantEnds(t, "from below to above", list, []int{-3}, []int{0}, 0, 1)
	wantEnds(t, "below", list, []int{-3}, []int{-1}, 1, 1)
	wantEnds(t, "above", list, []int{0}, []int{5}, 0, 0)
}

// Promise 1.
func TestValueLiesBetweenItsEnds(t *testing.T) {
	r := rand.New(rand.NewSource(4))
	for range 20000 {
		vars := r.Intn(maxVars + 1)
		list := someTerms(r, 1+r.Intn(maxTerms), vars)
		low, high := someState(r, vars), someState(r, vars)
		for i := range low {
			low[i], high[i] = min(low[i], high[i]), max(low[i], high[i])
		}
		a, b, ok := impl.RangeOf(list, low, high)
		if !ok || a > b || a < -maxNumber || b > maxNumber {
			t.Fatalf("RangeOf(%v, %v, %v) = %d, %d, %v", list, low, high, a, b, ok)
		}
		for range 8 {
			state := stateBetween(r, low, high)
			if n, ok := impl.Eval(list, state); !ok || n < a || n > b {
				t.Fatalf("Eval(%v, %v) = %d, %v, not between %d and %d", list, state, n, ok, a, b)
			}
		}
	}
}

// stateBetween returns a state between two others, with many of its values at an end.
func stateBetween(r *rand.Rand, low []int, high []int) []int {
	state := make([]int, len(low))
	for i := range state {
		switch r.Intn(3) {
		case 0:
			state[i] = low[i]
		case 1:
			state[i] = high[i]
		default:
			state[i] = low[i] + r.Intn(high[i]-low[i]+1)
		}
	}
	return state
}

// Promise 1, for every state between small ends.
func TestValueLiesBetweenItsSmallEnds(t *testing.T) {
	r := rand.New(rand.NewSource(5))
	for range 2000 {
		list := someTerms(r, 1+r.Intn(12), 2)
		low := []int{r.Intn(9) - 5, r.Intn(9) - 5}
		high := []int{low[0] + r.Intn(5), low[1] + r.Intn(5)}
		a, b, ok := impl.RangeOf(list, low, high)
		if x, y := endsByHand(list, low, high); !ok || x < a || y > b {
			t.Fatalf("RangeOf(%v, %v, %v) = %d, %d, %v, but values go from %d to %d", list, low, high, a, b, ok, x, y)
		}
	}
}

// Where each variable has one value, so has each term.
func TestEndsOfOneState(t *testing.T) {
	r := rand.New(rand.NewSource(6))
	for range 3000 {
		vars := r.Intn(maxVars + 1)
		list := someTerms(r, 1+r.Intn(maxTerms), vars)
		state := someState(r, vars)
		n, _ := impl.Eval(list, state)
		wantEnds(t, "one state", list, state, state, n, n)
	}
}
