package tests

import (
	"math/rand"
	"slices"
	"testing"

	"loop.example/wholecheck/impl"
)

// The numbers of the document, written out, so that a changed constant of impl is noticed.
const (
	opConst, opVar, opAdd, opSub, opMul   = 0, 1, 2, 3, 4
	opLess, opEqual, opNot, opAnd, opOr   = 5, 6, 7, 8, 9
	maxVars, maxTerms, maxNumber, maxText = 5, 40, 9999, 4000
	kindNone, kindNumber, kindTruth       = 0, 1, 2
	greatest, least                       = int(^uint(0) >> 1), -int(^uint(0)>>1) - 1
)

func num(n int) impl.Term { return impl.Term{Op: opConst, N: n} }

func variable(n int) impl.Term { return impl.Term{Op: opVar, N: n} }

func of(op int, a int, b int) impl.Term { return impl.Term{Op: op, A: a, B: b} }

func not(a int) impl.Term { return of(opNot, a, a) }

func terms(list ...impl.Term) []impl.Term { return list }

// doubled returns v0 and then so many sums of the term ahead with itself.
func doubled(sums int) []impl.Term {
	list := terms(variable(0))
	for i := range sums {
		list = append(list, of(opAdd, i, i))
	}
	return list
}

// constants returns so many terms, all of them a constant.
func constants(many int) []impl.Term {
	return slices.Repeat(terms(num(7)), many)
}

// valueByHand reckons the value of a term by the table of the document, anew for each of its terms.
func valueByHand(list []impl.Term, at int, state []int) int {
	t := list[at]
	switch t.Op {
	case opConst:
		return t.N
	case opVar:
		return state[t.N]
	case opNot:
		return 1 - valueByHand(list, t.A, state)
	}
	return operationByHand(t.Op, valueByHand(list, t.A, state), valueByHand(list, t.B, state))
}

func operationByHand(op int, a int, b int) int {
	is := false
	switch op {
	case opAdd:
		return heldByHand(a + b)
	case opSub:
		return heldByHand(a - b)
	case opMul:
		return heldByHand(a * b)
	case opLess:
		is = a < b
	case opEqual:
		is = a == b
	case opAnd:
		is = a == 1 && b == 1
	case opOr:
		is = a == 1 || b == 1
	}
	if is {
		return 1
	}
	return 0
}

func heldByHand(n int) int {
	if n > 9999 {
		return 9999
	}
	if n < -9999 {
		return -9999
	}
	return n
}

// someNumber returns a number that is small, or at one of the ends, or any one.
func someNumber(r *rand.Rand) int {
	switch r.Intn(6) {
	case 0:
		return r.Intn(2*maxNumber+1) - maxNumber
	case 1:
		return maxNumber - r.Intn(3)
	case 2:
		return r.Intn(3) - maxNumber
	case 3:
		return r.Intn(241) - 120
	}
	return r.Intn(9) - 4
}

// someTerms returns an expression of so many terms.
func someTerms(r *rand.Rand, many int, vars int) []impl.Term {
	var list []impl.Term
	var numbers, truths []int
	for len(list) < many {
		op := r.Intn(10)
		from := numbers
		if op >= opNot {
			from = truths
		}
		switch {
		case op == opVar && vars > 0:
			list = append(list, variable(r.Intn(vars)))
		case op < opAdd || len(from) == 0:
			list = append(list, num(someNumber(r)))
		case op == opNot:
			list = append(list, not(from[r.Intn(len(from))]))
		default:
			list = append(list, of(op, from[r.Intn(len(from))], from[r.Intn(len(from))]))
		}
		if last := len(list) - 1; list[last].Op >= opLess {
			truths = append(truths, last)
		} else {
			numbers = append(numbers, last)
		}
	}
	return list
}

func someState(r *rand.Rand, vars int) []int {
	state := make([]int, vars)
	for i := range state {
		state[i] = someNumber(r)
	}
	return state
}

func wantTerms(t *testing.T, name string, got []impl.Term, want []impl.Term) {
	t.Helper()
	if !slices.Equal(got, want) {
		t.Errorf("%s = %v, want %v", name, got, want)
	}
}

func wantNumbers(t *testing.T, name string, got []int, want []int) {
	t.Helper()
	if !slices.Equal(got, want) {
		t.Errorf("%s = %v, want %v", name, got, want)
	}
}

func wantValue(t *testing.T, name string, list []impl.Term, state []int, want int) {
	t.Helper()
	if n, ok := impl.Eval(list, state); n != want || !ok {
		t.Errorf("%s: Eval(%v, %v) = %d, %v, want %d, true", name, list, state, n, ok, want)
	}
}

func wantEnds(t *testing.T, name string, list []impl.Term, low []int, high []int, a int, b int) {
	t.Helper()
	if x, y, ok := impl.RangeOf(list, low, high); x != a || y != b || !ok {
		t.Errorf("%s: RangeOf(%v, %v, %v) = %d, %d, %v, want %d, %d, true", name, list, low, high, x, y, ok, a, b)
	}
}

func wantText(t *testing.T, name string, list []impl.Term, vars int, want string) {
	t.Helper()
	if s := impl.TermsText(list, vars); s != want {
		t.Errorf("%s: TermsText(%v, %d) = %q, want %q", name, list, vars, s, want)
	}
}
