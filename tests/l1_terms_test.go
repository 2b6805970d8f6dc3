package tests

import (
	"math/rand"
	"slices"
	"strconv"
	"testing"

	"loop.example/wholecheck/impl"
)

// everyOperation has a term of each operation; the last one needs all of them.
func everyOperation() []impl.Term {
	return terms(
		num(2), variable(1),
		of(opAdd, 0, 1), of(opSub, 2, 0), of(opMul, 3, 2),
		of(opLess, 4, 1), of(opEqual, 0, 0),
		not(5), of(opAnd, 6, 7), of(opOr, 8, 5),
	)
}

func TestConstantsOfTerms(t *testing.T) {
	got := []int{
		impl.MaxVars, impl.MaxTerms, impl.MaxNumber, impl.MaxText,
		impl.OpConst, impl.OpVar, impl.OpAdd, impl.OpSub, impl.OpMul,
		impl.OpLess, impl.OpEqual, impl.OpNot, impl.OpAnd, impl.OpOr,
		impl.KindNone, impl.KindNumber, impl.KindTruth,
	}
	wantNumbers(t, "constants", got, []int{5, 40, 9999, 4000, 0, 1, 2, 3, 4, 5, 6, 7, 8, 9, 0, 1, 2})
}

func TestExampleOfTerms(t *testing.T) {
	list := []impl.Term{{Op: 1}, {N: 2}, {Op: 2, B: 1}, {Op: 5, A: 2, B: 1}}
	wantText(t, "example", list, 1, "((v0 + 2) < 2)")
	wantValue(t, "example", list, []int{-1}, 1)
}

func TestKindsOf(t *testing.T) {
	wantNumbers(t, "KindsOf", impl.KindsOf(everyOperation(), 2), []int{1, 1, 1, 1, 1, 2, 2, 2, 2, 2})
	wantNumbers(t, "KindsOf of one constant", impl.KindsOf(terms(num(0)), 0), []int{1})
	wantNumbers(t, "KindsOf of terms not needed", impl.KindsOf(terms(variable(0), of(opLess, 0, 0), num(3)), 1), []int{1, 2, 1})
}

func TestTermsValidAtTheLimits(t *testing.T) {
	for _, c := range []struct {
		name string
		list []impl.Term
		vars int
	}{
		{"every operation", everyOperation(), 2},
		{"as many terms as may be", constants(maxTerms), 0},
		{"the greatest number", terms(num(maxNumber)), 0},
		{"the least number", terms(num(-maxNumber)), 0},
		{"no variable needed", terms(num(1)), maxVars},
		{"the last variable", terms(variable(maxVars - 1)), maxVars},
		{"the only variable", terms(variable(0)), 1},
		{"the term just ahead", terms(num(1), of(opAdd, 0, 0), of(opAdd, 1, 1)), 0},
	} {
		if !impl.TermsValid(c.list, c.vars) {
			t.Errorf("%s: TermsValid = false", c.name)
		}
		if k := impl.KindsOf(c.list, c.vars); len(k) != len(c.list) {
			t.Errorf("%s: KindsOf = %v", c.name, k)
		}
	}
}

func TestEvalOfNumbers(t *testing.T) {
	some := []int{-9999, -9998, -5000, -100, -3, -1, 0, 1, 2, 99, 101, 5000, 9998, 9999}
	for op := opAdd; op <= opEqual; op++ {
		list := terms(variable(0), variable(1), of(op, 0, 1))
		for _, a := range some {
			for _, b := range some {
				wantValue(t, "operation "+strconv.Itoa(op), list, []int{a, b}, operationByHand(op, a, b))
			}
		}
	}
}

func TestEvalOfTruths(t *testing.T) {
	for a := range 2 {
		for b := range 2 {
			truths := terms(num(0), variable(0), of(opLess, 0, 1), variable(1), of(opLess, 0, 3))
			state := []int{a, b}
			wantValue(t, "both", append(truths, of(opAnd, 2, 4)), state, a*b)
			wantValue(t, "one of both", append(truths, of(opOr, 2, 4)), state, max(a, b))
			wantValue(t, "the contrary", append(truths, not(4)), state, 1-b)
		}
	}
}

func TestEvalHoldsEachTerm(t *testing.T) {
	over := terms(num(9999), num(1), of(opAdd, 0, 1), of(opSub, 2, 1))
	wantValue(t, "a sum above", over[:3], nil, 9999)
	wantValue(t, "less one", over, nil, 9998)
	under := terms(num(-9999), num(1), of(opSub, 0, 1), of(opAdd, 2, 1))
	wantValue(t, "a difference below", under[:3], nil, -9999)
	wantValue(t, "and one", under, nil, -9998)
	wantValue(t, "a product above", terms(num(-100), of(opMul, 0, 0)), nil, 9999)
	wantValue(t, "a product below", terms(num(-100), num(100), of(opMul, 0, 1)), nil, -9999)
	wantValue(t, "a product just inside", terms(num(99), num(-101), of(opMul, 0, 1)), nil, -9999)
	wantValue(t, "held from term to term", doubled(39), []int{1}, 9999)
	wantValue(t, "held below", doubled(39), []int{-1}, -9999)
}

func TestEvalTakesTheLastTerm(t *testing.T) {
	wantValue(t, "terms not needed", terms(variable(0), of(opMul, 0, 0), num(-4)), []int{3}, -4)
	wantValue(t, "variables not needed", terms(variable(1)), []int{7, 8, 9, 10, 11}, 8)
	wantValue(t, "the greatest state", terms(variable(4)), []int{0, 0, 0, -9999, 9999}, 9999)
	wantValue(t, "no variables", terms(num(5)), nil, 5)
	wantValue(t, "an empty state", terms(num(5)), []int{}, 5)
}

func TestEvalByHand(t *testing.T) {
	r := rand.New(rand.NewSource(1))
	for range 3000 {
		vars := r.Intn(maxVars + 1)
		list := someTerms(r, 1+r.Intn(14), vars)
		state := someState(r, vars)
		wantValue(t, "by hand", list, state, valueByHand(list, len(list)-1, state))
	}
}

func TestUsedBy(t *testing.T) {
	for _, c := range []struct {
		name string
		list []impl.Term
		vars int
		want []int
	}{
		{"a constant", terms(num(3)), 2, nil},
		{"a variable", terms(variable(1)), 2, []int{1}},
		{"the last variable", terms(variable(4)), 5, []int{4}},
		{"ascending", terms(variable(4), variable(0), of(opSub, 0, 1), variable(2), of(opMul, 2, 3)), 5, []int{0, 2, 4}},
		{"all", terms(variable(3), variable(1), variable(4), variable(0), variable(2), of(opAdd, 0, 1), of(opAdd, 2, 5), of(opAdd, 3, 6), of(opLess, 7, 4)), 5, []int{0, 1, 2, 3, 4}},
		{"each once", terms(variable(1), of(opAdd, 0, 0), of(opEqual, 1, 0), not(2), of(opAnd, 3, 2), of(opOr, 4, 3)), 2, []int{1}},
		{"by A alone", terms(variable(1), num(1), of(opLess, 0, 1)), 3, []int{1}},
		{"by B alone", terms(num(1), variable(2), of(opLess, 0, 1)), 3, []int{2}},
		{"terms not needed", terms(variable(0), variable(1), of(opAdd, 0, 0), of(opAdd, 1, 1), num(5), of(opAdd, 3, 4)), 2, []int{1}},
		{"none needed", terms(variable(0), num(5)), 1, nil},
		{"a product with 0", terms(variable(0), num(0), of(opMul, 0, 1)), 1, []int{0}},
	} {
		wantNumbers(t, "UsedBy of "+c.name, impl.UsedBy(c.list, c.vars), c.want)
	}
}

func TestJoined(t *testing.T) {
	a := terms(variable(1), num(3), of(opAdd, 0, 1))
	b := terms(num(-2), variable(0), of(opMul, 0, 1), of(opSub, 2, 0))
	moved := terms(variable(1), num(3), of(opAdd, 0, 1), num(-2), variable(0), of(opMul, 3, 4), of(opSub, 5, 3))
	for op := opAdd; op <= opEqual; op++ {
		wantTerms(t, "Joined", impl.Joined(op, a, b, 2), append(slices.Clone(moved), of(op, 2, 6)))
	}
	c := terms(variable(0), num(1), of(opLess, 0, 1))
	d := terms(variable(1), of(opEqual, 0, 0), not(1))
	for op := opAnd; op <= opOr; op++ {
		want := terms(variable(0), num(1), of(opLess, 0, 1), variable(1), of(opEqual, 3, 3), not(4), of(op, 2, 5))
		wantTerms(t, "Joined of truths", impl.Joined(op, c, d, 2), want)
	}
	want := terms(variable(0), num(1), of(opLess, 0, 1), not(2))
	wantTerms(t, "the contrary", impl.Joined(opNot, c, d, 2), want)
	wantTerms(t, "the contrary beside a number", impl.Joined(opNot, c, a, 2), want)
}

func TestJoinedHasTheValueOfTheOperation(t *testing.T) {
	r := rand.New(rand.NewSource(2))
	for range 3000 {
		vars := r.Intn(maxVars + 1)
		a, b := someTerms(r, 1+r.Intn(20), vars), someTerms(r, 1+r.Intn(19), vars)
		state := someState(r, vars)
		x, _ := impl.Eval(a, state)
		y, _ := impl.Eval(b, state)
		for op := opAdd; op <= opOr; op++ {
			joined := impl.Joined(op, a, b, vars)
			kinds := [2]bool{a[len(a)-1].Op >= opLess, b[len(b)-1].Op >= opLess}
			fits := op < opNot && kinds == [2]bool{false, false} || op > opNot && kinds == [2]bool{true, true} || op == opNot && kinds[0]
			want := operationByHand(op, x, y)
			if op == opNot {
				want = 1 - x
			}
			if fits {
				wantValue(t, "joined", joined, state, want)
			} else {
				wantTerms(t, "joined of another kind", joined, nil)
			}
		}
	}
}

func TestJoinedAtTheLimits(t *testing.T) {
	if j := impl.Joined(opAdd, constants(20), constants(19), 0); len(j) != 40 {
		t.Errorf("20 and 19 terms joined are %d", len(j))
	}
	wantTerms(t, "20 and 20 terms joined", impl.Joined(opAdd, constants(20), constants(20), 0), nil)
	long := append(constants(38), of(opLess, 0, 1))
	if j := impl.Joined(opNot, long, constants(40), 0); len(j) != 40 || j[39] != not(38) {
		t.Errorf("the contrary of 39 terms is %v", j)
	}
	full := append(constants(39), of(opLess, 0, 1))
	wantTerms(t, "the contrary of 40 terms", impl.Joined(opNot, full, constants(1), 0), nil)
}

func TestShifted(t *testing.T) {
	list := everyOperation()
	want := everyOperation()
	wantTerms(t, "Shifted by 0", impl.Shifted(list, 2, 0), want)
	want[1].N = 4
	wantTerms(t, "Shifted by 3", impl.Shifted(list, 2, 3), want)
	wantTerms(t, "Shifted of two", impl.Shifted(terms(variable(0), variable(1), num(1)), 2, 2), terms(variable(2), variable(3), num(1)))
	wantTerms(t, "Shifted without variables", impl.Shifted(terms(num(4)), 0, 5), terms(num(4)))
	wantTerms(t, "Shifted of all variables", impl.Shifted(terms(variable(4)), 5, 0), terms(variable(4)))
	wantTerms(t, "Shifted of terms not needed", impl.Shifted(terms(variable(0), variable(1)), 2, 1), terms(variable(1), variable(2)))
}

func TestShiftedHasTheValueOfOtherVariables(t *testing.T) {
	r := rand.New(rand.NewSource(3))
	for range 1000 {
		vars := r.Intn(maxVars + 1)
		by := r.Intn(maxVars - vars + 1)
		list := someTerms(r, 1+r.Intn(maxTerms), vars)
		state := someState(r, vars)
		value, _ := impl.Eval(list, state)
		wantValue(t, "shifted", impl.Shifted(list, vars, by), append(someState(r, by), state...), value)
	}
}

func TestTermsText(t *testing.T) {
	for _, c := range []struct {
		list []impl.Term
		vars int
		want string
	}{
		{terms(num(0)), 0, "0"},
		{terms(num(-9999)), 0, "-9999"},
		{terms(num(120)), 0, "120"},
		{terms(variable(0)), 1, "v0"},
		{terms(variable(4)), 5, "v4"},
		{terms(num(1), variable(0), of(opAdd, 0, 1)), 1, "(1 + v0)"},
		{terms(num(1), variable(0), of(opSub, 0, 1)), 1, "(1 - v0)"},
		{terms(num(1), variable(0), of(opMul, 0, 1)), 1, "(1 * v0)"},
		{terms(num(1), variable(0), of(opLess, 0, 1)), 1, "(1 < v0)"},
		{terms(num(1), variable(0), of(opEqual, 0, 1)), 1, "(1 = v0)"},
		{terms(num(1), variable(0), of(opEqual, 1, 0), of(opLess, 0, 0), of(opAnd, 2, 3)), 1, "((v0 = 1) & (1 < 1))"},
		{terms(num(1), variable(0), of(opEqual, 1, 0), of(opLess, 0, 0), of(opOr, 3, 2)), 1, "((1 < 1) | (v0 = 1))"},
		{terms(num(1), of(opLess, 0, 0), not(1), not(2)), 0, "!!(1 < 1)"},
		{terms(num(-1), num(-2), of(opSub, 0, 1)), 0, "(-1 - -2)"},
		{terms(num(1), variable(0), of(opAdd, 0, 1), num(8)), 1, "8"},
		{everyOperation(), 2, "(((2 = 2) & !((((2 + v1) - 2) * (2 + v1)) < v1)) | ((((2 + v1) - 2) * (2 + v1)) < v1))"},
	} {
		wantText(t, "a text", c.list, c.vars, c.want)
	}
}

// longText returns terms the last of which has a text of 3971 bytes and more: a number and 5 for each one that is added.
func longText(more ...int) []impl.Term {
	list := append(doubled(9), of(opAdd, 9, 5), of(opAdd, 10, 4), of(opAdd, 11, 3))
	for _, n := range more {
		last := len(list) - 1
		list = append(list, num(n), of(opAdd, last, last+1))
	}
	return list
}

func TestTextsThatDouble(t *testing.T) {
	if s := impl.TermsText(longText(), 1); len(s) != 3971 {
		t.Fatalf("a text of 3971 bytes has %d", len(s))
	}
	longest := longText(9999, -9999, -9999)
	if s := impl.TermsText(longest, 1); len(s) != maxText {
		t.Errorf("the longest text has %d bytes, want %d", len(s), maxText)
	}
	tooLong := longText(-9999, -9999, -9999)
	wantText(t, "a byte too long", tooLong, 1, "")
	wantText(t, "long and not needed", append(longest, variable(0)), 1, "v0")
	wantText(t, "too long and not needed", append(tooLong, variable(0)), 1, "")
	wantText(t, "doubled 39 times", doubled(39), 1, "")
	wantText(t, "doubled and not needed", append(doubled(38), num(1)), 1, "")
}

func TestTruthTextIsHeldToo(t *testing.T) {
	list := longText(99, 99)
	last := len(list) - 1
	list = append(list, num(1), of(opLess, last, last+1))
	if s := impl.TermsText(list, 1); len(s) != 3991 {
		t.Fatalf("a text of 3991 bytes has %d", len(s))
	}
	for range 9 {
		list = append(list, not(len(list)-1))
	}
	if s := impl.TermsText(list, 1); len(s) != maxText {
		t.Errorf("the longest contrary has %d bytes", len(s))
	}
	wantText(t, "a contrary that is too long", append(list, not(len(list)-1)), 1, "")
}
