package tests

import (
	"slices"
	"strconv"
	"testing"

	"loop.example/wholecheck/impl"
)

type noExpression struct {
	name string
	list []impl.Term
	vars int
}

// noExpressions returns lists over so many variables that are no expression, one for each way to be none.
func noExpressions() []noExpression {
	all := []noExpression{
		{"no terms", nil, 2},
		{"empty", []impl.Term{}, 2},
		{"too many terms", constants(maxTerms + 1), 2},
		{"below no variables", terms(num(1)), -1},
		{"too many variables", terms(num(1)), maxVars + 1},
		{"the least number of variables", terms(num(1)), least},
		{"the greatest number of variables", terms(num(1)), greatest},
		{"a constant too great", terms(num(maxNumber + 1)), 2},
		{"a constant too small", terms(num(-maxNumber - 1)), 2},
		{"the greatest constant", terms(num(greatest)), 2},
		{"the least constant", terms(num(least)), 2},
		{"a constant with A", terms(num(1), impl.Term{Op: opConst, A: 1}), 2},
		{"a constant with B", terms(num(1), impl.Term{Op: opConst, B: 1}), 2},
		{"a variable below", terms(variable(-1)), 2},
		{"a variable behind", terms(variable(2)), 2},
		{"a variable of none", terms(variable(0)), 0},
		{"the greatest variable", terms(variable(greatest)), 2},
		{"the least variable", terms(variable(least)), 2},
		{"a variable with A", terms(num(1), impl.Term{Op: opVar, A: 1}), 2},
		{"a variable with B", terms(num(1), impl.Term{Op: opVar, B: 1}), 2},
		{"not needed, a variable behind", terms(variable(2), num(1)), 2},
		{"not needed, no operation", terms(num(1), of(10, 0, 0), num(1)), 2},
		{"an operation alone", terms(of(opAdd, 0, 0)), 2},
		{"another contrary in B", append(truthsAndNumbers(), of(opNot, 2, 3)), 2},
		{"another contrary in A", append(truthsAndNumbers(), of(opNot, 3, 2)), 2},
		{"a contrary without B", append(truthsAndNumbers(), impl.Term{Op: opNot, A: 2}), 2},
	}
	for _, op := range []int{-1, 10, 11, greatest, least} {
		all = append(all, noExpression{"operation " + strconv.Itoa(op), append(truthsAndNumbers(), of(op, 0, 0)), 2})
	}
	for op := opAdd; op <= opOr; op++ {
		all = append(all, badOperations(op)...)
	}
	return all
}

// truthsAndNumbers returns two numbers and then two truths.
func truthsAndNumbers() []impl.Term {
	return terms(num(1), variable(0), of(opLess, 0, 1), of(opEqual, 0, 1))
}

// badOperations returns lists in which all but the last term would be an expression, and the last one has that operation.
func badOperations(op int) []noExpression {
	right, wrong := 0, 2
	if op >= opNot {
		right, wrong = 2, 0
	}
	lasts := terms(
		impl.Term{Op: op, N: 1, A: right, B: right},
		impl.Term{Op: op, N: -1, A: right, B: right},
		of(op, wrong, right), of(op, right, wrong), of(op, wrong, wrong),
	)
	for _, place := range []int{4, 5, 99, -1, greatest, least} {
		lasts = append(lasts, of(op, place, right), of(op, right, place), of(op, place, place))
	}
	var bad []noExpression
	for _, last := range lasts {
		name := "operation " + strconv.Itoa(op) + " of " + strconv.Itoa(last.A) + " and " + strconv.Itoa(last.B)
		bad = append(bad, noExpression{name, append(truthsAndNumbers(), last), 2})
	}
	return bad
}

func TestTheLastTermMakesItInvalid(t *testing.T) {
	if !impl.TermsValid(truthsAndNumbers(), 2) {
		t.Error("the terms ahead are no expression")
	}
}

func TestKindsAndTextsOfNoExpression(t *testing.T) {
	for _, c := range noExpressions() {
		if k := impl.KindsOf(c.list, c.vars); len(k) > 0 {
			t.Errorf("%s: KindsOf = %v", c.name, k)
		}
		if impl.TermsValid(c.list, c.vars) {
			t.Errorf("%s: TermsValid = true", c.name)
		}
		if u := impl.UsedBy(append(slices.Clone(c.list), variable(0)), c.vars); len(c.list) > 0 && len(u) > 0 {
			t.Errorf("%s: UsedBy of a variable behind it = %v", c.name, u)
		}
		if u := impl.UsedBy(c.list, c.vars); len(u) > 0 {
			t.Errorf("%s: UsedBy = %v", c.name, u)
		}
		if s := impl.TermsText(c.list, c.vars); s != "" {
			t.Errorf("%s: TermsText = %q", c.name, s)
		}
	}
	wantNumbers(t, "UsedBy of an invalid list with variables", impl.UsedBy(terms(variable(1), of(opAdd, 0, 1)), 2), nil)
}

func TestJoinedAndShiftedOfNoExpression(t *testing.T) {
	for _, c := range noExpressions() {
		for _, good := range [][]impl.Term{terms(num(1)), truthsAndNumbers()} {
			for op := opAdd; op <= opOr; op++ {
				wantTerms(t, "Joined of "+c.name, impl.Joined(op, c.list, good, c.vars), nil)
				wantTerms(t, "Joined with "+c.name, impl.Joined(op, good, c.list, c.vars), nil)
			}
		}
		for by := -1; by <= maxVars; by++ {
			wantTerms(t, "Shifted of "+c.name, impl.Shifted(c.list, c.vars, by), nil)
		}
	}
}

func TestValuesOfNoExpression(t *testing.T) {
	for _, c := range noExpressions() {
		if c.vars < 0 || c.vars > maxVars+1 {
			continue
		}
		state := make([]int, c.vars)
		if n, ok := impl.Eval(c.list, state); n != 0 || ok {
			t.Errorf("%s: Eval = %d, %v", c.name, n, ok)
		}
		wantNoEnds(t, c.name, c.list, state, state)
	}
}

func wantNoEnds(t *testing.T, name string, list []impl.Term, low []int, high []int) {
	t.Helper()
	if a, b, ok := impl.RangeOf(list, low, high); a != 0 || b != 0 || ok {
		t.Errorf("%s: RangeOf(%v, %v, %v) = %d, %d, %v, want 0, 0, false", name, list, low, high, a, b, ok)
	}
}

func TestEvalInNoState(t *testing.T) {
	for _, c := range []struct {
		name  string
		list  []impl.Term
		state []int
	}{
		{"a number too great", terms(variable(0)), []int{maxNumber + 1}},
		{"a number too small", terms(variable(0)), []int{-maxNumber - 1}},
		{"a number that is not needed", terms(num(3)), []int{0, maxNumber + 1}},
		{"the greatest number", terms(num(3)), []int{greatest, 0}},
		{"the least number", terms(num(3)), []int{least}},
		{"too few numbers", terms(variable(1)), []int{5}},
		{"no numbers", terms(variable(0)), nil},
		{"too many numbers", terms(num(3)), make([]int, maxVars+1)},
		{"far too many numbers", terms(num(3)), make([]int, 1000)},
	} {
		if n, ok := impl.Eval(c.list, c.state); n != 0 || ok {
			t.Errorf("%s: Eval = %d, %v, want 0, false", c.name, n, ok)
		}
		wantNoEnds(t, c.name, c.list, c.state, c.state)
	}
}

func TestRangeOfNoEnds(t *testing.T) {
	one := terms(num(3))
	for _, c := range []struct {
		name string
		list []impl.Term
		low  []int
		high []int
	}{
		{"the wrong way round", terms(variable(0)), []int{1}, []int{0}},
		{"the wrong way round and not needed", terms(variable(0)), []int{0, 5}, []int{1, 4}},
		{"the wrong way round at the limits", terms(variable(0)), []int{9999}, []int{-9999}},
		{"more low ones", one, []int{0, 0}, []int{0}},
		{"more high ones", one, []int{0}, []int{0, 0}},
		{"no low ones", one, nil, []int{0}},
		{"no high ones", one, []int{0}, nil},
		{"a low one too small", one, []int{-maxNumber - 1}, []int{0}},
		{"a high one too great", one, []int{0}, []int{maxNumber + 1}},
		{"a low one too great", one, []int{maxNumber + 1}, []int{maxNumber + 1}},
		{"a high one too small", one, []int{-maxNumber - 1}, []int{-maxNumber - 1}},
		{"the last variable", terms(variable(1)), []int{0}, []int{1}},
	} {
		wantNoEnds(t, c.name, c.list, c.low, c.high)
	}
}

func TestJoinedByNoOperation(t *testing.T) {
	number, truth := terms(num(1)), terms(num(1), of(opLess, 0, 0))
	for _, op := range []int{opConst, opVar, -1, -2, 10, 11, greatest, least} {
		wantTerms(t, "Joined by no operation", impl.Joined(op, number, number, 1), nil)
		wantTerms(t, "Joined by no operation", impl.Joined(op, truth, truth, 1), nil)
	}
}

func TestJoinedOfOtherKinds(t *testing.T) {
	number, truth := terms(num(1)), terms(num(1), of(opLess, 0, 0))
	for op := opAdd; op <= opOr; op++ {
		if op != opNot {
			wantTerms(t, "a number and a truth", impl.Joined(op, number, truth, 1), nil)
			wantTerms(t, "a truth and a number", impl.Joined(op, truth, number, 1), nil)
		}
		if op < opNot {
			wantTerms(t, "two truths", impl.Joined(op, truth, truth, 1), nil)
		} else {
			wantTerms(t, "two numbers", impl.Joined(op, number, number, 1), nil)
		}
	}
	wantTerms(t, "the contrary of a number", impl.Joined(opNot, number, truth, 1), nil)
	wantTerms(t, "the contrary without another", impl.Joined(opNot, truth, nil, 1), nil)
	wantTerms(t, "a variable that is none", impl.Joined(opAdd, terms(variable(1)), number, 1), nil)
}

func TestShiftedTooFar(t *testing.T) {
	for vars := range maxVars + 1 {
		list := terms(num(1))
		if vars > 0 {
			list = terms(variable(vars - 1))
		}
		if s := impl.Shifted(list, vars, maxVars-vars); len(s) != 1 {
			t.Errorf("Shifted as far as may be over %d variables = %v", vars, s)
		}
		for _, by := range []int{-1, maxVars - vars + 1, greatest, least} {
			wantTerms(t, "Shifted by "+strconv.Itoa(by), impl.Shifted(list, vars, by), nil)
		}
	}
}

// withRoom returns a copy of a list with other terms in the memory beyond its length.
func withRoom(list []impl.Term) ([]impl.Term, []impl.Term) {
	whole := append(slices.Clone(list), slices.Repeat(terms(impl.Term{Op: 77, N: 77}), 50)...)
	return whole[:len(list)], whole
}

func TestArgumentsOfTermsStay(t *testing.T) {
	a, wholeA := withRoom(everyOperation())
	b, wholeB := withRoom(truthsAndNumbers())
	low, high := []int{-3, -2, 8}, []int{4, 5, 9}
	before, beforeB := slices.Clone(wholeA), slices.Clone(wholeB)
	impl.KindsOf(a, 2)
	impl.TermsValid(a, 2)
	impl.Eval(a, low[:2])
	impl.UsedBy(a, 2)
	impl.Joined(opAnd, a, b, 2)
	impl.Joined(opNot, a, b, 2)
	impl.Shifted(a, 2, 2)
	impl.RangeOf(a, low[:2], high[:2])
	impl.TermsText(a, 2)
	wantTerms(t, "the list", wholeA, before)
	wantTerms(t, "the other list", wholeB, beforeB)
	wantNumbers(t, "the low ends", low, []int{-3, -2, 8})
	wantNumbers(t, "the high ends", high, []int{4, 5, 9})
}

// scribble overwrites a result and its unused memory.
func scribble[V any](result []V, value V) {
	for i := range result[:cap(result)] {
		result[:cap(result)][i] = value
	}
}

func TestResultsOfTermsAreNewMemory(t *testing.T) {
	a, b := everyOperation(), truthsAndNumbers()
	for range 2 {
		joined := impl.Joined(opAnd, a, b, 2)
		contrary := impl.Joined(opNot, a, b, 2)
		shifted := impl.Shifted(a, 2, 0)
		wantTerms(t, "Shifted", shifted, everyOperation())
		kinds, used := impl.KindsOf(a, 2), impl.UsedBy(a, 2)
		wantNumbers(t, "UsedBy", used, []int{1})
		scribble(joined, num(99))
		scribble(contrary, num(98))
		scribble(shifted, num(97))
		scribble(kinds, 96)
		scribble(used, 95)
		wantTerms(t, "the list", a, everyOperation())
		wantTerms(t, "the other list", b, truthsAndNumbers())
	}
	wantNumbers(t, "KindsOf", impl.KindsOf(a, 2), []int{1, 1, 1, 1, 1, 2, 2, 2, 2, 2})
	wantText(t, "afterwards", b, 2, "(1 = v0)")
}
