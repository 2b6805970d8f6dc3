package tests

import (
	"slices"
	"testing"

	"loop.example/wholecheck/impl"
)

type noSet struct {
	name string
	set  []int
}

// noSets returns lists that are no set of numbers below an end, which is at least 3.
func noSets(end int) []noSet {
	return []noSet{
		{"a number twice", []int{0, 0}},
		{"a number twice, behind another one", []int{0, 1, 1}},
		{"a number twice, ahead of another one", []int{1, 1, 2}},
		{"a number twice, with others between", []int{0, 1, 2, 0}},
		{"the last number twice", []int{end - 1, end - 1}},
		{"out of order", []int{1, 0}},
		{"out of order at the end", []int{0, 2, 1}},
		{"out of order at the start", []int{1, 0, 2}},
		{"below 0", []int{-1}},
		{"below 0, ahead of others", []int{-1, 0, 1}},
		{"below 0, behind others", []int{0, 1, -1}},
		{"the least number", []int{least}},
		{"the least number, ahead of another one", []int{least, 0}},
		{"too great", []int{end}},
		{"too great, behind others", []int{0, end - 1, end}},
		{"too great, ahead of others", []int{end, 0}},
		{"far too great", []int{0, maxStates}},
		{"the greatest number", []int{greatest}},
		{"the greatest number, behind another one", []int{0, greatest}},
		{"the greatest number twice", []int{greatest, greatest}},
		{"the greatest number ahead of the least one", []int{greatest, least}},
		{"all numbers and one more", firstNumbers(end + 1)},
		{"too many numbers", firstNumbers(maxStates + 1)},
		{"far too many numbers", make([]int, 1000)},
	}
}

// wantNoSet checks that numbers are no set of states.
func wantNoSet(t *testing.T, name string, s impl.System, set []int) {
	t.Helper()
	wantSetValid(t, name, s, set, false)
	wantNextNumbers(t, name, s, set)
	wantPastNumbers(t, name, s, set)
	wantSetText(t, name, s, set, "")
}

func TestNoNumbersOfNoSystem(t *testing.T) {
	for _, c := range noSystems() {
		for _, state := range [][]int{c.state, firstValues(c.s), {1, 6}, {0}, nil} {
			wantNumberOf(t, c.name, c.s, state, -1)
		}
		for _, n := range []int{-1, 0, 1, 5, 399, 400, greatest, least} {
			wantStateAt(t, c.name, c.s, n)
		}
		for _, list := range [][]impl.Term{always(), never(), compared(opEqual, 0, 0), nil} {
			wantWhere(t, c.name, c.s, list)
		}
		for _, set := range [][]int{nil, {}, {0}, {1, 2}, {-1}, {399}} {
			wantNoSet(t, c.name, c.s, set)
		}
	}
}

func TestNoNumberOfNoState(t *testing.T) {
	for _, s := range []impl.System{stayer(), {Vars: pair().Vars}, pair()} {
		for _, none := range append(noStates(), []int{0}, []int{5}, []int{1, -10000}, []int{0, 0}) {
			wantNumberOf(t, "no state", s, none, -1)
		}
		for _, n := range []int{-1, -2, -9, 9, 10, 18, 399, 400, greatest, least, least + 1} {
			wantStateAt(t, "no number of a state", s, n)
		}
	}
	for _, c := range sizedSystems() {
		for i, v := range c.s.Vars {
			for _, n := range []int{v.Low - 1, v.High + 1, greatest, least} {
				state := slices.Clone(c.first)
				state[i] = n
				wantNumberOf(t, c.name, c.s, state, -1)
			}
		}
		wantNumberOf(t, c.name+", one value more", c.s, append(slices.Clone(c.first), 0), -1)
		wantNumberOf(t, c.name+", one value less", c.s, c.first[1:], -1)
		wantStateAt(t, c.name+", below 0", c.s, -1)
	}
}

// noTruths returns lists that are no truths over two variables.
func noTruths() []noExpression {
	var list []noExpression
	for _, c := range noExpressions() {
		if c.vars != 2 {
			continue
		}
		list = append(list, c)
		if len(c.list) > 0 {
			list = append(list, noExpression{c.name + ", and a truth", append(slices.Clone(c.list), always()...), 2})
		}
	}
	for _, number := range [][]impl.Term{
		terms(num(1)), terms(num(0)), terms(variable(0)), plus(0, 1), append(always(), num(1)), append(always(), variable(1)), constants(maxTerms),
	} {
		list = append(list, noExpression{"a number", number, 2})
	}
	return append(list, noExpression{"too many terms", append(constants(maxTerms), of(opEqual, 0, 1)), 2})
}

func TestStatesWhereOfNoTruth(t *testing.T) {
	for _, c := range noTruths() {
		wantWhere(t, c.name, pair(), c.list)
	}
	wantWhere(t, "a variable of other systems", oneVar(0, 3, 0), compared(opLess, 1, 9))
	wantWhere(t, "one that is not needed", oneVar(0, 3, 0), append(terms(variable(1)), compared(opEqual, 0, 0)...))
}

// Each state of stayer comes behind itself, so anything that is taken for a set has states behind it and ahead of it.
func TestNoSetsOfStates(t *testing.T) {
	for _, c := range noSets(9) {
		wantNoSet(t, c.name, stayer(), c.set)
		wantNoSet(t, c.name+", no rules", impl.System{Vars: stayer().Vars}, c.set)
	}
	full := impl.System{Vars: spans(20, 20).Vars, Rules: rules(ruleOf(nil))}
	for _, c := range noSets(maxStates) {
		wantNoSet(t, c.name+", 400 states", full, c.set)
	}
}

// Such numbers are good enough for SetBoth and others, but not for systems with fewer states.
func TestSetsOfGreaterSystems(t *testing.T) {
	for _, set := range [][]int{{9}, {0, 9}, {8, 9, 10}, {64}, {399}, {0, 1, 2, 399}, firstNumbers(10), firstNumbers(maxStates)} {
		wantNoSet(t, "nine states", stayer(), set)
		wantCombined(t, set, set, set, set, nil)
		wantCombined(t, nil, set, nil, set, nil)
	}
}

func TestCombinedOfNoSets(t *testing.T) {
	for _, c := range noSets(maxStates) {
		for _, set := range [][]int{nil, {}, {0}, {0, 1, 2}, {399}, firstNumbers(maxStates), c.set} {
			wantCombined(t, c.set, set, nil, nil, nil)
			wantCombined(t, set, c.set, nil, nil, nil)
		}
	}
}

// roomyNumbers returns numbers with others in the memory beyond them, and all that memory.
func roomyNumbers(list ...int) ([]int, []int) {
	whole := append(slices.Clone(list), slices.Repeat([]int{77}, 9)...)
	return whole[:len(list)], whole
}

func TestArgumentsOfNumbersStay(t *testing.T) {
	s, numbers, lists := roomy()
	state, wholeState := roomyNumbers(1, 7)
	list, wholeList := withRoom(compared(opLess, 0, 2))
	a, wholeA := roomyNumbers(0, 2, 3, 8)
	b, wholeB := roomyNumbers(2, 5)
	impl.NumberOf(s, state)
	impl.StateAt(s, 5)
	impl.StatesWhere(s, list)
	impl.NextNumbers(s, a)
	impl.PastNumbers(s, a)
	impl.SetValid(s, a)
	impl.SetBoth(a, b)
	impl.SetEither(a, b)
	impl.SetWithout(a, b)
	impl.SetText(s, a)
	for _, c := range []struct{ whole, want []int }{{wholeState, []int{1, 7}}, {wholeA, []int{0, 2, 3, 8}}, {wholeB, []int{2, 5}}} {
		_, want := roomyNumbers(c.want...)
		wantNumbers(t, "an argument", c.whole, want)
	}
	_, want := withRoom(compared(opLess, 0, 2))
	wantTerms(t, "the expression", wholeList, want)
	_, numbersBefore, listsBefore := roomy()
	wantStates(t, "the lists of variables", numbers, numbersBefore...)
	if !slices.EqualFunc(lists, listsBefore, slices.Equal) {
		t.Errorf("expressions = %v, want %v", lists, listsBefore)
	}
}

func TestResultsOfNumbersAreNewMemory(t *testing.T) {
	s, set, none := stayer(), []int{0, 2, 3}, []int{}
	for range 2 {
		scribble(impl.StateAt(s, 5), 99)
		wantStateAt(t, "afterwards", s, 5, 1, 7)
		scribble(impl.StatesWhere(s, compared(opLess, 0, 1)), 98)
		wantWhere(t, "afterwards", s, compared(opLess, 0, 1), 0, 1, 2)
		scribble(impl.NextNumbers(s, set), 97)
		wantNextNumbers(t, "afterwards", s, set, 0, 2, 3)
		scribble(impl.PastNumbers(s, set), 96)
		wantPastNumbers(t, "afterwards", s, set, 0, 2, 3)
		for _, other := range [][]int{set, none, nil} {
			scribble(impl.SetBoth(set, other), 95)
			scribble(impl.SetBoth(other, set), 94)
			scribble(impl.SetEither(set, other), 93)
			scribble(impl.SetEither(other, set), 92)
			scribble(impl.SetWithout(set, other), 91)
			scribble(impl.SetWithout(other, set), 90)
		}
		wantCombined(t, set, none, nil, set, set)
		wantNumbers(t, "the argument", set, []int{0, 2, 3})
	}
}
