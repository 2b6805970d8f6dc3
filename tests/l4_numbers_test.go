package tests

import (
	"math/rand"
	"slices"
	"testing"

	"loop.example/wholecheck/impl"
)

// six returns the system of the example: two variables from 0 to 1 and from 5 to 7, which has six states.
func six() impl.System {
	return impl.System{Vars: vars(impl.Var{High: 1}, impl.Var{Low: 5, High: 7, First: 6})}
}

func TestExampleOfNumbers(t *testing.T) {
	wantNumberOf(t, "the example", six(), []int{1, 5}, 3)
	wantStateAt(t, "the example", six(), 3, 1, 5)
	want := states([]int{0, 5}, []int{0, 6}, []int{0, 7}, []int{1, 5}, []int{1, 6}, []int{1, 7})
	for n, state := range want {
		wantNumberOf(t, "the first value counts most", six(), state, n)
		wantStateAt(t, "the first value counts most", six(), n, state...)
	}
	wantStateAt(t, "behind the last one", six(), 6)
}

func TestNumbersOfOneVariable(t *testing.T) {
	for _, c := range []struct{ low, value, n int }{
		{0, 0, 0}, {0, 19, 19}, {3, 3, 0}, {3, 5, 2}, {-7, -7, 0}, {-7, -1, 6}, {-7, 0, 7}, {-7, 12, 19},
		{-9999, -9999, 0}, {-9999, -9980, 19}, {9980, 9980, 0}, {9980, 9999, 19},
	} {
		s := oneVar(c.low, c.low+19, c.low+4)
		wantNumberOf(t, "twenty values", s, []int{c.value}, c.n)
		wantStateAt(t, "twenty values", s, c.n, c.value)
	}
	wantNumberOf(t, "one value", oneVar(-4, -4, -4), []int{-4}, 0)
	wantStateAt(t, "one value", oneVar(-4, -4, -4), 0, -4)
	wantStateAt(t, "one value", oneVar(-4, -4, -4), 1)
}

// The states are numbered in order, up to the last one, whatever their first ones and rules are.
func TestNumbersAtTheLimits(t *testing.T) {
	for _, c := range sizedSystems() {
		for n, state := range allStates(c.s) {
			wantNumberOf(t, c.name, c.s, state, n)
			wantStateAt(t, c.name, c.s, n, state...)
		}
		wantStateAt(t, c.name+", the last one", c.s, c.size-1, lastValues(c.s)...)
		wantStateAt(t, c.name+", behind the last one", c.s, c.size)
	}
}

func lastValues(s impl.System) []int {
	var last []int
	for _, v := range s.Vars {
		last = append(last, v.High)
	}
	return last
}

func TestNumbersOfSomeSystems(t *testing.T) {
	r := rand.New(rand.NewSource(41))
	for range 300 {
		s := someSystem(r, maxStates)
		n := r.Intn(impl.SizeOf(s))
		state := impl.StateAt(s, n)
		wantNumberOf(t, "there and back", s, state, n)
		wantStateAt(t, "by hand", s, n, allStates(s)[n]...)
	}
}

func TestStatesWhereOfTwoVariables(t *testing.T) {
	wantWhere(t, "always", six(), always(), 0, 1, 2, 3, 4, 5)
	wantWhere(t, "never", six(), never())
	wantWhere(t, "the first variable", six(), compared(opEqual, 0, 1), 3, 4, 5)
	wantWhere(t, "the second variable", six(), compared(opLess, 1, 6), 0, 3)
	wantWhere(t, "the contrary", six(), append(compared(opLess, 1, 6), not(2)), 1, 2, 4, 5)
	wantWhere(t, "one of both", six(), terms(variable(0), num(1), of(opEqual, 0, 1), variable(1), num(7), of(opEqual, 3, 4), of(opOr, 2, 5)), 2, 3, 4, 5)
	wantWhere(t, "both", six(), terms(variable(0), num(1), of(opEqual, 0, 1), variable(1), num(7), of(opEqual, 3, 4), of(opAnd, 2, 5)), 5)
	wantWhere(t, "a sum of both", six(), terms(variable(0), variable(1), of(opAdd, 0, 1), num(6), of(opEqual, 2, 3)), 1, 3)
	wantWhere(t, "values no variable has", six(), compared(opLess, 1, 5))
	wantWhere(t, "the last term alone counts", six(), append(always(), of(opLess, 1, 0)))
	wantWhere(t, "a truth among numbers", six(), append(constants(maxTerms-1), of(opEqual, 0, 1)), 0, 1, 2, 3, 4, 5)
	wantWhere(t, "values below 0", oneVar(-3, 2, 0), compared(opLess, 0, -1), 0, 1)
	wantWhere(t, "states that are never come to", oneVar(0, 3, 0), compared(opLess, 0, 9), 0, 1, 2, 3)
	wantWhere(t, "400 states", spans(20, 20), always(), firstNumbers(maxStates)...)
}

func TestStatesWhereOfSomeSystems(t *testing.T) {
	r := rand.New(rand.NewSource(42))
	for range 500 {
		s := someSystem(r, maxStates)
		list := someWhen(r, s.Vars)
		wantWhere(t, "by hand", s, list, whereByHand(s, list)...)
	}
}

func TestStepsOfOneVariable(t *testing.T) {
	s := walker()
	wantNextNumbers(t, "from the first one", s, []int{0}, 0, 1)
	wantNextNumbers(t, "it stays, too", s, []int{1}, 0, 1, 2)
	wantNextNumbers(t, "from 2", s, []int{2}, 0, 3)
	wantNextNumbers(t, "stuck", s, []int{3})
	wantNextNumbers(t, "two of them", s, []int{0, 2}, 0, 1, 3)
	wantNextNumbers(t, "one of them is stuck", s, []int{0, 3}, 0, 1)
	wantNextNumbers(t, "all of them", s, []int{0, 1, 2, 3}, 0, 1, 2, 3)
	wantNextNumbers(t, "the empty set", s, nil)
	wantPastNumbers(t, "of the first one", s, []int{0}, 0, 1, 2)
	wantPastNumbers(t, "it stays, too", s, []int{1}, 0, 1)
	wantPastNumbers(t, "of 2", s, []int{2}, 1)
	wantPastNumbers(t, "of the stuck one", s, []int{3}, 2)
	wantPastNumbers(t, "two of them", s, []int{2, 3}, 1, 2)
	wantPastNumbers(t, "all of them, and one is stuck", s, []int{0, 1, 2, 3}, 0, 1, 2)
	wantPastNumbers(t, "the empty set", s, nil)
	wantPastNumbers(t, "the empty set", s, []int{})
}

// A stuck state stays in a run for ever (chapter 3), but nothing comes behind it.
func TestStepsWithoutRules(t *testing.T) {
	for _, set := range [][]int{nil, {0}, {2, 4}, {0, 1, 2, 3, 4, 5}} {
		wantNextNumbers(t, "no rules", six(), set)
		wantPastNumbers(t, "no rules", six(), set)
	}
}

func TestStepsOfStatesThatAreNotComeTo(t *testing.T) {
	s := counter(-2, 3, 2, 2)
	wantNextNumbers(t, "below the first one", s, []int{0, 1}, 2, 3)
	wantPastNumbers(t, "below the first one", s, []int{2, 3}, 0, 1)
	wantPastNumbers(t, "nothing comes ahead", s, []int{0, 1})
	wantNextNumbers(t, "no value", s, []int{4, 5})
}

func TestStepsOfTwoVariables(t *testing.T) {
	// pair counts to 2 and exchanges both variables, and its last rule leaves the states in which the first one is 0.
	wantNextNumbers(t, "one more, exchanged, or as it is", pair(), []int{1}, 1, 3, 4)
	wantNextNumbers(t, "exchanged alone", pair(), []int{7}, 5)
	wantNextNumbers(t, "exchanged, and the same", pair(), []int{8}, 8)
	wantPastNumbers(t, "from one less, and from the other side", pair(), []int{5}, 2, 7)
	wantPastNumbers(t, "from itself by two rules", pair(), []int{0}, 0)
	s := pair()
	s.Rules[2] = ruleOf(nil)
	wantNextNumbers(t, "each one stays", s, []int{7}, 5, 7)
	wantPastNumbers(t, "each one stays", s, []int{5}, 2, 5, 7)
	full := impl.System{Vars: spans(20, 20).Vars, Rules: rules(ruleOf(nil))}
	wantNextNumbers(t, "400 states that stay", full, firstNumbers(maxStates), firstNumbers(maxStates)...)
	wantPastNumbers(t, "400 states that stay", full, firstNumbers(maxStates), firstNumbers(maxStates)...)
}

func TestStepsOfSomeSystems(t *testing.T) {
	r := rand.New(rand.NewSource(43))
	for range 400 {
		s := someSystem(r, 90)
		steps := stepsByHand(s)
		for range 6 {
			set := someSet(r, len(steps))
			wantNextNumbers(t, "by hand", s, set, nextByHand(steps, set)...)
			wantPastNumbers(t, "by hand", s, set, pastByHand(steps, set)...)
		}
	}
}

// All 400 states, far apart and at the ends.
func TestStepsOfManyStates(t *testing.T) {
	r := rand.New(rand.NewSource(44))
	s := spans(20, 20)
	s.Rules = rules(ruleOf(sets(0), plus(0, 1)), ruleOf(sets(1), plus(1, 1)), ruleOf(sets(0, 1), plus(1, 1), plus(0, -1)))
	steps := stepsByHand(s)
	for range 60 {
		set := someSet(r, maxStates)
		wantNextNumbers(t, "400 states", s, set, nextByHand(steps, set)...)
		wantPastNumbers(t, "400 states", s, set, pastByHand(steps, set)...)
	}
	for _, n := range []int{0, 63, 64, 127, 128, 383, 384, 399} {
		wantNextNumbers(t, "400 states", s, []int{n}, nextByHand(steps, []int{n})...)
		wantPastNumbers(t, "400 states", s, []int{n}, pastByHand(steps, []int{n})...)
	}
}

// Promise 4; nothing is behind a stuck state, and so nothing is ahead of that.
func TestAheadOfWhatIsBehindAState(t *testing.T) {
	r := rand.New(rand.NewSource(45))
	moving, stuck := 0, 0
	for range 400 {
		s := someSystem(r, 80)
		for n := range impl.SizeOf(s) {
			behind := impl.NextNumbers(s, []int{n})
			ahead := impl.PastNumbers(s, behind)
			if impl.StuckIn(s, impl.StateAt(s, n)) {
				stuck++
				wantNumbers(t, "behind a stuck state", behind, nil)
				wantNumbers(t, "ahead of nothing", ahead, nil)
				continue
			}
			moving++
			if !slices.Contains(ahead, n) {
				t.Errorf("%v: behind %d are %v, and ahead of these %v", s, n, behind, ahead)
			}
		}
	}
	if moving < 1000 || stuck < 1000 {
		t.Errorf("%d states were not stuck, and %d were", moving, stuck)
	}
}

// What comes behind a state is what NextStates tells of it.
func TestNextNumbersAreNextStates(t *testing.T) {
	r := rand.New(rand.NewSource(46))
	for range 200 {
		s := someSystem(r, maxStates)
		state := someStateOf(r, s)
		var want []int
		for _, next := range impl.NextStates(s, state) {
			want = append(want, impl.NumberOf(s, next))
		}
		wantNextNumbers(t, "NextStates", s, []int{impl.NumberOf(s, state)}, want...)
	}
}
