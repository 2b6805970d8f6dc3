package tests

import (
	"math/rand"
	"slices"
	"testing"

	"loop.example/wholecheck/impl"
)

func TestWayToOfOneVariable(t *testing.T) {
	s := walker()
	wantWay(t, "the stuck state", s, isOneOf(3), run([]int{0, 1, 2, 3}, 0, 0, 0))
	wantWay(t, "one step", s, isOneOf(1), run([]int{0, 1}, 0))
	wantWay(t, "values that are none", s, isOneOf(7), impl.Trace{})
	wantWay(t, "never", s, never(), impl.Trace{})
	wantWay(t, "from the middle on", counter(-3, 5, 1, 2), compared(opLess, 0, -9), impl.Trace{})
	wantWay(t, "the example", counter(0, 3, 0, 2), contrary(compared(opLess, 0, 1)), run([]int{0, 2}, 0))
	wantWay(t, "the last term alone counts", s, append(isOneOf(0), isOneOf(7)[:1]...), impl.Trace{})
}

func TestWayToOfTwoVariables(t *testing.T) {
	wantWay(t, "both rules in turn", pair(), terms(variable(0), num(2), of(opEqual, 0, 1), variable(1), num(7), of(opEqual, 3, 4), of(opAnd, 2, 5)),
		impl.Trace{States: states([]int{1, 6}, []int{2, 6}, []int{1, 7}, []int{2, 7}), Rules: []int{0, 1, 0}})
	wantWay(t, "a state that is never reached", pair(), terms(variable(0), num(0), of(opEqual, 0, 1), variable(1), num(5), of(opEqual, 3, 4), of(opAnd, 2, 5)), impl.Trace{})
}

func TestWayToStatesThatAreNeverReached(t *testing.T) {
	s := edges(6, 2, [2]int{2, 4}, [2]int{4, 6}, [2]int{0, 6}, [2]int{1, 2})
	wantWay(t, "one of them", s, isOneOf(0), impl.Trace{})
	wantWay(t, "all of them", s, isOneOf(0, 1, 3, 5), impl.Trace{})
	wantWay(t, "one of them, and another one", s, isOneOf(0, 6), run([]int{2, 4, 6}, 0, 1))
	wantWay(t, "all of them, and others", s, isOneOf(0, 1, 3, 5, 4, 6), run([]int{2, 4}, 0))
	wantWay(t, "without rules", six(), compared(opEqual, 1, 7), impl.Trace{})
}

func TestWayToAFirstStateThatIsOne(t *testing.T) {
	for _, list := range [][]impl.Term{always(), isOneOf(0), isOneOf(0, 1), isOneOf(3, 2, 1, 0), compared(opLess, 0, 1)} {
		wantWay(t, "the first state", walker(), list, run([]int{0}))
	}
	wantWay(t, "behind others", edges(5, 4, [2]int{4, 0}, [2]int{4, 4}, [2]int{0, 1}), isOneOf(0, 1, 4), run([]int{4}))
	wantWay(t, "without rules", six(), compared(opEqual, 1, 6), impl.Trace{States: states([]int{0, 6})})
	wantWay(t, "one state", oneVar(9, 9, 9), always(), run([]int{9}))
}

// Of 4 and 5, which are two steps away, 5 is found first.
func severalWays() impl.System {
	return edges(6, 0, [2]int{0, 1}, [2]int{0, 2}, [2]int{1, 5}, [2]int{2, 4}, [2]int{5, 6}, [2]int{4, 6}, [2]int{3, 6})
}

func TestWayToTheFirstOfTheNearest(t *testing.T) {
	s := severalWays()
	wantWay(t, "two that are two steps away", s, isOneOf(5, 4), run([]int{0, 2, 4}, 1, 3))
	wantWay(t, "two that are one step away", s, isOneOf(2, 1), run([]int{0, 1}, 0))
	wantWay(t, "the nearest one is not the first", s, isOneOf(2, 5, 6), run([]int{0, 2}, 1))
	wantWay(t, "the nearest one is the last", edges(5, 3, [2]int{3, 2}, [2]int{2, 1}, [2]int{1, 0}, [2]int{3, 5}), isOneOf(0, 1, 5), run([]int{3, 5}, 3))
	wantWay(t, "all behind the first one", s, contrary(isOneOf(0)), run([]int{0, 1}, 0))
}

func TestWayToOverTheFirstStates(t *testing.T) {
	s := severalWays()
	wantWay(t, "4 is ahead of 5, and 3 is never reached", s, isOneOf(6), run([]int{0, 2, 4, 6}, 1, 3, 5))
	s = edges(5, 2, [2]int{2, 5}, [2]int{2, 3}, [2]int{5, 4}, [2]int{3, 4}, [2]int{4, 0}, [2]int{1, 4}, [2]int{0, 1})
	wantWay(t, "3 is ahead of 5, and 1 is no step nearer", s, isOneOf(4), run([]int{2, 3, 4}, 1, 3))
	wantWay(t, "and on", s, isOneOf(1), run([]int{2, 3, 4, 0, 1}, 1, 3, 4, 6))
	s = edges(5, 5, [2]int{5, 3}, [2]int{3, 1}, [2]int{1, 0}, [2]int{3, 0}, [2]int{5, 4}, [2]int{4, 0})
	wantWay(t, "a first one that is as far away is not taken", s, isOneOf(0), run([]int{5, 3, 0}, 0, 3))
}

func TestWayToTakesTheFirstRules(t *testing.T) {
	s := edges(3, 0, [2]int{2, 3}, [2]int{0, 2}, [2]int{0, 2}, [2]int{2, 3})
	wantWay(t, "two rules for each step", s, isOneOf(3), run([]int{0, 2, 3}, 1, 0))
	s.Rules[1].When = never()
	wantWay(t, "the first one may not be used", s, isOneOf(3), run([]int{0, 2, 3}, 2, 0))
}

func TestWaysOfSomeSystems(t *testing.T) {
	r := rand.New(rand.NewSource(52))
	long, none := 0, 0
	for range 1500 {
		s, list := searched(r, 50)
		want := wayByHand(s, list)
		wantWay(t, "by hand", s, list, want)
		long += boolOf(len(want.Rules) > 2)
		none += boolOf(len(want.States) == 0)
	}
	if long < 50 || none < 100 {
		t.Errorf("%d runs had more than two rules, and %d were none", long, none)
	}
}

// A run to each state takes as many steps as StepsTo tells, and is a run.
func TestWaysAreAsLongAsStepsTo(t *testing.T) {
	r := rand.New(rand.NewSource(53))
	for range 100 {
		s := someJumper(r)
		for n, steps := range impl.StepsTo(s) {
			x, ok := impl.WayTo(s, isOneOf(n))
			if ok != (steps >= 0) || ok && len(x.Rules) != steps {
				t.Errorf("%v: WayTo %d = %v, %v, StepsTo = %d", s, n, x, ok, steps)
			}
			wantValid(t, "a way", s, x, ok)
			if ok && !slices.Equal(x.States[steps], []int{n}) {
				t.Errorf("%v: WayTo %d = %v", s, n, x)
			}
		}
	}
}
