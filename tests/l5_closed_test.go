package tests

import (
	"math/rand"
	"testing"

	"loop.example/wholecheck/impl"
)

func TestClosed(t *testing.T) {
	s := edges(5, 1, [2]int{1, 3}, [2]int{3, 1}, [2]int{0, 3}, [2]int{4, 5})
	for _, set := range [][]int{{1, 3}, {0, 1, 3}, {1, 2, 3}, {1, 3, 5}, {1, 3, 4, 5}, {0, 1, 2, 3, 4, 5}} {
		wantClosed(t, "closed", s, set, true)
	}
	for _, set := range [][]int{nil, {}, {1}, {3}, {0, 3}, {2}, {5}, {2, 5}, {4, 5}, {1, 3, 4}, {0, 2, 4}} {
		wantClosed(t, "not closed", s, set, false)
	}
	wantClosed(t, "the example", counter(0, 3, 0, 2), []int{0, 2}, true)
	wantClosed(t, "the example", counter(0, 3, 0, 2), []int{0, 1}, false)
	wantClosed(t, "the example, with a state behind which none comes", counter(0, 3, 0, 2), []int{0, 2, 3}, true)
	wantClosed(t, "the first state is stuck", six(), []int{1}, true)
	wantClosed(t, "others are stuck", six(), []int{0, 2, 3, 4, 5}, false)
	wantClosed(t, "the first state stays", stayer(), []int{4}, true)
	wantClosed(t, "another one stays", stayer(), []int{3}, false)
	wantClosed(t, "400 states", twoCounters(), firstNumbers(maxStates), true)
	wantClosed(t, "all of 400 states but one", twoCounters(), firstNumbers(maxStates-1), false)
	wantClosed(t, "all of 400 states but the first one", twoCounters(), firstNumbers(maxStates)[1:], false)
}

func TestAlways(t *testing.T) {
	s := counter(0, 3, 0, 2)
	wantAlways(t, "each state", s, always(), true)
	wantAlways(t, "no state", s, never(), false)
	wantAlways(t, "a state that is never reached", s, contrary(isOneOf(3)), true)
	wantAlways(t, "all states that are never reached", s, contrary(isOneOf(1, 3)), true)
	wantAlways(t, "just the states that are reached", s, isOneOf(0, 2), true)
	wantAlways(t, "the first state alone", s, isOneOf(0), false)
	wantAlways(t, "all but the first state", s, contrary(isOneOf(0)), false)
	wantAlways(t, "all but the last one that is reached", s, contrary(isOneOf(2)), false)
	wantAlways(t, "the stuck state", walker(), compared(opLess, 0, 3), false)
	wantAlways(t, "the last term alone counts", s, append(never(), of(opLess, 0, 1)), true)
	wantAlways(t, "without rules", six(), compared(opEqual, 1, 6), true)
	wantAlways(t, "without rules", six(), compared(opLess, 1, 6), false)
	wantAlways(t, "the last of 400 states", twoCounters(), terms(variable(0), variable(1), of(opAdd, 0, 1), num(9999), of(opLess, 2, 3)), false)
}

func TestProves(t *testing.T) {
	s := counter(0, 3, 0, 2)
	not3 := contrary(isOneOf(3))
	wantProves(t, "what is reached", s, not3, []int{0, 2}, true)
	wantProves(t, "and another one", s, not3, []int{0, 1, 2}, false)
	wantProves(t, "and others that are true", s, isOneOf(0, 2, 3), []int{0, 2, 3}, true)
	wantProves(t, "and one that is not true", s, not3, []int{0, 2, 3}, false)
	wantProves(t, "all states", s, always(), []int{0, 1, 2, 3}, true)
	wantProves(t, "all states, one of which is not true", s, not3, []int{0, 1, 2, 3}, false)
	wantProves(t, "no states", s, always(), nil, false)
	wantProves(t, "no states", s, always(), []int{}, false)
	wantProves(t, "without the first state", s, always(), []int{1, 2, 3}, false)
	wantProves(t, "without what is behind", s, always(), []int{0}, false)
	wantProves(t, "closed, but the first state is not true", s, contrary(isOneOf(0)), []int{0, 2}, false)
	wantProves(t, "closed, but the last state is not true", s, contrary(isOneOf(2)), []int{0, 2}, false)
	wantProves(t, "never", s, never(), []int{0, 2}, false)
	wantProves(t, "the first state is stuck", six(), compared(opEqual, 1, 6), []int{1}, true)
	wantProves(t, "the first state is stuck", six(), compared(opEqual, 1, 6), []int{1, 4}, true)
	wantProves(t, "another one is not true", six(), compared(opEqual, 1, 6), []int{1, 2}, false)
}

func TestClosedSetsOfSomeSystems(t *testing.T) {
	r := rand.New(rand.NewSource(54))
	closed, shown, open := 0, 0, 0
	for range 1000 {
		s, list := searched(r, 30)
		steps := stepsByHand(s)
		set := someSet(r, len(steps))
		if r.Intn(2) == 0 {
			set = impl.SetEither(set, reachByHand(s))
		}
		for range r.Intn(4) {
			set = impl.SetEither(set, nextByHand(steps, set))
		}
		is := isClosedByHand(s, set)
		shows := is && isWithin(set, whereByHand(s, list))
		wantClosed(t, "by hand", s, set, is)
		wantProves(t, "by hand", s, list, set, shows)
		wantAlways(t, "by hand", s, list, isWithin(reachByHand(s), whereByHand(s, list)))
		closed, shown, open = closed+boolOf(is), shown+boolOf(shows), open+boolOf(!is)
	}
	if closed < 100 || shown < 30 || open < 100 {
		t.Errorf("%d sets were closed, %d showed something, and %d were not closed", closed, shown, open)
	}
}

// Promise 5: what is always true is shown by ReachOf, and has no run to its contrary; what is not has one, and no set shows it.
func TestWhatIsAlwaysTrueIsShown(t *testing.T) {
	r := rand.New(rand.NewSource(55))
	always, not := 0, 0
	for range 2000 {
		s, list := searched(r, 60)
		reach := impl.ReachOf(s)
		wantClosed(t, "what is reached", s, reach, true)
		wantProves(t, "what is reached", s, list, reach, impl.Always(s, list))
		x, ok := impl.WayTo(s, contrary(list))
		if impl.Always(s, list) {
			always++
			wantTrace(t, "a run to what is not", x, impl.Trace{})
			wantWay(t, "a run to what is not", s, contrary(list), impl.Trace{})
			continue
		}
		not++
		wantValid(t, "a run to what is not", s, x, true)
		if !ok || valueByHand(list, len(list)-1, x.States[len(x.States)-1]) != 0 {
			t.Errorf("%v: WayTo(%v) = %v, %v", s, contrary(list), x, ok)
		}
		for _, set := range [][]int{firstNumbers(impl.SizeOf(s)), impl.StatesWhere(s, list), impl.SetBoth(reach, impl.StatesWhere(s, list))} {
			wantProves(t, "what is not always true", s, list, set, false)
		}
	}
	if always < 200 || not < 200 {
		t.Errorf("%d were always true, and %d were not", always, not)
	}
}

// What a system comes to is within each closed set, and is the states from which it can come to itself.
func TestWhatIsReachedIsTheLeastClosedSet(t *testing.T) {
	r := rand.New(rand.NewSource(56))
	for range 300 {
		s, _ := searched(r, 40)
		reach, steps := impl.ReachOf(s), impl.StepsTo(s)
		for range 10 {
			set := someSet(r, len(steps))
			if impl.Closed(s, set) && !isWithin(reach, set) {
				t.Errorf("%v: %v is closed, and ReachOf = %v", s, set, reach)
			}
		}
		for n, many := range steps {
			first := impl.NumberOf(s, firstValues(s))
			if isWithin([]int{first}, impl.CanReach(s, []int{n})) != (many >= 0) {
				t.Errorf("%v: CanReach(%d) = %v, StepsTo = %v", s, n, impl.CanReach(s, []int{n}), steps)
			}
		}
	}
}
