package tests

import (
	"slices"
	"testing"

	"loop.example/wholecheck/impl"
)

// wantNothingSearched checks that something is no system.
func wantNothingSearched(t *testing.T, name string, s impl.System) {
	t.Helper()
	wantReach(t, name, s)
	wantStepsTo(t, name, s)
	wantStuckStates(t, name, s)
	wantComponents(t, name, s)
	for _, list := range [][]impl.Term{always(), never(), compared(opEqual, 0, 0), nil} {
		wantNoTruth(t, name, s, list)
	}
	for _, set := range [][]int{nil, {}, {0}, {1, 2}, {-1}, {399}, firstNumbers(maxStates)} {
		wantNotClosed(t, name, s, set)
	}
}

// wantNoTruth checks that terms are no truth over the variables of a system.
func wantNoTruth(t *testing.T, name string, s impl.System, list []impl.Term) {
	t.Helper()
	wantWay(t, name, s, list, impl.Trace{})
	wantAlways(t, name, s, list, false)
	for _, set := range [][]int{nil, {0}, impl.ReachOf(s), firstNumbers(impl.SizeOf(s))} {
		wantProves(t, name, s, list, set, false)
	}
}

// wantNotClosed checks that numbers are no set of states, or the empty one.
func wantNotClosed(t *testing.T, name string, s impl.System, set []int) {
	t.Helper()
	wantClosed(t, name, s, set, false)
	wantProves(t, name, s, always(), set, false)
	wantProves(t, name, s, never(), set, false)
	wantCanReach(t, name, s, set)
}

func TestNoSearchOfNoSystem(t *testing.T) {
	for _, c := range noSystems() {
		wantNothingSearched(t, c.name, c.s)
	}
}

func TestNoSearchOfNoTruth(t *testing.T) {
	for _, c := range noTruths() {
		for _, s := range []impl.System{pair(), stayer(), {Vars: pair().Vars}} {
			wantNoTruth(t, c.name, s, c.list)
		}
	}
	for _, list := range [][]impl.Term{compared(opLess, 1, 9), compared(opEqual, 1, 0), append(terms(variable(1)), compared(opEqual, 0, 0)...)} {
		wantNoTruth(t, "a variable of other systems", oneVar(0, 3, 0), list)
		wantNoTruth(t, "a variable of other systems", walker(), list)
	}
}

func TestTruthsAtTheLimits(t *testing.T) {
	all := append(constants(maxTerms-1), of(opEqual, 0, 1))
	wantAlways(t, "so many terms", walker(), all, true)
	wantProves(t, "so many terms", walker(), all, firstNumbers(4), true)
	wantWay(t, "so many terms", walker(), all, run([]int{0}))
	list := append(append(constants(maxTerms-2), variable(0)), of(opLess, 0, maxTerms-2))
	wantWay(t, "values above 7", counter(0, 19, 3, 3), list, run([]int{3, 6, 9}, 0, 0))
}

// Any of these that is taken for a set has the first state and all states behind its states.
func TestNoSetsAreClosed(t *testing.T) {
	first := impl.System{Vars: vars(impl.Var{High: 2}, impl.Var{Low: 5, High: 7, First: 5}), Rules: rules(ruleOf(nil))}
	for _, c := range noSets(9) {
		wantNotClosed(t, c.name, first, c.set)
		wantNotClosed(t, c.name, stayer(), c.set)
		wantNotClosed(t, c.name+", no rules", impl.System{Vars: first.Vars}, c.set)
	}
	full := impl.System{Vars: vars(impl.Var{High: 19}, impl.Var{High: 19}), Rules: rules(ruleOf(nil))}
	for _, c := range noSets(maxStates) {
		wantNotClosed(t, c.name+", 400 states", full, c.set)
	}
	for _, set := range [][]int{{0, 9}, {0, 64}, {0, 399}, {0, 1, 2, 3, 4, 5, 6, 7, 8, 9}, firstNumbers(maxStates)} {
		wantNotClosed(t, "a set of greater systems", first, set)
	}
}

func TestTheEmptySetIsNotClosed(t *testing.T) {
	for _, s := range []impl.System{walker(), stayer(), six(), oneVar(3, 3, 3), twoCounters()} {
		wantNotClosed(t, "the empty set", s, nil)
		wantNotClosed(t, "the empty set", s, []int{})
	}
}

// A list of no numbers with memory beyond it is the empty set.
func TestArgumentsOfSearchStay(t *testing.T) {
	s, numbers, lists := roomy()
	list, wholeList := withRoom(compared(opLess, 1, 6))
	set, wholeSet := roomyNumbers(4, 5, 7, 8)
	empty, wholeEmpty := roomyNumbers()
	impl.ReachOf(s)
	impl.StepsTo(s)
	wantAlways(t, "pair", s, list, false)
	wantClosed(t, "pair", s, set, true)
	wantProves(t, "pair", s, list, set, false)
	wantWay(t, "pair", s, list, impl.Trace{})
	wantCanReach(t, "pair", s, set, firstNumbers(9)...)
	wantNotClosed(t, "the empty set", s, empty)
	impl.StuckStates(s)
	impl.Components(s)
	_, want := withRoom(compared(opLess, 1, 6))
	wantTerms(t, "the expression", wholeList, want)
	_, before := roomyNumbers(4, 5, 7, 8)
	wantNumbers(t, "the set", wholeSet, before)
	wantNumbers(t, "the empty set", wholeEmpty, slices.Repeat([]int{77}, 9))
	_, numbersBefore, listsBefore := roomy()
	wantStates(t, "the lists of variables", numbers, numbersBefore...)
	if !slices.EqualFunc(lists, listsBefore, slices.Equal) {
		t.Errorf("expressions = %v, want %v", lists, listsBefore)
	}
}

func TestResultsOfSearchAreNewMemory(t *testing.T) {
	s, set, list := walker(), []int{2}, isOneOf(2)
	for range 2 {
		scribble(impl.ReachOf(s), 99)
		wantReach(t, "afterwards", s, 0, 1, 2, 3)
		scribble(impl.StepsTo(s), 98)
		wantStepsTo(t, "afterwards", s, 0, 1, 2, 3)
		scribble(impl.CanReach(s, set), 97)
		wantCanReach(t, "afterwards", s, set, 0, 1, 2)
		scribble(impl.StuckStates(s), 96)
		wantStuckStates(t, "afterwards", s, 3)
		scribble(impl.Components(s), 95)
		wantComponents(t, "afterwards", s, 0, 0, 0, 3)
		x, _ := impl.WayTo(s, list)
		scribbleRun(x)
		wantWay(t, "afterwards", s, list, run([]int{0, 1, 2}, 0, 0))
		wantNumbers(t, "the argument", set, []int{2})
	}
}

// No two states of a run share memory, not even what is unused.
func TestStatesOfWaysShareNoMemory(t *testing.T) {
	want := ones(0, 1, 2, 3)
	for i := range want {
		x, _ := impl.WayTo(walker(), isOneOf(3))
		scribble(x.States[i], 99)
		for k := range x.States {
			if k != i {
				wantNumbers(t, "another state", x.States[k], want[k])
			}
		}
		wantNumbers(t, "the rules", x.Rules, []int{0, 0, 0})
	}
}
