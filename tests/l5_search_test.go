package tests

import (
	"math/rand"
	"slices"
	"testing"

	"loop.example/wholecheck/impl"
)

func TestExampleOfSearch(t *testing.T) {
	s := counter(0, 3, 0, 2)
	wantReach(t, "the example", s, 0, 2)
	wantStepsTo(t, "the example", s, 0, -1, 1, -1)
	wantStuckStates(t, "the example", s, 2)
}

func TestSearchOfOneVariable(t *testing.T) {
	wantReach(t, "it goes back and stays", walker(), 0, 1, 2, 3)
	wantStepsTo(t, "it goes back and stays", walker(), 0, 1, 2, 3)
	wantStuckStates(t, "it goes back and stays", walker(), 3)
	wantReach(t, "from the middle on", counter(0, 5, 2, 1), 2, 3, 4, 5)
	wantStepsTo(t, "from the middle on", counter(0, 5, 2, 1), -1, -1, 0, 1, 2, 3)
	wantReach(t, "downwards", counter(-7, 2, 1, -4), 0, 4, 8)
	wantStepsTo(t, "downwards", counter(-7, 2, 1, -4), 2, -1, -1, -1, 1, -1, -1, -1, 0, -1)
	wantStuckStates(t, "downwards", counter(-7, 2, 1, -4), 0)
	two := edges(6, 3, [2]int{3, 5}, [2]int{5, 3}, [2]int{3, 1}, [2]int{1, 5}, [2]int{5, 6}, [2]int{0, 3}, [2]int{2, 4})
	wantReach(t, "two ways", two, 1, 3, 5, 6)
	wantStepsTo(t, "two ways", two, -1, 1, -1, 0, -1, 1, 2)
	wantStuckStates(t, "two ways", two, 6)
}

// A longer way is found first if one goes on from the state that was found last.
func TestStepsToTakesTheShortestRun(t *testing.T) {
	s := edges(5, 0, [2]int{0, 1}, [2]int{1, 2}, [2]int{2, 3}, [2]int{3, 4}, [2]int{4, 5}, [2]int{0, 4}, [2]int{5, 2})
	wantStepsTo(t, "a shorter way", s, 0, 1, 2, 3, 1, 2)
	s = edges(5, 5, [2]int{5, 4}, [2]int{4, 3}, [2]int{3, 2}, [2]int{2, 1}, [2]int{1, 0}, [2]int{5, 1}, [2]int{0, 3})
	wantStepsTo(t, "a shorter way, downwards", s, 2, 1, 3, 2, 1, 0)
}

func TestSearchOfTwoVariables(t *testing.T) {
	wantReach(t, "two variables", pair(), 4, 5, 7, 8)
	wantStepsTo(t, "two variables", pair(), -1, -1, -1, -1, 0, 2, -1, 1, 3)
	wantStuckStates(t, "two variables", pair())
	wantReach(t, "without rules", six(), 1)
	wantStepsTo(t, "without rules", six(), -1, 0, -1, -1, -1, -1)
	wantStuckStates(t, "without rules", six(), 1)
	wantReach(t, "the last state alone", spans(20, 20), 399)
	wantStuckStates(t, "the last state alone", spans(20, 20), 399)
	wantReach(t, "one state", oneVar(-4, -4, -4), 0)
	wantStepsTo(t, "one state", oneVar(-4, -4, -4), 0)
	wantStuckStates(t, "one state", oneVar(-4, -4, -4), 0)
}

// One rule alone makes all states but one stuck, and one comes to few of these.
func TestStuckStates(t *testing.T) {
	wantStuckStates(t, "two of them", edges(5, 2, [2]int{2, 0}, [2]int{2, 4}), 0, 4)
	wantStuckStates(t, "ascending, not as they are found", edges(5, 2, [2]int{2, 5}, [2]int{2, 1}, [2]int{1, 0}), 0, 5)
	wantStuckStates(t, "those that are never reached", edges(5, 2, [2]int{2, 3}, [2]int{3, 2}, [2]int{1, 0}))
	wantStuckStates(t, "the first state", edges(5, 2, [2]int{1, 2}), 2)
	wantStuckStates(t, "what stays is not stuck", edges(5, 2, [2]int{2, 3}, [2]int{3, 3}))
	wantStuckStates(t, "When is never true", impl.System{Vars: six().Vars, Rules: rules(impl.Rule{When: never()})}, 1)
	wantStuckStates(t, "a rule that sets nothing", stayer())
	wantStuckStates(t, "a value leaves its range", counter(0, 5, 4, 2), 4)
}

func TestSearchOfStatesThatComeToThemselves(t *testing.T) {
	wantReach(t, "the first state stays", stayer(), 4)
	wantStepsTo(t, "the first state stays", stayer(), -1, -1, -1, -1, 0, -1, -1, -1, -1)
	wantComponents(t, "all states stay", stayer(), firstNumbers(9)...)
	s := edges(4, 1, [2]int{1, 1}, [2]int{1, 3}, [2]int{3, 3}, [2]int{3, 1}, [2]int{3, 2}, [2]int{2, 2}, [2]int{0, 0})
	wantReach(t, "they stay or go on", s, 1, 2, 3)
	wantStepsTo(t, "they stay or go on", s, -1, 0, 2, 1, -1)
	wantComponents(t, "they stay or go on", s, 0, 1, 2, 1, 4)
	wantCanReach(t, "they stay or go on", s, []int{2}, 1, 2, 3)
	wantCanReach(t, "it stays, and none comes there", s, []int{0}, 0)
	wantClosed(t, "it stays, and the first one comes there", s, []int{2}, false)
	wantWay(t, "past those that stay", s, isOneOf(2), run([]int{1, 3, 2}, 1, 4))
	wantWay(t, "the first one stays", s, isOneOf(1, 2), run([]int{1}))
}

func TestComponents(t *testing.T) {
	wantComponents(t, "the example", counter(0, 3, 0, 2), 0, 1, 2, 3)
	wantComponents(t, "one comes back to all but the last one", walker(), 0, 0, 0, 3)
	wantComponents(t, "without rules", six(), 0, 1, 2, 3, 4, 5)
	wantComponents(t, "those that are never reached", edges(5, 0, [2]int{2, 4}, [2]int{4, 2}, [2]int{5, 3}, [2]int{3, 5}, [2]int{5, 2}), 0, 1, 2, 3, 2, 3)
	wantComponents(t, "two rounds with a state in common", edges(6, 3, [2]int{3, 1}, [2]int{1, 5}, [2]int{5, 3}, [2]int{5, 6}, [2]int{6, 2}, [2]int{2, 5}, [2]int{2, 0}), 0, 1, 1, 1, 4, 1, 1)
	wantComponents(t, "a round in a round", edges(4, 0, [2]int{4, 3}, [2]int{3, 2}, [2]int{2, 3}, [2]int{2, 1}, [2]int{1, 4}), 0, 1, 1, 1, 1)
	wantComponents(t, "two that meet in a third one", edges(4, 0, [2]int{0, 1}, [2]int{1, 0}, [2]int{4, 3}, [2]int{3, 4}, [2]int{0, 2}, [2]int{3, 2}), 0, 0, 2, 3, 3)
	wantComponents(t, "a way to a round that is known", edges(4, 0, [2]int{0, 1}, [2]int{1, 0}, [2]int{3, 4}, [2]int{4, 3}, [2]int{3, 0}, [2]int{4, 1}), 0, 0, 2, 3, 3)
	wantComponents(t, "one comes to the least one last", edges(4, 0, [2]int{0, 4}, [2]int{4, 3}, [2]int{3, 2}, [2]int{2, 4}), 0, 1, 2, 2, 2)
	wantComponents(t, "one round", edges(4, 0, [2]int{1, 4}, [2]int{4, 3}, [2]int{3, 2}, [2]int{2, 1}), 0, 1, 1, 1, 1)
	wantComponents(t, "one state", oneVar(7, 7, 7), 0)
}

// A run over all of 400 states, with a way back to the first one or without.
func TestSearchOfAllStates(t *testing.T) {
	s := twoCounters()
	s.Rules[1].When = compared(opEqual, 1, 9999)
	wantReach(t, "400 states", s, firstNumbers(maxStates)...)
	wantStepsTo(t, "400 states", s, firstNumbers(maxStates)...)
	wantComponents(t, "400 states and a way back", s, make([]int, maxStates)...)
	wantCanReach(t, "400 states and a way back", s, []int{200}, firstNumbers(maxStates)...)
	wantStuckStates(t, "400 states and a way back", s)
	last := terms(variable(0), variable(1), of(opAdd, 0, 1), num(9998), of(opLess, 3, 2))
	x, ok := impl.WayTo(s, last)
	if !ok || len(x.States) != maxStates || len(x.Rules) != maxStates-1 {
		t.Fatalf("WayTo = %v, %v", x, ok)
	}
	wantValid(t, "the longest way", s, x, true)
	wantStates(t, "the longest way", x.States, allStates(s)...)
	s.Rules = s.Rules[:2]
	wantReach(t, "400 states", s, firstNumbers(maxStates)...)
	wantStepsTo(t, "400 states", s, firstNumbers(maxStates)...)
	wantComponents(t, "400 states without a way back", s, firstNumbers(maxStates)...)
	wantCanReach(t, "400 states without a way back", s, []int{200}, firstNumbers(201)...)
	wantStuckStates(t, "400 states without a way back", s, 399)
}

func TestSearchOfSomeSystems(t *testing.T) {
	r := rand.New(rand.NewSource(51))
	unreached, stuck := 0, 0
	for range 600 {
		s, _ := searched(r, 50)
		far, steps := fromFirst(s), stepsByHand(s)
		wantReach(t, "by hand", s, reachByHand(s)...)
		wantStepsTo(t, "by hand", s, far...)
		wantStuckStates(t, "by hand", s, numbersWhere(len(far), func(n int) bool { return far[n] >= 0 && !slices.Contains(steps[n], true) })...)
		wantComponents(t, "by hand", s, componentsByHand(s)...)
		set := someSet(r, len(far))
		wantCanReach(t, "by hand", s, set, canReachByHand(s, set)...)
		unreached += len(far) - len(impl.ReachOf(s))
		stuck += len(impl.StuckStates(s))
	}
	if unreached < 1000 || stuck < 200 {
		t.Errorf("%d states were not reached, and %d were stuck", unreached, stuck)
	}
}

// States far apart, at the ends of words of bits, and several ways over most of them.
func TestSearchOfManyStates(t *testing.T) {
	s := spans(20, 20)
	s.Rules = rules(ruleOf(sets(0), plus(0, -1)), ruleOf(sets(1), plus(1, -1)), ruleOf(sets(0, 1), plus(1, 1), plus(0, -1)))
	far := fromFirst(s)
	wantReach(t, "400 states", s, reachByHand(s)...)
	wantStepsTo(t, "400 states", s, far...)
	wantComponents(t, "400 states", s, componentsByHand(s)...)
	for _, set := range [][]int{{0}, {63, 64}, {127, 128}, {383}, {384}, {399}} {
		wantCanReach(t, "400 states", s, set, canReachByHand(s, set)...)
	}
}

func TestCanReach(t *testing.T) {
	s := counter(0, 5, 2, 2)
	wantCanReach(t, "none comes there", s, []int{0}, 0)
	wantCanReach(t, "also by no steps", s, []int{2}, 0, 2)
	wantCanReach(t, "those that are never reached, too", s, []int{5}, 1, 3, 5)
	wantCanReach(t, "two of them", s, []int{3, 4}, 0, 1, 2, 3, 4)
	wantCanReach(t, "all of them", s, []int{0, 1, 2, 3, 4, 5}, 0, 1, 2, 3, 4, 5)
	wantCanReach(t, "the empty set", s, nil)
	wantCanReach(t, "the empty set", s, []int{})
	wantCanReach(t, "the stuck state", walker(), []int{3}, 0, 1, 2, 3)
	wantCanReach(t, "without rules", six(), []int{1, 4}, 1, 4)
	wantCanReach(t, "without rules, the empty set", six(), nil)
	wantCanReach(t, "several steps in any order", edges(5, 0, [2]int{5, 1}, [2]int{1, 4}, [2]int{4, 0}, [2]int{0, 3}, [2]int{2, 5}), []int{3}, 0, 1, 2, 3, 4, 5)
}
