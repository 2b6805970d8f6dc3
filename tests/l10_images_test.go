package tests

import (
	"math/rand"
	"slices"
	"testing"

	"loop.example/wholecheck/impl"
)

func TestExampleOfImages(t *testing.T) {
	s := counter(0, 3, 0, 1)
	wantStepsCount(t, "the example", s, 3)
	wantReachBy(t, "the example", s, 4, 0, 1, 2, 3)
}

func TestImages(t *testing.T) {
	s := counter(0, 3, 0, 1)
	for n := range 4 {
		var behind, ahead []int
		if n < 3 {
			behind = []int{n + 1}
		}
		if n > 0 {
			ahead = []int{n - 1}
		}
		wantImageBy(t, "one more", s, []int{n}, behind...)
		wantPastBy(t, "one more", s, []int{n}, ahead...)
	}
	wantImageBy(t, "one more", s, []int{0, 3}, 1)
	wantPastBy(t, "one more", s, []int{0, 3}, 2)
	wantImageBy(t, "all", s, []int{0, 1, 2, 3}, 1, 2, 3)
	wantPastBy(t, "all", s, []int{0, 1, 2, 3}, 0, 1, 2)
	wantImageBy(t, "two ways", walker(), []int{0, 2}, 0, 1, 3)
	wantPastBy(t, "two ways", walker(), []int{0}, 0, 1, 2)
	wantPastBy(t, "two ways", walker(), []int{1}, 0, 1)
	wantImageBy(t, "two states to one", edges(5, 0, [2]int{0, 4}, [2]int{3, 4}), []int{0, 3}, 4)
	wantPastBy(t, "two states to one", edges(5, 0, [2]int{0, 4}, [2]int{3, 4}), []int{4}, 0, 3)
	wantImageBy(t, "below 0", counter(-5, -1, -2, -2), []int{2, 3}, 0, 1)
	wantPastBy(t, "below 0", counter(-5, -1, -2, -2), []int{0, 1}, 2, 3)
}

func TestImagesOfTwoVariables(t *testing.T) {
	// The states of pair are [0 5] [0 6] [0 7] [1 5] and so on: both are exchanged, the first one is one more, or 0 stays.
	s := pair()
	wantImageBy(t, "exchanged, or one more", s, []int{5}, 7, 8)
	wantImageBy(t, "and one that stays", s, []int{1}, 1, 3, 4)
	wantImageBy(t, "two states", s, []int{1, 5}, 1, 3, 4, 7, 8)
	wantPastBy(t, "exchanged, or one more", s, []int{7}, 4, 5)
	wantPastBy(t, "and one that stays", s, []int{2}, 2, 6)
	wantPastBy(t, "all", s, firstNumbers(9), firstNumbers(9)...)
	wantImageBy(t, "all", s, firstNumbers(9), firstNumbers(9)...)
}

func TestImagesOfNoStates(t *testing.T) {
	for _, s := range append(narrowSystems(), oneVar(3, 3, 3)) {
		for _, set := range [][]int{nil, {}} {
			wantImageBy(t, "the empty set", s, set)
			wantPastBy(t, "the empty set", s, set)
			wantSetDiagram(t, "the empty set", s, set, drawn{diagram(widthOf(s)), 0})
		}
		wantDiagramSet(t, "the constant 0", s, diagram(widthOf(s)), 0)
	}
}

func TestImagesWithoutSteps(t *testing.T) {
	never := rules(impl.Rule{When: never()}, impl.Rule{When: always(), Sets: sets(0), Terms: makes(terms(num(maxNumber)))})
	for _, s := range []impl.System{spans(4, 4), spans(2, 2, 2, 2, 2), spans(8, 8), oneVar(0, 2, 1), oneVar(3, 3, 3), six()} {
		first := slices.IndexFunc(allStates(s), func(state []int) bool { return slices.Equal(state, firstValues(s)) })
		for _, list := range [][]impl.Rule{nil, {}, never} {
			s.Rules = list
			all := firstNumbers(len(allStates(s)))
			wantImageBy(t, "no steps", s, all)
			wantPastBy(t, "no steps", s, all)
			wantStepsCount(t, "no steps", s, 0)
			wantStepDiagram(t, "no steps", s, drawn{diagram(2 * widthOf(s)), 0})
			wantReachBy(t, "no steps", s, 1, first)
		}
	}
}

func TestImagesOfStepsThatStay(t *testing.T) {
	for _, s := range []impl.System{oneVar(0, 1, 1), oneVar(3, 3, 3), six(), spans(3, 4, 2), spans(8, 8), spans(2, 2, 2, 2, 2)} {
		s.Rules = rules(ruleOf(nil), ruleOf(sets(0), plus(0, 0)), ruleOf(nil))
		all := firstNumbers(len(allStates(s)))
		for _, set := range [][]int{all, all[:1], all[len(all)-1:], all[len(all)/3:]} {
			wantImageBy(t, "all stay", s, set, set...)
			wantPastBy(t, "all stay", s, set, set...)
		}
		wantStepsCount(t, "all stay", s, len(all))
		wantReachBy(t, "all stay", s, 1, slices.Index(fromFirst(s), 0))
	}
	some := edges(5, 2, [2]int{2, 2}, [2]int{2, 4}, [2]int{4, 4}, [2]int{1, 1})
	wantImageBy(t, "some stay", some, []int{1, 2, 3}, 1, 2, 4)
	wantPastBy(t, "some stay", some, []int{1, 2, 3}, 1, 2)
	wantReachBy(t, "some stay", some, 2, 2, 4)
	wantStepsCount(t, "some stay", some, 4)
}

// One value takes no bits: there is one row of bits, of none.
func TestImagesWithoutBits(t *testing.T) {
	for _, s := range []impl.System{oneVar(3, 3, 3), oneVar(-9999, -9999, -9999), spans(1, 1, 1, 1, 1)} {
		wantSetDiagram(t, "no bits", s, []int{0}, drawn{diagram(0), 1})
		wantDiagramSet(t, "no bits", s, diagram(0), 1, 0)
		wantStepDiagram(t, "no bits", s, drawn{diagram(0), 0})
		wantImageBy(t, "no bits", s, []int{0})
		wantPastBy(t, "no bits", s, []int{0})
		wantReachBy(t, "no bits", s, 1, 0)
		wantAlwaysBy(t, "no bits", s, always(), true)
		wantAlwaysBy(t, "no bits", s, never(), false)
		s.Rules = rules(ruleOf(nil))
		wantStepDiagram(t, "no bits, and it stays", s, drawn{diagram(0), 1})
		wantImageBy(t, "no bits, and it stays", s, []int{0}, 0)
		wantPastBy(t, "no bits, and it stays", s, []int{0}, 0)
		wantReachBy(t, "no bits, and it stays", s, 1, 0)
		wantStepsCount(t, "no bits, and it stays", s, 1)
	}
}

func TestReachBy(t *testing.T) {
	wantReachBy(t, "no rules", oneVar(0, 5, 3), 1, 3)
	wantReachBy(t, "the last state", counter(0, 3, 3, 1), 1, 3)
	wantReachBy(t, "by two", counter(0, 7, 1, 2), 4, 1, 3, 5, 7)
	wantReachBy(t, "back and on", walker(), 4, 0, 1, 2, 3)
	wantReachBy(t, "all at once", edges(5, 2, [2]int{2, 0}, [2]int{2, 4}, [2]int{2, 5}), 2, 0, 2, 4, 5)
	wantReachBy(t, "two and one", edges(5, 2, [2]int{2, 0}, [2]int{2, 4}, [2]int{0, 5}), 3, 0, 2, 4, 5)
	wantReachBy(t, "round", edges(3, 1, [2]int{1, 2}, [2]int{2, 3}, [2]int{3, 1}), 3, 1, 2, 3)
	wantReachBy(t, "a round that is not reached", edges(5, 1, [2]int{1, 0}, [2]int{3, 4}, [2]int{4, 3}, [2]int{4, 1}), 2, 0, 1)
	wantReachBy(t, "two variables", pair(), 4, 4, 5, 7, 8)
	wantReachBy(t, "64 states one after the other", rowOfStates(), 64, firstNumbers(64)...)
}

func TestAlwaysBy(t *testing.T) {
	s := counter(0, 7, 1, 2)
	wantAlwaysBy(t, "always", s, always(), true)
	wantAlwaysBy(t, "never", s, never(), false)
	wantAlwaysBy(t, "all that are reached", s, isOneOf(1, 3, 5, 7), true)
	wantAlwaysBy(t, "and others", s, isOneOf(0, 1, 3, 4, 5, 7), true)
	wantAlwaysBy(t, "not those that are not reached", s, contrary(isOneOf(0, 2, 4, 6)), true)
	for _, list := range [][]int{{1, 3, 5}, {3, 5, 7}, {1, 5, 7}, {0, 2, 4, 6}, {1}, {0, 1, 2, 3, 4, 5, 6}} {
		wantAlwaysBy(t, "one is missing", s, isOneOf(list...), false)
	}
	wantAlwaysBy(t, "the first state alone", oneVar(0, 5, 3), isOneOf(3), true)
	wantAlwaysBy(t, "all but the first state", oneVar(0, 5, 3), isOneOf(0, 1, 2, 4, 5), false)
	wantAlwaysBy(t, "the last of 64 states", rowOfStates(), append(compared(opLess, 0, 7), variable(1), num(7), of(opLess, 3, 4), of(opOr, 2, 5)), false)
	wantAlwaysBy(t, "all of 64 states", rowOfStates(), compared(opLess, 0, 8), true)
}

func TestStepsCount(t *testing.T) {
	wantStepsCount(t, "by two", counter(0, 7, 1, 2), 6)
	wantStepsCount(t, "steps that are not reached count", counter(0, 7, 7, 1), 7)
	wantStepsCount(t, "two rules for a step count once", walker(), 7)
	wantStepsCount(t, "a rule eight times", stayer(), 9)
	wantStepsCount(t, "64 states one after the other", rowOfStates(), 63)
	all := spans(8, 8)
	for n := range 8 {
		all.Rules = append(all.Rules, ruleOf(sets(0, 1), terms(num(n)), terms(num(-n))))
	}
	all.Vars[1] = impl.Var{Low: -7, High: 0}
	wantStepsCount(t, "eight steps of each of 64 states", all, 512)
	twice := oneVar(0, 7, 0)
	for n := range 8 {
		twice.Rules = append(twice.Rules, ruleOf(sets(0), terms(num(n))))
	}
	wantStepsCount(t, "all steps of eight states", twice, 64)
	wantStepDiagram(t, "all steps of eight states", twice, drawn{diagram(6), 1})
}

func TestImagesOfSomeSystems(t *testing.T) {
	r := rand.New(rand.NewSource(111))
	for range 500 {
		s, list := someNarrow(r)
		steps := stepsByHand(s)
		set := someSet(r, len(steps))
		wantImageBy(t, "by hand", s, set, nextByHand(steps, set)...)
		wantPastBy(t, "by hand", s, set, pastByHand(steps, set)...)
		reached, rounds := roundsByHand(s)
		wantReachBy(t, "by hand", s, rounds, reached...)
		wantAlwaysBy(t, "by hand", s, list, alwaysByHand(s, list))
		wantStepsCount(t, "by hand", s, stepsCountByHand(s))
	}
}

func TestImagesOfManySteps(t *testing.T) {
	r := rand.New(rand.NewSource(112))
	for range 150 {
		s := someCrowded(r)
		steps := stepsByHand(s)
		for range 4 {
			set := someSet(r, len(steps))
			wantImageBy(t, "by hand", s, set, nextByHand(steps, set)...)
			wantPastBy(t, "by hand", s, set, pastByHand(steps, set)...)
		}
		reached, rounds := roundsByHand(s)
		wantReachBy(t, "by hand", s, rounds, reached...)
		wantStepsCount(t, "by hand", s, stepsCountByHand(s))
	}
}

// Promise 10: what is found by diagrams is what is found by search.
func TestDiagramsFindWhatSearchFinds(t *testing.T) {
	r := rand.New(rand.NewSource(113))
	for range 1500 {
		s, list := someNarrow(r)
		if r.Intn(3) == 0 {
			s = someCrowded(r)
			list = someWhen(r, s.Vars)
		}
		set := someSet(r, impl.SizeOf(s))
		wantImageBy(t, "by search", s, set, impl.NextNumbers(s, set)...)
		wantPastBy(t, "by search", s, set, impl.PastNumbers(s, set)...)
		// The last round but one puts the states that are farthest away.
		wantReachBy(t, "by search", s, slices.Max(impl.StepsTo(s))+1, impl.ReachOf(s)...)
		wantAlwaysBy(t, "by search", s, list, impl.Always(s, list))
		d, n := impl.SetDiagram(s, set)
		wantDiagramSet(t, "back", s, d, n, set...)
		many := 0
		for state := range impl.SizeOf(s) {
			many += len(impl.NextNumbers(s, []int{state}))
		}
		wantStepsCount(t, "by search", s, many)
	}
}
