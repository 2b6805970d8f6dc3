package tests

import (
	"slices"
	"testing"

	"loop.example/wholecheck/impl"
)

// wantNothingDrawn checks that a system is not narrow.
func wantNothingDrawn(t *testing.T, name string, s impl.System) {
	t.Helper()
	for _, set := range [][]int{nil, {}, {0}, {1, 2}, {-1}, {399}, firstNumbers(impl.SizeOf(s))} {
		wantNoSetDrawn(t, name, s, set)
	}
	width := 0
	for _, many := range impl.BitsOf(s) {
		width += many
	}
	for _, vars := range []int{0, 1, 2, 4, 6, 7, 12, width} {
		for n := range 2 {
			wantDiagramSet(t, name, s, diagram(vars), n)
		}
	}
	wantStepDiagram(t, name, s, noDrawing())
	wantStepsCount(t, name, s, -1)
	wantReachBy(t, name, s, 0)
	for _, list := range [][]impl.Term{always(), never(), compared(opEqual, 0, 0), nil} {
		wantAlwaysBy(t, name, s, list, false)
	}
}

// wantNoSetDrawn checks that nothing is drawn of what is no set of states of a system that is narrow.
func wantNoSetDrawn(t *testing.T, name string, s impl.System, set []int) {
	t.Helper()
	wantSetDiagram(t, name, s, set, noDrawing())
	wantImageBy(t, name, s, set)
	wantPastBy(t, name, s, set)
}

func TestNoImagesOfNoSystem(t *testing.T) {
	for _, c := range noSystems() {
		wantNothingDrawn(t, c.name, c.s)
	}
	wantNothingDrawn(t, "the zero value", impl.System{})
}

func TestNoImagesOfTooManyBits(t *testing.T) {
	for _, s := range broadSystems() {
		if !impl.SystemValid(s) {
			t.Errorf("%v is no system", s)
		}
		wantNothingDrawn(t, "too many bits", s)
	}
}

// Six bits are as many as may be, whatever the number of states is.
func TestImagesOfAsManyBitsAsMayBe(t *testing.T) {
	many := 0
	for _, s := range narrowSystems() {
		reached, rounds := roundsByHand(s)
		wantReachBy(t, "narrow", s, rounds, reached...)
		wantStepsCount(t, "narrow", s, stepsCountByHand(s))
		wantAlwaysBy(t, "narrow", s, always(), true)
		all := firstNumbers(impl.SizeOf(s))
		wantSetDiagram(t, "narrow", s, all, setDrawnByHand(s, all))
		many += boolOf(widthOf(s) == narrowBits)
	}
	if many < 5 {
		t.Errorf("%d systems of six bits", many)
	}
}

// Each state of stayer comes behind itself, so anything that is taken for a set has states on both sides.
func TestNoImagesOfNoSets(t *testing.T) {
	for _, c := range noSets(9) {
		wantNoSetDrawn(t, c.name, stayer(), c.set)
		wantNoSetDrawn(t, c.name+", no rules", impl.System{Vars: stayer().Vars}, c.set)
	}
	full := impl.System{Vars: spans(8, 8).Vars, Rules: rules(ruleOf(nil))}
	for _, c := range noSets(64) {
		wantNoSetDrawn(t, c.name+", 64 states", full, c.set)
	}
	// These are numbers of rows of bits, but not of states.
	for _, set := range [][]int{{9}, {0, 9}, {15}, {8, 9}, {63}, {399}, firstNumbers(16)} {
		wantNoSetDrawn(t, "a set of greater systems", stayer(), set)
	}
}

func TestNoSetsOfNoDiagrams(t *testing.T) {
	systems := []impl.System{oneVar(3, 3, 3), oneVar(0, 1, 0), walker(), six(), oneVar(0, 15, 0), oneVar(0, 19, 0), spans(8, 8)}
	for _, x := range noDiagrams() {
		for _, s := range systems {
			for _, n := range []int{0, 1, 2, 3, 4, -1, greatest, least} {
				wantDiagramSet(t, x.name, s, x.d, n)
			}
		}
	}
}

func TestNoSetsOfOtherNumbersOfVariables(t *testing.T) {
	for _, s := range narrowSystems() {
		for _, d := range append(goodDiagrams(), unneeded(), diagram(6), diagram(12), diagram(3), diagram(4), longDiagram(6, 100)) {
			if d.Vars != widthOf(s) {
				for _, n := range []int{0, 1, 2, placesIn(d) - 1} {
					wantDiagramSet(t, "another number of variables", s, d, n)
				}
			}
		}
		steps, n := impl.StepDiagram(s)
		if widthOf(s) > 0 {
			wantDiagramSet(t, "the steps", s, steps, n)
			wantDiagramSet(t, "a constant of the steps", s, steps, 1)
		}
	}
}

func TestNoSetsOfNoPlaces(t *testing.T) {
	for _, c := range []struct {
		s impl.System
		d impl.Diagram
	}{
		{oneVar(3, 3, 3), diagram(0)}, {oneVar(0, 1, 0), diagram(1)}, {walker(), diagram(2, [3]int{1, 0, 1})},
		{six(), majority()}, {six(), unneeded()}, {oneVar(0, 19, 0), longDiagram(5, maxForks)}, {spans(8, 8), longDiagram(6, 300)},
	} {
		for _, n := range noPlaces(c.d) {
			wantDiagramSet(t, "no place", c.s, c.d, n)
		}
	}
}

func TestNothingIsAlwaysTrueOfNoTruths(t *testing.T) {
	for _, c := range noTruths() {
		for _, s := range []impl.System{pair(), stayer(), {Vars: pair().Vars}} {
			wantAlwaysBy(t, c.name, s, c.list, false)
		}
	}
	for _, list := range [][]impl.Term{compared(opLess, 1, 9), compared(opEqual, 1, 0), append(terms(variable(1)), compared(opEqual, 0, 0)...)} {
		wantAlwaysBy(t, "a variable of other systems", oneVar(0, 3, 0), list, false)
		wantAlwaysBy(t, "a variable of other systems", walker(), list, false)
	}
	wantAlwaysBy(t, "so many terms", walker(), append(constants(maxTerms-1), of(opEqual, 0, 1)), true)
}

func TestArgumentsOfImagesStay(t *testing.T) {
	s, numbers, lists := roomy()
	set, wholeSet := roomyNumbers(0, 2, 3, 8)
	bad, wholeBad := roomyNumbers(0, 2, 2)
	empty, wholeEmpty := roomyNumbers()
	list, wholeList := withRoom(compared(opLess, 0, 2))
	d, wholeForks := roomyDiagram()
	steps := stepsByHand(pair())
	wantSetDiagram(t, "roomy", s, set, setDrawnByHand(pair(), set))
	wantImageBy(t, "roomy", s, set, nextByHand(steps, set)...)
	wantPastBy(t, "roomy", s, set, pastByHand(steps, set)...)
	wantNoSetDrawn(t, "roomy", s, bad)
	wantSetDiagram(t, "roomy", s, empty, drawn{diagram(4), 0})
	wantImageBy(t, "roomy", s, empty)
	wantPastBy(t, "roomy", s, empty)
	wantStepDiagram(t, "roomy", s, stepsDrawnByHand(pair()))
	wantReachBy(t, "roomy", s, 4, 4, 5, 7, 8)
	wantAlwaysBy(t, "roomy", s, list, false)
	wantStepsCount(t, "roomy", s, stepsCountByHand(pair()))
	wantDiagramSet(t, "roomy", six(), d, 5, setOfByHand(six(), majority(), 5)...)
	for _, c := range []struct{ whole, want []int }{{wholeSet, []int{0, 2, 3, 8}}, {wholeBad, []int{0, 2, 2}}, {wholeEmpty, nil}} {
		_, want := roomyNumbers(c.want...)
		wantNumbers(t, "an argument", c.whole, want)
	}
	_, want := withRoom(compared(opLess, 0, 2))
	wantTerms(t, "the expression", wholeList, want)
	if _, want := roomyDiagram(); !slices.Equal(wholeForks, want) {
		t.Errorf("the forks = %v, want %v", wholeForks, want)
	}
	_, numbersBefore, listsBefore := roomy()
	wantStates(t, "the lists of variables", numbers, numbersBefore...)
	if !slices.EqualFunc(lists, listsBefore, slices.Equal) {
		t.Errorf("expressions = %v, want %v", lists, listsBefore)
	}
}

func TestResultsOfImagesAreNewMemory(t *testing.T) {
	s, set := stayer(), []int{0, 2, 3}
	d := setDrawnByHand(s, set)
	steps := stepsDrawnByHand(s)
	for range 2 {
		x := drawnOf(impl.SetDiagram(s, set))
		scribble(x.d.Forks, impl.Fork{Var: 99, Low: 99, High: 99})
		wantSetDiagram(t, "afterwards", s, set, d)
		x = drawnOf(impl.StepDiagram(s))
		scribble(x.d.Forks, impl.Fork{Var: 98, Low: 98, High: 98})
		wantStepDiagram(t, "afterwards", s, steps)
		scribble(impl.DiagramSet(s, d.d, d.place), 97)
		wantDiagramSet(t, "afterwards", s, d.d, d.place, 0, 2, 3)
		scribble(impl.ImageBy(s, set), 96)
		wantImageBy(t, "afterwards", s, set, 0, 2, 3)
		scribble(impl.PastBy(s, set), 95)
		wantPastBy(t, "afterwards", s, set, 0, 2, 3)
		reached, _ := impl.ReachBy(s)
		scribble(reached, 94)
		wantReachBy(t, "afterwards", s, 1, 4)
		wantNumbers(t, "the argument", set, []int{0, 2, 3})
	}
}
