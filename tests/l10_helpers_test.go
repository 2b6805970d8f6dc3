package tests

import (
	"fmt"
	"math/rand"
	"slices"
	"testing"

	"loop.example/wholecheck/impl"
)

// The number of the document's chapter 10, written out: half of the inputs of a circuit.
const narrowBits = 6

func isNarrowByHand(s impl.System) bool { return widthOf(s) <= narrowBits }

// narrowSystems returns systems whose states have at most 6 bits, some of them just so many.
func narrowSystems() []impl.System {
	list := []impl.System{
		walker(), stayer(), six(), pair(), counter(0, 3, 0, 1), counter(-9999, -9980, -9990, 3), counter(9980, 9999, 9999, -1), rowOfStates(),
		spans(8, 8), spans(4, 4, 4), spans(20, 2), spans(5, 5, 1), spans(3, 1, 3, 2, 2), spans(2, 2, 2, 2, 2),
	}
	for _, c := range wideSystems() {
		if isNarrowByHand(c.s) {
			list = append(list, c.s)
		}
	}
	return list
}

// broadSystems returns systems whose states have more than 6 bits, some of them of few states.
func broadSystems() []impl.System {
	list := []impl.System{spans(3, 3, 3, 2), spans(17, 4), spans(20, 3), spans(9, 5), spans(2, 3, 2, 3, 2), spans(16, 8), spans(3, 3, 3, 3)}
	for i := range list {
		list[i].Rules = rules(ruleOf(nil), ruleOf(sets(0), plus(0, -1)))
	}
	for _, c := range wideSystems() {
		if !isNarrowByHand(c.s) {
			list = append(list, c.s)
		}
	}
	return list
}

// rowOfStates returns a system of 64 states that are reached one after the other.
func rowOfStates() impl.System {
	return impl.System{Vars: vars(impl.Var{High: 7}, impl.Var{High: 7}), Rules: rules(
		ruleOf(sets(1), plus(1, 1)),
		impl.Rule{When: compared(opEqual, 1, 7), Sets: sets(0, 1), Terms: makes(plus(0, 1), terms(num(0)))},
	)}
}

// someNarrow returns some system whose states have at most 6 bits, and some truth over its variables.
func someNarrow(r *rand.Rand) (impl.System, []impl.Term) {
	for {
		if s, list := searched(r, 64); isNarrowByHand(s) {
			return s, list
		}
	}
}

// someCrowded returns a system of 64 states, or about as many, and as many rules as may be.
func someCrowded(r *rand.Rand) impl.System {
	s := [...]impl.System{spans(8, 8), spans(4, 4, 4), spans(16, 4), spans(7, 7), spans(2, 4, 2, 4), spans(8, 2, 4), spans(20, 2)}[r.Intn(7)]
	for range maxRules {
		s.Rules = append(s.Rules, someRule(r, s.Vars))
	}
	return s
}

// setDrawnByHand returns the diagram of a set by the words of the document.
func setDrawnByHand(s impl.System, set []int) drawn {
	list := allBitsByHand(s, set)
	return diagramByHand(widthOf(s), func(row []int) int { return boolOf(hasRow(list, row)) })
}

func hasRow(list [][]int, row []int) bool {
	return slices.ContainsFunc(list, func(other []int) bool { return slices.Equal(row, other) })
}

// setOfByHand returns the states whose bits lead from a place to 1.
func setOfByHand(s impl.System, d impl.Diagram, n int) []int {
	list := allBitsByHand(s, firstNumbers(len(allStates(s))))
	return numbersWhere(len(list), func(at int) bool { return constantByHand(d, n, list[at]) == 1 })
}

// inTurns returns the bits of two states, one of each in turn.
func inTurns(a []int, b []int) []int {
	var row []int
	for i := range a {
		row = append(row, a[i], b[i])
	}
	return row
}

// stepsDrawnByHand returns the diagram of the steps of a system by the words of the document.
func stepsDrawnByHand(s impl.System) drawn {
	list := allBitsByHand(s, firstNumbers(len(allStates(s))))
	are := map[string]bool{}
	for a, row := range stepsByHand(s) {
		for b, is := range row {
			are[fmt.Sprint(inTurns(list[a], list[b]))] = is
		}
	}
	return diagramByHand(2*widthOf(s), func(row []int) int { return boolOf(are[fmt.Sprint(row)]) })
}

func stepsCountByHand(s impl.System) int {
	many := 0
	for _, row := range stepsByHand(s) {
		for _, is := range row {
			many += boolOf(is)
		}
	}
	return many
}

// roundsByHand returns the states to which a system comes and the number of rounds, by the words of the document.
func roundsByHand(s impl.System) ([]int, int) {
	steps := stepsByHand(s)
	set := []int{slices.Index(fromFirst(s), 0)}
	for rounds := 1; ; rounds++ {
		behind := nextByHand(steps, set)
		all := numbersWhere(len(steps), func(n int) bool { return slices.Contains(set, n) || slices.Contains(behind, n) })
		if len(all) == len(set) {
			return set, rounds
		}
		set = all
	}
}

func alwaysByHand(s impl.System, list []impl.Term) bool {
	return isWithin(reachByHand(s), whereByHand(s, list))
}

func wantSetDiagram(t *testing.T, name string, s impl.System, set []int, want drawn) {
	t.Helper()
	if got := drawnOf(impl.SetDiagram(s, set)); !got.is(want) {
		t.Errorf("%s: SetDiagram(%v, %v) = %v, want %v", name, s, set, got, want)
	}
}

func wantDiagramSet(t *testing.T, name string, s impl.System, d impl.Diagram, n int, want ...int) {
	t.Helper()
	if got := impl.DiagramSet(s, d, n); !slices.Equal(got, want) {
		t.Errorf("%s: DiagramSet(%v, %v, %d) = %v, want %v", name, s, shownDiagram(d), n, got, want)
	}
}

func wantStepDiagram(t *testing.T, name string, s impl.System, want drawn) {
	t.Helper()
	if got := drawnOf(impl.StepDiagram(s)); !got.is(want) {
		t.Errorf("%s: StepDiagram(%v) = %v, want %v", name, s, got, want)
	}
}

func wantStepsCount(t *testing.T, name string, s impl.System, want int) {
	t.Helper()
	if got := impl.StepsCount(s); got != want {
		t.Errorf("%s: StepsCount(%v) = %d, want %d", name, s, got, want)
	}
}

func wantImageBy(t *testing.T, name string, s impl.System, set []int, want ...int) {
	t.Helper()
	if got := impl.ImageBy(s, set); !slices.Equal(got, want) {
		t.Errorf("%s: ImageBy(%v, %v) = %v, want %v", name, s, set, got, want)
	}
}

func wantPastBy(t *testing.T, name string, s impl.System, set []int, want ...int) {
	t.Helper()
	if got := impl.PastBy(s, set); !slices.Equal(got, want) {
		t.Errorf("%s: PastBy(%v, %v) = %v, want %v", name, s, set, got, want)
	}
}

func wantReachBy(t *testing.T, name string, s impl.System, wantRounds int, want ...int) {
	t.Helper()
	if got, rounds := impl.ReachBy(s); !slices.Equal(got, want) || rounds != wantRounds {
		t.Errorf("%s: ReachBy(%v) = %v, %d, want %v, %d", name, s, got, rounds, want, wantRounds)
	}
}

func wantAlwaysBy(t *testing.T, name string, s impl.System, list []impl.Term, want bool) {
	t.Helper()
	if got := impl.AlwaysBy(s, list); got != want {
		t.Errorf("%s: AlwaysBy(%v, %v) = %v", name, s, list, got)
	}
}
