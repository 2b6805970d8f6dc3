package tests

import (
	"fmt"
	"math/rand"
	"slices"
	"testing"

	"loop.example/wholecheck/impl"
)

// edges returns a system of one variable from 0 on, and a rule for each pair of numbers that leads from the one to the other.
func edges(high int, first int, pairs ...[2]int) impl.System {
	s := oneVar(0, high, first)
	for _, e := range pairs {
		s.Rules = append(s.Rules, impl.Rule{When: compared(opEqual, 0, e[0]), Sets: sets(0), Terms: makes(terms(num(e[1])))})
	}
	return s
}

// isOneOf returns the truth that the first variable equals one of some numbers.
func isOneOf(values ...int) []impl.Term {
	if len(values) == 0 {
		return never()
	}
	list := compared(opEqual, 0, values[0])
	for _, n := range values[1:] {
		at := len(list)
		list = append(list, num(n), of(opEqual, 0, at), of(opOr, at-1, at+1))
	}
	return list
}

func contrary(list []impl.Term) []impl.Term {
	return append(slices.Clone(list), not(len(list)-1))
}

// someJumper returns a system of one variable, and rules that each add a number to some of its values: it has more ways than others.
func someJumper(r *rand.Rand) impl.System {
	high := 4 + r.Intn(maxSpan-4)
	s := oneVar(0, high, r.Intn(high+1))
	for range 2 + r.Intn(maxRules-1) {
		by := r.Intn(7) - 3
		s.Rules = append(s.Rules, impl.Rule{When: isOneOf(someOf(r, high+1)...), Sets: sets(0), Terms: makes(plus(0, by))})
	}
	return s
}

// someOf returns at most 12 of the numbers below an end, as each takes three terms.
func someOf(r *rand.Rand, end int) []int {
	return r.Perm(end)[:r.Intn(min(end, 12)+1)]
}

// searched returns some system, of at most so many states, and some truth over its variables.
func searched(r *rand.Rand, states int) (impl.System, []impl.Term) {
	if r.Intn(2) == 0 {
		s := someJumper(r)
		list := isOneOf(someOf(r, len(allStates(s)))...)
		if r.Intn(2) == 0 {
			return s, contrary(list)
		}
		return s, isOneOf(r.Intn(len(allStates(s))), r.Intn(maxSpan))
	}
	s := someSystem(r, states)
	return s, someWhen(r, s.Vars)
}

// distances tells for each two states by how few steps one comes from the one to the other, by the ways over more and more states; -1 if one doesn't.
func distances(steps [][]bool) [][]int {
	far := make([][]int, len(steps))
	for a, row := range steps {
		far[a] = make([]int, len(row))
		for b, is := range row {
			far[a][b] = boolOf(is) - boolOf(!is)
		}
		far[a][a] = 0
	}
	for over := range far {
		for a := range far {
			for b := range far {
				if far[a][over] >= 0 && far[over][b] >= 0 && (far[a][b] < 0 || far[a][over]+far[over][b] < far[a][b]) {
					far[a][b] = far[a][over] + far[over][b]
				}
			}
		}
	}
	return far
}

// fromFirst tells by how few steps a system comes to each state.
func fromFirst(s impl.System) []int {
	first := slices.IndexFunc(allStates(s), func(state []int) bool { return slices.Equal(state, firstValues(s)) })
	return distances(stepsByHand(s))[first]
}

func reachByHand(s impl.System) []int {
	far := fromFirst(s)
	return numbersWhere(len(far), func(n int) bool { return far[n] >= 0 })
}

func canReachByHand(s impl.System, set []int) []int {
	far := distances(stepsByHand(s))
	return numbersWhere(len(far), func(a int) bool {
		return slices.ContainsFunc(set, func(b int) bool { return far[a][b] >= 0 })
	})
}

func componentsByHand(s impl.System) []int {
	far := distances(stepsByHand(s))
	least := make([]int, len(far))
	for a := range far {
		least[a] = numbersWhere(len(far), func(b int) bool { return far[a][b] >= 0 && far[b][a] >= 0 })[0]
	}
	return least
}

// wayByHand seeks each state of the way among all of them; nothing if there is none.
func wayByHand(s impl.System, list []impl.Term) impl.Trace {
	all, steps, far := allStates(s), stepsByHand(s), fromFirst(s)
	at := -1
	for _, n := range whereByHand(s, list) {
		if far[n] >= 0 && (at < 0 || far[n] < far[at]) {
			at = n
		}
	}
	if at < 0 {
		return impl.Trace{}
	}
	way := states(all[at])
	for far[at] > 0 {
		at = numbersWhere(len(all), func(n int) bool { return far[n] == far[at]-1 && steps[n][at] })[0]
		way = slices.Insert(way, 0, all[at])
	}
	return runOverByHand(s, way)
}

// isClosedByHand reports whether states are closed by the words of the document.
func isClosedByHand(s impl.System, set []int) bool {
	first := slices.Index(fromFirst(s), 0)
	behind := nextByHand(stepsByHand(s), set)
	return isWithin([]int{first}, set) && isWithin(behind, set)
}

func isWithin(some []int, set []int) bool {
	return !slices.ContainsFunc(some, func(n int) bool { return !slices.Contains(set, n) })
}

func wantReach(t *testing.T, name string, s impl.System, want ...int) {
	t.Helper()
	wantNumbers(t, name+": ReachOf", impl.ReachOf(s), want)
}

func wantStepsTo(t *testing.T, name string, s impl.System, want ...int) {
	t.Helper()
	wantNumbers(t, name+": StepsTo", impl.StepsTo(s), want)
}

// wantWay checks the run to where an expression is true; that there is none if want has no states.
func wantWay(t *testing.T, name string, s impl.System, list []impl.Term, want impl.Trace) {
	t.Helper()
	got, ok := impl.WayTo(s, list)
	wantTrace(t, name+": WayTo", got, want)
	if ok != (len(want.States) > 0) {
		t.Errorf("%s: WayTo = %v, %v", name, got, ok)
	}
}

func wantAlways(t *testing.T, name string, s impl.System, list []impl.Term, want bool) {
	t.Helper()
	if got := impl.Always(s, list); got != want {
		t.Errorf("%s: Always(%v, %v) = %v", name, s, list, got)
	}
}

func wantClosed(t *testing.T, name string, s impl.System, set []int, want bool) {
	t.Helper()
	if got := impl.Closed(s, set); got != want {
		t.Errorf("%s: Closed(%v, %v) = %v", name, s, set, got)
	}
}

func wantProves(t *testing.T, name string, s impl.System, list []impl.Term, set []int, want bool) {
	t.Helper()
	if got := impl.Proves(s, list, set); got != want {
		t.Errorf("%s: Proves(%v, %v, %v) = %v", name, s, list, set, got)
	}
}

func wantCanReach(t *testing.T, name string, s impl.System, set []int, want ...int) {
	t.Helper()
	wantNumbers(t, fmt.Sprintf("%s: CanReach(%v)", name, set), impl.CanReach(s, set), want)
}

func wantStuckStates(t *testing.T, name string, s impl.System, want ...int) {
	t.Helper()
	wantNumbers(t, name+": StuckStates", impl.StuckStates(s), want)
}

func wantComponents(t *testing.T, name string, s impl.System, want ...int) {
	t.Helper()
	wantNumbers(t, name+": Components", impl.Components(s), want)
}
