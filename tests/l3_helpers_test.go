package tests

import (
	"math/rand"
	"slices"
	"testing"

	"loop.example/wholecheck/impl"
)

// The number of the document's chapter 3, written out.
const maxTrace = 500

func states(list ...[]int) [][]int { return list }

// ones returns states of one variable.
func ones(values ...int) [][]int {
	var list [][]int
	for _, n := range values {
		list = append(list, []int{n})
	}
	return list
}

// run returns a run over states of one variable.
func run(values []int, rules ...int) impl.Trace {
	return impl.Trace{States: ones(values...), Rules: rules}
}

// walker returns a system of one variable from 0 to 3 that begins at 0:
// its rules add 1, go back to 0 from all but 3, add 1 to what is below 2, and leave 1 as it is. It is stuck at 3.
func walker() impl.System {
	return impl.System{Vars: vars(impl.Var{High: 3}), Rules: rules(
		ruleOf(sets(0), plus(0, 1)),
		impl.Rule{When: compared(opLess, 0, 3), Sets: sets(0), Terms: makes(terms(num(0)))},
		impl.Rule{When: compared(opLess, 0, 2), Sets: sets(0), Terms: makes(plus(0, 1))},
		impl.Rule{When: compared(opEqual, 0, 1)},
	)}
}

// isRunByHand reports by the words of the document whether that is a run of a system.
func isRunByHand(s impl.System, t impl.Trace) bool {
	if len(t.States) < 1 || len(t.States) > maxTrace || len(t.Rules) != len(t.States)-1 || !slices.Equal(t.States[0], firstValues(s)) {
		return false
	}
	for i, rule := range t.Rules {
		if rule < 0 || rule >= len(s.Rules) {
			return false
		}
		made := stepOf(s, t.States[i], s.Rules[rule])
		if made == nil || !slices.Equal(made, t.States[i+1]) {
			return false
		}
	}
	return true
}

// withoutRoundsByHand seeks each last place anew.
func withoutRoundsByHand(t impl.Trace) impl.Trace {
	short := impl.Trace{States: states(t.States[0])}
	for {
		taken, at := short.States[len(short.States)-1], 0
		for i, state := range t.States {
			if slices.Equal(state, taken) {
				at = i
			}
		}
		if at == len(t.Rules) {
			return short
		}
		short.States = append(short.States, t.States[at+1])
		short.Rules = append(short.Rules, t.Rules[at])
	}
}

// followsByHand reports whether one state of a system follows on another one.
func followsByHand(s impl.System, a []int, b []int) bool {
	stuck := true
	for _, rule := range s.Rules {
		made := stepOf(s, a, rule)
		if made != nil && slices.Equal(made, b) {
			return true
		}
		stuck = stuck && made == nil
	}
	return stuck && slices.Equal(a, b)
}

// isLassoByHand reports whether states of a system are a run for ever of it.
func isLassoByHand(s impl.System, stem [][]int, loop [][]int) bool {
	all := slices.Concat(stem, loop)
	if len(loop) == 0 || len(all) > maxTrace || !slices.Equal(all[0], firstValues(s)) {
		return false
	}
	for i, state := range all[1:] {
		if !followsByHand(s, all[i], state) {
			return false
		}
	}
	return followsByHand(s, loop[len(loop)-1], loop[0])
}

// lassoAtByHand walks to a state of a run for ever.
func lassoAtByHand(stem [][]int, loop [][]int, n int) []int {
	left := stem
	for ; n >= len(left); left = loop {
		n -= len(left)
	}
	return left[n]
}

// sameRunByHand compares two runs for ever until both are where they were before.
func sameRunByHand(stem [][]int, loop [][]int, other [][]int, round [][]int) bool {
	for n := range max(len(stem), len(other)) + len(loop)*len(round) {
		if !slices.Equal(lassoAtByHand(stem, loop, n), lassoAtByHand(other, round, n)) {
			return false
		}
	}
	return true
}

// someRun returns a run of at most so many rules that may be used.
func someRun(r *rand.Rand, s impl.System, many int) impl.Trace {
	at := firstValues(s)
	t := impl.Trace{States: states(at)}
	for range many {
		var usable []int
		for n, rule := range s.Rules {
			if stepOf(s, at, rule) != nil {
				usable = append(usable, n)
			}
		}
		if len(usable) == 0 {
			return t
		}
		rule := usable[r.Intn(len(usable))]
		at = stepOf(s, at, s.Rules[rule])
		t.States, t.Rules = append(t.States, at), append(t.Rules, rule)
	}
	return t
}

// someStateOf returns a state of a system.
func someStateOf(r *rand.Rand, s impl.System) []int {
	return otherwise(r, s, firstValues(s), nil)
}

func wantTrace(t *testing.T, name string, got impl.Trace, want impl.Trace) {
	t.Helper()
	if !slices.EqualFunc(got.States, want.States, slices.Equal) || !slices.Equal(got.Rules, want.Rules) {
		t.Errorf("%s = %v, want %v", name, got, want)
	}
}

func wantReplay(t *testing.T, name string, s impl.System, rules []int, want impl.Trace) {
	t.Helper()
	got, used := impl.Replay(s, rules)
	wantTrace(t, name+": Replay", got, want)
	if used != len(want.Rules) {
		t.Errorf("%s: Replay used %d rules, want %d", name, used, len(want.Rules))
	}
}

// wantRunOver checks the run over states; that there is none if want has no states.
func wantRunOver(t *testing.T, name string, s impl.System, list [][]int, want impl.Trace) {
	t.Helper()
	got, ok := impl.TraceOf(s, list)
	wantTrace(t, name+": TraceOf", got, want)
	if ok != (len(want.States) > 0) {
		t.Errorf("%s: TraceOf = %v, %v", name, got, ok)
	}
}

func wantValid(t *testing.T, name string, s impl.System, x impl.Trace, want bool) {
	t.Helper()
	if got := impl.TraceValid(s, x); got != want {
		t.Errorf("%s: TraceValid(%v) = %v", name, x, got)
	}
}

func wantBetween(t *testing.T, name string, s impl.System, a []int, b []int, want int) {
	t.Helper()
	if got := impl.RuleBetween(s, a, b); got != want {
		t.Errorf("%s: RuleBetween(%v, %v) = %d, want %d", name, a, b, got, want)
	}
}

func wantFollows(t *testing.T, name string, s impl.System, a []int, b []int, want bool) {
	t.Helper()
	if got := impl.Follows(s, a, b); got != want {
		t.Errorf("%s: Follows(%v, %v) = %v", name, a, b, got)
	}
}

func wantLasso(t *testing.T, name string, s impl.System, stem [][]int, loop [][]int, want bool) {
	t.Helper()
	if got := impl.LassoValid(s, stem, loop); got != want {
		t.Errorf("%s: LassoValid(%v, %v) = %v", name, stem, loop, got)
	}
}

// wantSame checks whether two runs for ever are the same, either one first.
func wantSame(t *testing.T, name string, stem [][]int, loop [][]int, other [][]int, round [][]int, want bool) {
	t.Helper()
	if got := impl.SameRun(stem, loop, other, round); got != want {
		t.Errorf("%s: SameRun(%v, %v, %v, %v) = %v", name, stem, loop, other, round, got)
	}
	if got := impl.SameRun(other, round, stem, loop); got != want {
		t.Errorf("%s: SameRun(%v, %v, %v, %v) = %v", name, other, round, stem, loop, got)
	}
}
