package tests

import (
	"fmt"
	"math/rand"
	"slices"
	"strings"
	"testing"

	"loop.example/wholecheck/impl"
)

// allStates returns the states of a system by the first value that differs.
func allStates(s impl.System) [][]int {
	var list [][]int
	eachStateOf(s, func(state []int) { list = append(list, slices.Clone(state)) })
	return list
}

// numbersWhere returns the numbers below an end of which something is so.
func numbersWhere(end int, is func(n int) bool) []int {
	var list []int
	for n := range end {
		if is(n) {
			list = append(list, n)
		}
	}
	return list
}

// firstNumbers returns so many numbers from 0 on.
func firstNumbers(many int) []int {
	return numbersWhere(many, func(int) bool { return true })
}

// someSet returns some of the numbers below an end.
func someSet(r *rand.Rand, end int) []int {
	of := 1 + r.Intn(8)
	return numbersWhere(end, func(int) bool { return r.Intn(of) == 0 })
}

// stepsByHand tells for each state, by numbers, which states come behind it.
func stepsByHand(s impl.System) [][]bool {
	all := allStates(s)
	steps := make([][]bool, len(all))
	for a, state := range all {
		steps[a] = make([]bool, len(all))
		for _, rule := range s.Rules {
			made := stepOf(s, state, rule)
			b := slices.IndexFunc(all, func(other []int) bool { return slices.Equal(made, other) })
			if b >= 0 {
				steps[a][b] = true
			}
		}
	}
	return steps
}

func nextByHand(steps [][]bool, set []int) []int {
	return numbersWhere(len(steps), func(b int) bool {
		return slices.ContainsFunc(set, func(a int) bool { return steps[a][b] })
	})
}

func pastByHand(steps [][]bool, set []int) []int {
	return numbersWhere(len(steps), func(a int) bool {
		return slices.ContainsFunc(set, func(b int) bool { return steps[a][b] })
	})
}

func whereByHand(s impl.System, list []impl.Term) []int {
	all := allStates(s)
	return numbersWhere(len(all), func(n int) bool { return valueByHand(list, len(list)-1, all[n]) == 1 })
}

func setTextByHand(s impl.System, set []int) string {
	all := allStates(s)
	var parts []string
	for _, n := range set {
		var values []string
		for v, value := range all[n] {
			values = append(values, fmt.Sprintf("v%d = %d", v, value))
		}
		parts = append(parts, strings.Join(values, " & "))
	}
	if len(parts) == 0 {
		return "none"
	}
	return strings.Join(parts, " | ")
}

func wantNumberOf(t *testing.T, name string, s impl.System, state []int, want int) {
	t.Helper()
	if n := impl.NumberOf(s, state); n != want {
		t.Errorf("%s: NumberOf(%v) = %d, want %d", name, state, n, want)
	}
}

func wantStateAt(t *testing.T, name string, s impl.System, n int, want ...int) {
	t.Helper()
	if state := impl.StateAt(s, n); !slices.Equal(state, want) {
		t.Errorf("%s: StateAt(%d) = %v, want %v", name, n, state, want)
	}
}

func wantWhere(t *testing.T, name string, s impl.System, list []impl.Term, want ...int) {
	t.Helper()
	wantNumbers(t, name+": StatesWhere", impl.StatesWhere(s, list), want)
}

func wantNextNumbers(t *testing.T, name string, s impl.System, set []int, want ...int) {
	t.Helper()
	wantNumbers(t, fmt.Sprintf("%s: NextNumbers(%v)", name, set), impl.NextNumbers(s, set), want)
}

func wantPastNumbers(t *testing.T, name string, s impl.System, set []int, want ...int) {
	t.Helper()
	wantNumbers(t, fmt.Sprintf("%s: PastNumbers(%v)", name, set), impl.PastNumbers(s, set), want)
}

func wantSetValid(t *testing.T, name string, s impl.System, set []int, want bool) {
	t.Helper()
	if got := impl.SetValid(s, set); got != want {
		t.Errorf("%s: SetValid(%v) = %v", name, set, got)
	}
}

func wantSetText(t *testing.T, name string, s impl.System, set []int, want string) {
	t.Helper()
	if text := impl.SetText(s, set); text != want {
		t.Errorf("%s: SetText(%v) = %q, want %q", name, set, text, want)
	}
}

// wantCombined checks what two lists have in common, what is in one of both, and what is in a alone.
func wantCombined(t *testing.T, a []int, b []int, both []int, either []int, without []int) {
	t.Helper()
	wantNumbers(t, fmt.Sprintf("SetBoth(%v, %v)", a, b), impl.SetBoth(a, b), both)
	wantNumbers(t, fmt.Sprintf("SetEither(%v, %v)", a, b), impl.SetEither(a, b), either)
	wantNumbers(t, fmt.Sprintf("SetWithout(%v, %v)", a, b), impl.SetWithout(a, b), without)
}
