package tests

import (
	"slices"
	"testing"

	"loop.example/wholecheck/impl"
)

// wantNoRuns checks what each function tells of what is no system, or of states that are none of it.
func wantNoRuns(t *testing.T, name string, s impl.System, state []int) {
	t.Helper()
	for _, x := range []impl.Trace{
		{}, {States: states(state)}, {States: states(state, state), Rules: []int{0}}, {States: states(state, state), Rules: []int{1}}, {Rules: []int{0}},
	} {
		wantValid(t, name, s, x, false)
		wantTrace(t, name+": WithoutRounds", impl.WithoutRounds(s, x), impl.Trace{})
		wantRunOver(t, name, s, x.States, impl.Trace{})
	}
	wantBetween(t, name, s, state, state, -1)
	wantFollows(t, name, s, state, state, false)
	wantLasso(t, name, s, nil, states(state), false)
	wantLasso(t, name, s, states(state), states(state), false)
	wantLasso(t, name, s, nil, nil, false)
}

func TestNoRunsOfNoSystem(t *testing.T) {
	for _, c := range noSystems() {
		for _, state := range [][]int{c.state, firstValues(c.s), {1, 6}, {0}, nil} {
			wantNoRuns(t, c.name, c.s, state)
		}
		for _, order := range [][]int{nil, {0}, {1}, {2}, {-1}, {8}} {
			wantReplay(t, c.name, c.s, order, impl.Trace{})
		}
	}
}

// stayer returns a system of two variables, each state of which comes behind itself by each of eight rules.
func stayer() impl.System {
	return impl.System{Vars: pair().Vars, Rules: slices.Repeat(rules(ruleOf(nil)), maxRules)}
}

func noStates() [][]int {
	return [][]int{
		nil, {}, {1}, {6}, {1, 6, 0}, {1, 6, 1, 6, 1}, {1, 6, 1, 6, 1, 6}, make([]int, 1000),
		{-1, 6}, {3, 6}, {1, 4}, {1, 8}, {6, 1}, {greatest, 6}, {1, greatest}, {least, 6}, {1, least}, {10000, 6},
	}
}

func TestNoRunsOfNoState(t *testing.T) {
	for _, s := range []impl.System{stayer(), {Vars: pair().Vars}, pair()} {
		for _, none := range noStates() {
			wantNoRuns(t, "no state", s, none)
			wantBetween(t, "from a state", s, []int{1, 6}, none, -1)
			wantBetween(t, "to a state", s, none, []int{1, 6}, -1)
			wantFollows(t, "from a state", s, []int{1, 6}, none, false)
			wantFollows(t, "to a state", s, none, []int{1, 6}, false)
			first := []int{1, 6}
			wantRunOver(t, "behind the first one", s, states(first, none), impl.Trace{})
			wantRunOver(t, "ahead of the first one", s, states(none, first), impl.Trace{})
			wantValid(t, "behind the first one", s, impl.Trace{States: states(first, none), Rules: []int{0}}, false)
			wantLasso(t, "in the loop", s, states(first), states(none), false)
			wantLasso(t, "in the stem", s, states(first, none), states(first), false)
			wantLasso(t, "ahead of all", s, states(none), states(first), false)
			wantLasso(t, "at the end of the loop", s, states(first), states(first, none), false)
		}
	}
}

func TestNoRuns(t *testing.T) {
	s := walker()
	for _, c := range []struct {
		name string
		x    impl.Trace
	}{
		{"no state", impl.Trace{}},
		{"no state in other slices", impl.Trace{States: [][]int{}, Rules: []int{}}},
		{"no state and a rule", run(nil, 0)},
		{"another first state", run([]int{1})},
		{"another first state, and a rule to it", run([]int{1, 1}, 3)},
		{"another first state, from which the rule leads on", run([]int{1, 2}, 0)},
		{"too many rules", run([]int{0}, 0)},
		{"too many rules, the last of which is none", run([]int{0, 1}, 0, 4)},
		{"too many rules, the last of which may not be used", run([]int{0, 1, 2, 3}, 0, 0, 0, 0)},
		{"too few rules", run([]int{0, 1})},
		{"too few rules by one", run([]int{0, 1, 2}, 0)},
		{"a rule below 0", run([]int{0, 1}, -1)},
		{"a rule past the end", run([]int{0, 1}, 4)},
		{"the greatest number of a rule", run([]int{0, 1}, greatest)},
		{"the least number of a rule", run([]int{0, 1}, least)},
		{"a rule whose truth is false", run([]int{0, 0}, 3)},
		{"a rule that leaves the range", run([]int{0, 1, 2, 3, 4}, 0, 0, 0, 0)},
		{"a rule that leaves the range and stays", run([]int{0, 1, 2, 3, 3}, 0, 0, 0, 0)},
		{"a rule that makes another state", run([]int{0, 2}, 0)},
		{"a rule that makes another state at the end", run([]int{0, 1, 2, 1}, 0, 0, 1)},
		{"a rule in the middle", run([]int{0, 1, 0, 1}, 0, 0, 0)},
		{"a state of another length", impl.Trace{States: states([]int{0}, []int{1, 1}), Rules: []int{0}}},
		{"a first state of another length", impl.Trace{States: states([]int{0, 0}, []int{1}), Rules: []int{0}}},
		{"an empty state", impl.Trace{States: states([]int{0}, nil), Rules: []int{0}}},
		{"500 rules", impl.Trace{States: slices.Repeat(ones(0), 501), Rules: slices.Repeat([]int{1}, 500)}},
		{"500 states and 500 rules", impl.Trace{States: slices.Repeat(ones(0), 500), Rules: slices.Repeat([]int{1}, 500)}},
		{"501 states and 499 rules", impl.Trace{States: slices.Repeat(ones(0), 501), Rules: slices.Repeat([]int{1}, 499)}},
	} {
		wantValid(t, c.name, s, c.x, false)
		wantTrace(t, c.name+": WithoutRounds", impl.WithoutRounds(s, c.x), impl.Trace{})
	}
	wantRunOver(t, "no states", s, nil, impl.Trace{})
	wantRunOver(t, "no states", s, [][]int{}, impl.Trace{})
}

func TestNoRunForEver(t *testing.T) {
	full := slices.Repeat(ones(0), maxTrace)
	for _, c := range []struct {
		name       string
		stem, loop [][]int
	}{
		{"both are empty", nil, nil},
		{"other empty slices", [][]int{}, [][]int{}},
		{"the loop is empty", ones(0), nil},
		{"the loop is empty", full, [][]int{}},
		{"one too many", ones(0), full},
		{"one too many", full, ones(0)},
		{"far too many", nil, slices.Repeat(full, 10)},
		{"far too many", slices.Repeat(full, 10), ones(0)},
	} {
		for _, n := range []int{0, 1, 500, 501, -1, greatest, least} {
			wantNumbers(t, c.name+": LassoAt", impl.LassoAt(c.stem, c.loop, n), nil)
		}
		wantSame(t, c.name, c.stem, c.loop, c.stem, c.loop, false)
		wantSame(t, c.name, c.stem, c.loop, nil, ones(0), false)
		wantLasso(t, c.name, walker(), c.stem, c.loop, false)
	}
	for _, n := range []int{-1, -2, -500, least, least + 1} {
		wantNumbers(t, "a number below 0", impl.LassoAt(ones(1, 2), ones(3), n), nil)
		wantNumbers(t, "a number below 0", impl.LassoAt(nil, ones(3, 4), n), nil)
	}
}

// roomyStates returns states with other values in the memory beyond each list, and all that memory.
func roomyStates(list [][]int) ([][]int, [][]int) {
	var part, whole [][]int
	for _, state := range list {
		all := append(slices.Clone(state), 77, 77, 77, 77, 77, 77)
		part, whole = append(part, all[:len(state)]), append(whole, all)
	}
	return append(part, []int{76}, []int{76})[:len(list)], whole
}

func TestArgumentsOfRunsStay(t *testing.T) {
	s, numbers, lists := roomy()
	list := states([]int{1, 6}, []int{1, 6}, []int{2, 6}, []int{1, 7}, []int{2, 7}, []int{2, 7})
	all, whole := roomyStates(list)
	_, before := roomyStates(list)
	order := []int{1, 0, 1, 0, 1, 77, 77, 77}
	x := impl.Trace{States: all, Rules: order[:5]}
	impl.TraceValid(s, x)
	impl.Replay(s, x.Rules)
	impl.RuleBetween(s, all[0], all[1])
	impl.TraceOf(s, all)
	impl.WithoutRounds(s, x)
	impl.Follows(s, all[0], all[1])
	impl.LassoValid(s, all[:5], all[5:])
	impl.LassoAt(all[:5], all[5:], 5)
	impl.SameRun(all[:5], all[5:], all[:4], all[4:])
	wantStates(t, "the states", whole, before...)
	wantStates(t, "what is beyond the states", all[:8][6:], []int{76}, []int{76})
	wantNumbers(t, "the rules", order, []int{1, 0, 1, 0, 1, 77, 77, 77})
	_, numbersBefore, listsBefore := roomy()
	wantStates(t, "the lists of variables", numbers, numbersBefore...)
	if !slices.EqualFunc(lists, listsBefore, slices.Equal) {
		t.Errorf("expressions = %v, want %v", lists, listsBefore)
	}
}

// scribbleRun writes over all of the memory of a run.
func scribbleRun(x impl.Trace) {
	for _, state := range x.States {
		scribble(state, 99)
	}
	scribble(x.States, []int{98})
	scribble(x.Rules, 97)
}

func TestResultsOfRunsAreNewMemory(t *testing.T) {
	s, order := walker(), []int{0, 1, 0, 0}
	x := run([]int{0, 1, 0, 1, 2}, order...)
	short := run([]int{0, 1, 2}, 0, 0)
	for range 2 {
		got, _ := impl.Replay(s, order)
		scribbleRun(got)
		wantReplay(t, "afterwards", s, order, x)
		got, _ = impl.TraceOf(s, x.States)
		scribbleRun(got)
		wantRunOver(t, "afterwards", s, x.States, x)
		scribbleRun(impl.WithoutRounds(s, x))
		wantTrace(t, "WithoutRounds", impl.WithoutRounds(s, x), short)
		scribbleRun(impl.WithoutRounds(s, short))
		wantTrace(t, "what has no rounds", impl.WithoutRounds(s, short), short)
		scribble(impl.LassoAt(x.States[:2], x.States[2:], 1), 96)
		scribble(impl.LassoAt(x.States[:2], x.States[2:], 9), 95)
		wantTrace(t, "the argument", x, run([]int{0, 1, 0, 1, 2}, 0, 1, 0, 0))
	}
}

// No two states of one run share memory, not even what is unused.
func TestStatesOfRunsShareNoMemory(t *testing.T) {
	s, order := walker(), []int{1, 1, 0, 3, 3, 0, 0}
	values := []int{0, 0, 0, 1, 1, 1, 2, 3}
	for i := range values {
		a, _ := impl.Replay(s, order)
		b, _ := impl.TraceOf(s, ones(values...))
		for _, x := range []impl.Trace{a, b} {
			scribble(x.States[i], 99)
			for k := range values {
				if k != i {
					wantNumbers(t, "another state", x.States[k], []int{values[k]})
				}
			}
		}
	}
	for i := range 4 {
		x := impl.WithoutRounds(s, impl.Trace{States: ones(values...), Rules: order})
		scribble(x.States[i], 99)
		for k := range 4 {
			if k != i {
				wantNumbers(t, "another state", x.States[k], []int{k})
			}
		}
	}
}
