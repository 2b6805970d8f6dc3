package tests

import (
	"slices"
	"strconv"
	"testing"

	"loop.example/wholecheck/impl"
)

type noSystem struct {
	name string
	s    impl.System
	// state lies between Low and High of all variables, if there is such a state.
	state []int
}

// withVar returns a system in which one variable is another one.
func withVar(s impl.System, v int, is impl.Var) impl.System {
	s.Vars = slices.Clone(s.Vars)
	s.Vars[v] = is
	return s
}

// withRule returns a system in which one rule is another one.
func withRule(s impl.System, n int, is impl.Rule) impl.System {
	s.Rules = slices.Clone(s.Rules)
	s.Rules[n] = is
	return s
}

// noVariables returns what can't be a variable.
func noVariables() []impl.Var {
	return vars(
		impl.Var{Low: 1, High: 0, First: 0},
		impl.Var{Low: 1, High: 0, First: 1},
		impl.Var{Low: 5, High: -5, First: 0},
		impl.Var{Low: 0, High: maxSpan, First: 0},
		impl.Var{Low: -10, High: 10, First: 0},
		impl.Var{Low: 0, High: 399, First: 0},
		impl.Var{Low: 0, High: greatest, First: 0},
		impl.Var{Low: -maxNumber, High: maxNumber, First: 0},
		impl.Var{Low: least, High: greatest, First: 0},
		impl.Var{Low: least, High: least, First: least},
		impl.Var{Low: greatest, High: greatest, First: greatest},
		impl.Var{Low: greatest, High: least, First: 0},
		impl.Var{Low: greatest - 3, High: least + 3, First: greatest},
		impl.Var{Low: maxNumber, High: maxNumber + 1, First: maxNumber},
		impl.Var{Low: -maxNumber - 1, High: -maxNumber, First: -maxNumber},
		impl.Var{Low: maxNumber + 1, High: maxNumber + 1, First: maxNumber + 1},
		impl.Var{Low: -maxNumber - 1, High: -maxNumber - 1, First: -maxNumber - 1},
		impl.Var{Low: 0, High: 2, First: 3},
		impl.Var{Low: 0, High: 2, First: -1},
		impl.Var{Low: 0, High: 2, First: greatest},
		impl.Var{Low: 0, High: 2, First: least},
		impl.Var{Low: 1, High: 1, First: 0},
	)
}

// noRules returns what can't be a rule over two variables.
func noRules() []impl.Rule {
	one, two := terms(num(1)), makes(terms(num(1)), terms(num(6)))
	list := rules(
		impl.Rule{When: always(), Sets: sets(1, 0), Terms: two},
		impl.Rule{When: always(), Sets: sets(0, 0), Terms: two},
		impl.Rule{When: always(), Sets: sets(1, 1), Terms: two},
		impl.Rule{When: always(), Sets: sets(-1), Terms: makes(one)},
		impl.Rule{When: always(), Sets: sets(2), Terms: makes(one)},
		impl.Rule{When: always(), Sets: sets(0, 2), Terms: two},
		impl.Rule{When: always(), Sets: sets(-1, 0), Terms: two},
		impl.Rule{When: always(), Sets: sets(greatest), Terms: makes(one)},
		impl.Rule{When: always(), Sets: sets(least), Terms: makes(one)},
		impl.Rule{When: always(), Sets: sets(0, greatest), Terms: two},
		impl.Rule{When: always(), Sets: sets(0, 1, 1), Terms: append(two, one)},
		impl.Rule{When: always(), Sets: sets(0, 1), Terms: makes(one)},
		impl.Rule{When: always(), Sets: sets(0), Terms: two},
		impl.Rule{When: always(), Sets: sets(0)},
		impl.Rule{When: always(), Terms: makes(one)},
		impl.Rule{When: always(), Sets: sets(0), Terms: makes(nil)},
		impl.Rule{When: always(), Sets: sets(0), Terms: makes(always())},
		impl.Rule{When: always(), Sets: sets(0, 1), Terms: makes(one, always())},
		impl.Rule{When: one},
		impl.Rule{When: terms(variable(0))},
		impl.Rule{},
	)
	for _, c := range noExpressions() {
		if c.vars == 2 {
			list = append(list,
				impl.Rule{When: c.list},
				impl.Rule{When: always(), Sets: sets(0), Terms: makes(c.list)},
				impl.Rule{When: always(), Sets: sets(0, 1), Terms: makes(one, c.list)},
				impl.Rule{When: always(), Sets: sets(0, 1), Terms: makes(c.list, one)},
			)
		}
	}
	return list
}

// tooGreat returns systems that have too much of something.
func tooGreat() []noSystem {
	several := slices.Repeat(vars(impl.Var{}), maxVars+1)
	full := pair()
	full.Rules = slices.Repeat(rules(ruleOf(nil)), maxRules+1)
	list := []noSystem{
		{"no variables", impl.System{}, nil},
		{"no variables, and a rule", impl.System{Rules: rules(ruleOf(nil))}, nil},
		{"six variables", impl.System{Vars: several}, make([]int, 6)},
		{"a hundred variables", impl.System{Vars: slices.Repeat(several, 20)}, make([]int, 120)},
		{"nine rules", full, []int{1, 6}},
	}
	for _, many := range [][]int{{20, 20, 2}, {5, 9, 9}, {2, 20, 20}, {20, 2, 20}, {3, 7, 20}, {4, 4, 4, 4, 4}, {20, 20, 20, 20, 20}, {1, 20, 1, 7, 3}} {
		s := spans(many...)
		s.Rules = rules(ruleOf(sets(0), terms(num(0))), impl.Rule{When: never()})
		list = append(list, noSystem{"too many states", s, firstValues(s)}, noSystem{"too many states and no rules", impl.System{Vars: s.Vars}, firstValues(s)})
	}
	return list
}

// firstValues returns the first values of whatever variables.
func firstValues(s impl.System) []int {
	var first []int
	for _, v := range s.Vars {
		first = append(first, v.First)
	}
	return first
}

// noSystems returns what can't be a system, one for each way to be none.
func noSystems() []noSystem {
	list := tooGreat()
	for i, v := range noVariables() {
		name := "no variable " + strconv.Itoa(i)
		list = append(list,
			noSystem{name, impl.System{Vars: vars(v)}, []int{v.Low}},
			noSystem{name + " behind", withVar(pair(), 1, v), []int{1, v.First}},
			noSystem{name + " ahead", withVar(pair(), 0, v), []int{v.High, 6}},
		)
	}
	for i, r := range noRules() {
		name := "no rule " + strconv.Itoa(i)
		stuck := impl.System{Vars: pair().Vars, Rules: rules(impl.Rule{When: never()}, r)}
		list = append(list,
			noSystem{name, withRule(pair(), 0, r), []int{1, 6}},
			noSystem{name + " behind", withRule(pair(), 2, r), []int{0, 6}},
			noSystem{name + " behind one that is never used", stuck, []int{1, 6}},
		)
	}
	return list
}

func TestNoSystem(t *testing.T) {
	for _, c := range noSystems() {
		if impl.SystemValid(c.s) || impl.SizeOf(c.s) != 0 {
			t.Errorf("%s: SystemValid = %v, SizeOf = %d", c.name, impl.SystemValid(c.s), impl.SizeOf(c.s))
		}
		wantNumbers(t, c.name+": FirstState", impl.FirstState(c.s), nil)
		for _, state := range [][]int{c.state, firstValues(c.s), {1, 6}, {0}, nil} {
			wantNoState(t, c.name, c.s, state)
		}
		for n := -1; n <= maxRules+1; n++ {
			wantTouched(t, c.name, c.s, n, nil, nil)
		}
	}
}

// wantNoState checks that numbers are no state of whatever system.
func wantNoState(t *testing.T, name string, s impl.System, state []int) {
	t.Helper()
	if impl.InRange(s, state) || impl.StuckIn(s, state) {
		t.Errorf("%s: InRange(%v) = %v, StuckIn = %v", name, state, impl.InRange(s, state), impl.StuckIn(s, state))
	}
	for n := -1; n <= maxRules+1; n++ {
		wantUse(t, name, s, state, n)
	}
	wantNumbers(t, name+": UsableIn", impl.UsableIn(s, state), nil)
	wantStates(t, name+": NextStates", impl.NextStates(s, state))
}

func TestNoState(t *testing.T) {
	stuck := impl.System{Vars: pair().Vars}
	moving := impl.System{Vars: pair().Vars, Rules: rules(ruleOf(nil), ruleOf(sets(0, 1), terms(num(1)), terms(num(6))))}
	for _, state := range [][]int{
		nil, {}, {1}, {6}, {1, 6, 0}, {1, 6, 1, 6, 1}, {1, 6, 1, 6, 1, 6}, make([]int, 1000),
		{-1, 6}, {3, 6}, {1, 4}, {1, 8}, {6, 1}, {greatest, 6}, {1, greatest}, {least, 6}, {1, least}, {10000, 6}, {1, -10000},
	} {
		wantNoState(t, "without rules", stuck, state)
		wantNoState(t, "with rules", moving, state)
	}
}

func TestNoSuchRule(t *testing.T) {
	s := pair()
	s.Rules = append(s.Rules, ruleOf(sets(0), plus(0, 0)))
	for _, n := range []int{-1, -2, 4, 5, 7, 8, 9, 400, greatest, least} {
		wantUse(t, "no such rule", s, []int{1, 6}, n)
		wantTouched(t, "no such rule", s, n, nil, nil)
	}
	wantUse(t, "the last rule", s, []int{1, 6}, 3, 1, 6)
	wantTouched(t, "the last rule", s, 3, []int{0}, []int{0})
}

// roomy returns a system with other values in the memory beyond each of its lists, and all these lists with that memory.
func roomy() (impl.System, [][]int, [][]impl.Term) {
	var numbers [][]int
	var lists [][]impl.Term
	s := pair()
	for i, r := range s.Rules {
		whole := append(slices.Clone(r.Sets), 77, 77, 77, 77, 77, 77)
		s.Rules[i].Sets = whole[:len(r.Sets)]
		numbers = append(numbers, whole)
		var all []impl.Term
		s.Rules[i].When, all = withRoom(r.When)
		lists = append(lists, all)
		for k, list := range r.Terms {
			s.Rules[i].Terms[k], all = withRoom(list)
			lists = append(lists, all)
		}
	}
	return s, numbers, lists
}

func TestArgumentsOfSystemsStay(t *testing.T) {
	s, numbers, lists := roomy()
	s.Vars = append(s.Vars, impl.Var{First: 77})[:2]
	s.Rules = append(s.Rules, impl.Rule{Sets: sets(77)})[:3]
	whole := []int{0, 7, 77, 77, 77, 77, 77}
	state := whole[:2]
	for n := range s.Rules {
		impl.Use(s, state, n)
		impl.TouchedBy(s, n)
	}
	impl.SystemValid(s)
	impl.FirstState(s)
	impl.InRange(s, state)
	impl.UsableIn(s, state)
	impl.NextStates(s, state)
	impl.StuckIn(s, state)
	impl.SizeOf(s)
	wantNumbers(t, "the state", whole, []int{0, 7, 77, 77, 77, 77, 77})
	_, numbersBefore, listsBefore := roomy()
	wantStates(t, "the lists of variables", numbers, numbersBefore...)
	if !slices.EqualFunc(lists, listsBefore, slices.Equal) {
		t.Errorf("expressions = %v, want %v", lists, listsBefore)
	}
	if !slices.Equal(s.Vars[:3], append(pair().Vars, impl.Var{First: 77})) || s.Rules[:4][3].Sets[0] != 77 {
		t.Error("the lists of the system have changed")
	}
}

func TestResultsOfSystemsAreNewMemory(t *testing.T) {
	s, state := pair(), []int{0, 7}
	for range 2 {
		first := impl.FirstState(s)
		wantNumbers(t, "FirstState", first, []int{1, 6})
		scribble(first, 99)
		for n := range s.Rules {
			made, _ := impl.Use(s, state, n)
			scribble(made, 98)
			changed, used := impl.TouchedBy(s, n)
			scribble(changed, 97)
			wantNumbers(t, "what a rule uses", used, [][]int{{0}, {0, 1}, {0}}[n])
			scribble(used, 96)
			wantTouched(t, "afterwards", s, n, [][]int{{0}, {0, 1}, nil}[n], [][]int{{0}, {0, 1}, {0}}[n])
		}
		scribble(impl.UsableIn(s, state), 95)
		wantNumbers(t, "the state", state, []int{0, 7})
		wantNext(t, "afterwards", s, state, []int{0, 7}, []int{1, 7}, []int{2, 5})
	}
}

// No two states of one result share memory, not even what is unused.
func TestNextStatesShareNoMemory(t *testing.T) {
	s, state := pair(), []int{0, 7}
	want := [][]int{{0, 7}, {1, 7}, {2, 5}}
	for i := range want {
		next := impl.NextStates(s, state)
		scribble(next[i], 99)
		for k := range next {
			if k != i {
				wantNumbers(t, "another state", next[k], want[k])
			}
		}
		wantNumbers(t, "the state", state, []int{0, 7})
	}
	next := impl.NextStates(s, state)
	scribble(next, []int{1, 1})
	wantNext(t, "afterwards", s, state, want...)
}
