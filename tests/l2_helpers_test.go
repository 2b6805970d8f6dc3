package tests

import (
	"math/rand"
	"slices"
	"testing"

	"loop.example/wholecheck/impl"
)

// The numbers of the document's chapter 2, written out.
const maxRules, maxStates, maxSpan = 8, 400, 20

// always returns a truth that is true in every state.
func always() []impl.Term { return terms(num(0), num(1), of(opLess, 0, 1)) }

// never returns a truth that is true in no state.
func never() []impl.Term { return terms(num(0), num(1), of(opLess, 1, 0)) }

// compared returns the truth of an operation on a variable and a number.
func compared(op int, v int, n int) []impl.Term {
	return terms(variable(v), num(n), of(op, 0, 1))
}

// plus returns the sum of a variable and a number.
func plus(v int, n int) []impl.Term { return compared(opAdd, v, n) }

func sets(variables ...int) []int { return variables }

func makes(lists ...[]impl.Term) [][]impl.Term { return lists }

func rules(list ...impl.Rule) []impl.Rule { return list }

func vars(list ...impl.Var) []impl.Var { return list }

// ruleOf returns a rule that is used always.
func ruleOf(sets []int, terms ...[]impl.Term) impl.Rule {
	return impl.Rule{When: always(), Sets: sets, Terms: terms}
}

// counter returns a system of one variable, and a rule that is used always and adds a number to it.
func counter(low int, high int, first int, by int) impl.System {
	return impl.System{
		Vars:  vars(impl.Var{Low: low, High: high, First: first}),
		Rules: rules(ruleOf(sets(0), plus(0, by))),
	}
}

// pair returns a system of two variables with a rule that counts to 2, one that exchanges both, and one that sets nothing.
func pair() impl.System {
	return impl.System{
		Vars: vars(impl.Var{Low: 0, High: 2, First: 1}, impl.Var{Low: 5, High: 7, First: 6}),
		Rules: rules(
			impl.Rule{When: compared(opLess, 0, 2), Sets: sets(0), Terms: makes(plus(0, 1))},
			ruleOf(sets(0, 1), plus(1, -5), plus(0, 5)),
			impl.Rule{When: compared(opEqual, 0, 0)},
		),
	}
}

// stepOf returns what a rule makes by the words of the document: nil if it may not be used.
func stepOf(s impl.System, state []int, rule impl.Rule) []int {
	if valueByHand(rule.When, len(rule.When)-1, state) != 1 {
		return nil
	}
	made := slices.Clone(state)
	for i, v := range rule.Sets {
		made[v] = valueByHand(rule.Terms[i], len(rule.Terms[i])-1, state)
	}
	for i, v := range s.Vars {
		if made[i] < v.Low || made[i] > v.High {
			return nil
		}
	}
	return made
}

// eachStateOf calls a function with each state of a system, in order.
func eachStateOf(s impl.System, look func(state []int)) {
	var low, high []int
	for _, v := range s.Vars {
		low, high = append(low, v.Low), append(high, v.High)
	}
	eachState(low, high, look)
}

// someVars returns variables that have at most so many states together.
func someVars(r *rand.Rand, states int) []impl.Var {
	var list []impl.Var
	for range 1 + r.Intn(maxVars) {
		span := 1 + r.Intn(min(maxSpan, states))
		if r.Intn(2) == 0 {
			span = 1 + r.Intn(min(4, states))
		}
		states /= span
		low := r.Intn(7) - 3
		switch r.Intn(12) {
		case 0:
			low = -maxNumber
		case 1:
			low = maxNumber - span + 1
		}
		list = append(list, impl.Var{Low: low, High: low + span - 1, First: low + r.Intn(span)})
	}
	return list
}

// someOfKind returns an expression of a kind.
func someOfKind(r *rand.Rand, vars int, kind int) []impl.Term {
	for {
		list := someTerms(r, 1+r.Intn(12), vars)
		if (list[len(list)-1].Op >= opLess) == (kind == kindTruth) {
			return list
		}
	}
}

// someWhen returns a truth that is often true.
func someWhen(r *rand.Rand, vars []impl.Var) []impl.Term {
	v := r.Intn(len(vars))
	near := vars[v].Low + r.Intn(vars[v].High-vars[v].Low+1)
	switch r.Intn(5) {
	case 0:
		return always()
	case 1:
		return compared(opLess, v, near)
	case 2:
		return append(compared(opLess, v, near), not(2))
	case 3:
		return compared(opEqual, v, near)
	}
	return someOfKind(r, len(vars), kindTruth)
}

// someMaking returns a number that is often a value of a variable.
func someMaking(r *rand.Rand, vars []impl.Var, v int) []impl.Term {
	other := r.Intn(len(vars))
	switch r.Intn(6) {
	case 0, 1:
		return plus(v, r.Intn(5)-2)
	case 2:
		return terms(num(vars[v].Low + r.Intn(vars[v].High-vars[v].Low+1)))
	case 3:
		return plus(other, heldByHand(vars[v].Low-vars[other].Low))
	case 4:
		return terms(num(vars[v].High), variable(v), of(opSub, 0, 1), num(vars[v].Low), of(opAdd, 2, 3))
	}
	return someOfKind(r, len(vars), kindNumber)
}

func someRule(r *rand.Rand, vars []impl.Var) impl.Rule {
	rule := impl.Rule{When: someWhen(r, vars)}
	for v := range vars {
		if r.Intn(len(vars)) == 0 {
			rule.Sets = append(rule.Sets, v)
			rule.Terms = append(rule.Terms, someMaking(r, vars, v))
		}
	}
	return rule
}

// someSystem returns a system of at most so many states.
func someSystem(r *rand.Rand, states int) impl.System {
	s := impl.System{Vars: someVars(r, states)}
	for range r.Intn(maxRules + 1) {
		s.Rules = append(s.Rules, someRule(r, s.Vars))
	}
	return s
}

func wantStates(t *testing.T, name string, got [][]int, want ...[]int) {
	t.Helper()
	if !slices.EqualFunc(got, want, slices.Equal) {
		t.Errorf("%s = %v, want %v", name, got, want)
	}
}

// wantUse checks what a rule makes of a state; of nothing if it may not be used.
func wantUse(t *testing.T, name string, s impl.System, state []int, rule int, want ...int) {
	t.Helper()
	made, ok := impl.Use(s, state, rule)
	if !slices.Equal(made, want) || ok != (len(want) > 0) {
		t.Errorf("%s: Use(%v, %v, %d) = %v, %v, want %v", name, s, state, rule, made, ok, want)
	}
}

func wantNext(t *testing.T, name string, s impl.System, state []int, want ...[]int) {
	t.Helper()
	wantStates(t, name+": NextStates", impl.NextStates(s, state), want...)
	if stuck := impl.StuckIn(s, state); stuck != (len(want) == 0) {
		t.Errorf("%s: StuckIn(%v, %v) = %v, and behind it come %v", name, s, state, stuck, want)
	}
}

func wantTouched(t *testing.T, name string, s impl.System, rule int, sets []int, used []int) {
	t.Helper()
	a, b := impl.TouchedBy(s, rule)
	wantNumbers(t, name+": the first of TouchedBy", a, sets)
	wantNumbers(t, name+": the second of TouchedBy", b, used)
}
