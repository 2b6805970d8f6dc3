package tests

import (
	"math/rand"
	"slices"
	"strconv"
	"testing"

	"loop.example/wholecheck/impl"
)

func TestLimitsOfSystems(t *testing.T) {
	if impl.MaxRules != maxRules || impl.MaxStates != maxStates || impl.MaxSpan != maxSpan {
		t.Error("MaxRules, MaxStates or MaxSpan is not what the document says")
	}
}

func TestExampleOfSystems(t *testing.T) {
	s := counter(0, 2, 0, 1)
	wantNext(t, "the example", s, []int{0}, []int{1})
	wantNext(t, "the example", s, []int{1}, []int{2})
	wantNext(t, "the example", s, []int{2})
	wantUse(t, "the example", s, []int{1}, 0, 2)
	wantUse(t, "3 is no value", s, []int{2}, 0)
	wantNumbers(t, "UsableIn", impl.UsableIn(s, []int{1}), []int{0})
	wantNumbers(t, "UsableIn of the stuck one", impl.UsableIn(s, []int{2}), nil)
	wantNumbers(t, "FirstState", impl.FirstState(s), []int{0})
	wantTouched(t, "the example", s, 0, []int{0}, []int{0})
}

type sizedSystem struct {
	name  string
	s     impl.System
	size  int
	first []int
}

func oneVar(low int, high int, first int) impl.System {
	return impl.System{Vars: vars(impl.Var{Low: low, High: high, First: first})}
}

// spans returns a system whose variables have so many values, each with its greatest as the first one.
func spans(many ...int) impl.System {
	var s impl.System
	for i, n := range many {
		s.Vars = append(s.Vars, impl.Var{Low: -i, High: n - 1 - i, First: n - 1 - i})
	}
	return s
}

// sizedSystems returns systems at the limits.
func sizedSystems() []sizedSystem {
	full := oneVar(3, 4, 4)
	full.Rules = slices.Repeat(rules(impl.Rule{When: never()}), maxRules)
	long := oneVar(0, 1, 1)
	long.Rules = rules(impl.Rule{When: append(constants(maxTerms-1), of(opLess, 0, 1)), Sets: sets(0), Terms: makes(constants(maxTerms))})
	all := spans(1, 2, 3, 2, 1)
	all.Rules = rules(ruleOf(sets(0, 1, 2, 3, 4), plus(0, 0), plus(1, 0), plus(2, 0), plus(3, 0), plus(4, 0)))
	return []sizedSystem{
		{"one value", oneVar(0, 0, 0), 1, []int{0}},
		{"the least numbers", oneVar(-9999, -9980, -9999), 20, []int{-9999}},
		{"the greatest numbers", oneVar(9980, 9999, 9999), 20, []int{9999}},
		{"around 0", oneVar(-10, 9, -4), 20, []int{-4}},
		{"no rules", impl.System{Vars: pair().Vars}, 9, []int{1, 6}},
		{"two variables", pair(), 9, []int{1, 6}},
		{"eight rules", full, 2, []int{4}},
		{"long expressions", long, 2, []int{1}},
		{"five variables", all, 12, []int{0, 0, 0, -2, -4}},
		{"400 states of two", spans(20, 20), 400, []int{19, 18}},
		{"400 states of three", spans(4, 5, 20), 400, []int{3, 3, 17}},
		{"400 states of five", spans(5, 5, 2, 2, 4), 400, []int{4, 3, -1, -2, -1}},
		{"400 states and one value", spans(20, 1, 20), 400, []int{19, -1, 17}},
		{"399 states", spans(19, 7, 3), 399, []int{18, 5, 0}},
	}
}

func TestSystemsAtTheLimits(t *testing.T) {
	for _, c := range sizedSystems() {
		if !impl.SystemValid(c.s) {
			t.Errorf("%s: SystemValid = false", c.name)
		}
		if n := impl.SizeOf(c.s); n != c.size {
			t.Errorf("%s: SizeOf = %d, want %d", c.name, n, c.size)
		}
		wantNumbers(t, c.name+": FirstState", impl.FirstState(c.s), c.first)
		if !impl.InRange(c.s, c.first) {
			t.Errorf("%s: the first state is not in range", c.name)
		}
	}
}

// The states are as many as SizeOf tells, and those around them are none.
func TestInRangeOfEachVariable(t *testing.T) {
	for _, c := range sizedSystems() {
		many := 0
		eachStateOf(c.s, func(state []int) {
			if !impl.InRange(c.s, state) {
				t.Errorf("%s: InRange(%v) = false", c.name, state)
			}
			many++
		})
		if many != c.size {
			t.Errorf("%s: %d states, want %d", c.name, many, c.size)
		}
		for i, v := range c.s.Vars {
			for _, n := range []int{v.Low - 1, v.High + 1, greatest, least} {
				state := slices.Clone(c.first)
				state[i] = n
				if impl.InRange(c.s, state) {
					t.Errorf("%s: InRange(%v) = true", c.name, state)
				}
			}
		}
	}
}

func TestUseOfTwoVariables(t *testing.T) {
	s := pair()
	wantUse(t, "one more", s, []int{0, 7}, 0, 1, 7)
	wantUse(t, "one more", s, []int{1, 5}, 0, 2, 5)
	wantUse(t, "When is false", s, []int{2, 5}, 0)
	wantUse(t, "both from the old state", s, []int{0, 7}, 1, 2, 5)
	wantUse(t, "both from the old state", s, []int{1, 5}, 1, 0, 6)
	wantUse(t, "it sets nothing", s, []int{0, 6}, 2, 0, 6)
	wantUse(t, "it sets nothing, and When is false", s, []int{1, 6}, 2)
	wantNumbers(t, "UsableIn", impl.UsableIn(s, []int{0, 6}), []int{0, 1, 2})
	wantNumbers(t, "UsableIn", impl.UsableIn(s, []int{1, 6}), []int{0, 1})
	wantNumbers(t, "UsableIn", impl.UsableIn(s, []int{2, 6}), []int{1})
	wantNext(t, "two variables", s, []int{0, 7}, []int{0, 7}, []int{1, 7}, []int{2, 5})
	wantNext(t, "two variables", s, []int{1, 6}, []int{1, 6}, []int{2, 6})
	wantNext(t, "two variables", s, []int{2, 5}, []int{0, 7})
}

// Which rules may be used is told by their numbers, not by how many there are.
func TestUsableInSkipsRules(t *testing.T) {
	s := oneVar(0, 3, 1)
	for n := range maxRules {
		s.Rules = append(s.Rules, impl.Rule{When: compared(opEqual, 0, n%3)})
	}
	wantNumbers(t, "UsableIn", impl.UsableIn(s, []int{0}), []int{0, 3, 6})
	wantNumbers(t, "UsableIn", impl.UsableIn(s, []int{1}), []int{1, 4, 7})
	wantNumbers(t, "UsableIn", impl.UsableIn(s, []int{2}), []int{2, 5})
	wantNumbers(t, "UsableIn", impl.UsableIn(s, []int{3}), nil)
	wantUse(t, "the last rule", s, []int{1}, 7, 1)
	wantNext(t, "none", s, []int{3})
}

func TestValuesThatLeaveTheirRange(t *testing.T) {
	down, far := counter(-2, 2, 0, -1), counter(9998, 9999, 9998, 9999)
	wantUse(t, "to the least", down, []int{-1}, 0, -2)
	wantUse(t, "below the least", down, []int{-2}, 0)
	wantUse(t, "to the greatest", counter(-2, 2, 0, 1), []int{1}, 0, 2)
	wantUse(t, "above the greatest", counter(-2, 2, 0, 1), []int{2}, 0)
	wantUse(t, "far above", counter(-2, 2, 0, 9999), []int{2}, 0)
	wantUse(t, "a sum that is held to a value", far, []int{9998}, 0, 9999)
	wantUse(t, "a sum that is held to itself", far, []int{9999}, 0, 9999)
	wantNext(t, "below the least", down, []int{-2})
}

// A rule may not be used if one of several values leaves its range, and nothing of it is made.
func TestOneOfTwoValuesLeavesItsRange(t *testing.T) {
	s := impl.System{Vars: vars(impl.Var{Low: 0, High: 3}, impl.Var{Low: 0, High: 3})}
	s.Rules = rules(ruleOf(sets(0, 1), plus(0, 1), plus(1, -1)))
	wantUse(t, "both stay", s, []int{2, 1}, 0, 3, 0)
	wantUse(t, "the first one leaves", s, []int{3, 1}, 0)
	wantUse(t, "the second one leaves", s, []int{2, 0}, 0)
	wantUse(t, "both leave", s, []int{3, 0}, 0)
	wantNumbers(t, "UsableIn", impl.UsableIn(s, []int{2, 0}), nil)
	wantNext(t, "the second one leaves", s, []int{2, 0})
}

func TestRulesThatSetNothing(t *testing.T) {
	s := oneVar(-1, 1, 0)
	s.Rules = rules(impl.Rule{When: always(), Sets: []int{}, Terms: [][]impl.Term{}}, impl.Rule{When: compared(opLess, 0, 0)})
	wantNext(t, "the same state comes behind it, and it isn't stuck", s, []int{0}, []int{0})
	wantNext(t, "by both rules", s, []int{-1}, []int{-1})
	wantNumbers(t, "UsableIn", impl.UsableIn(s, []int{-1}), []int{0, 1})
	wantTouched(t, "no variables at all", s, 0, nil, nil)
	wantTouched(t, "a variable that is looked at", s, 1, nil, []int{0})
}

func TestTwoRulesThatMakeTheSameState(t *testing.T) {
	s := oneVar(-4, 15, 0)
	for _, n := range []int{10, -3, 10, 2, -3, 0, 2, 10} {
		s.Rules = append(s.Rules, ruleOf(sets(0), terms(num(n))))
	}
	wantNext(t, "each once, by their numbers", s, []int{7}, []int{-3}, []int{0}, []int{2}, []int{10})
	wantNumbers(t, "UsableIn", impl.UsableIn(s, []int{7}), []int{0, 1, 2, 3, 4, 5, 6, 7})
}

func TestNextStatesByTheFirstNumberThatDiffers(t *testing.T) {
	s := impl.System{Vars: vars(impl.Var{Low: -9, High: 9}, impl.Var{Low: -9, High: 9})}
	made := [][]int{{1, -2}, {-1, 9}, {1, -9}, {-2, 0}, {1, 8}, {-1, -9}}
	for _, m := range made {
		s.Rules = append(s.Rules, ruleOf(sets(0, 1), terms(num(m[0])), terms(num(m[1]))))
	}
	s.Rules = append(s.Rules, ruleOf(sets(1), terms(num(-5))), ruleOf(sets(0), terms(num(9))))
	wantNext(t, "in order", s, []int{1, 3},
		[]int{-2, 0}, []int{-1, -9}, []int{-1, 9}, []int{1, -9}, []int{1, -5}, []int{1, -2}, []int{1, 8}, []int{9, 3})
}

func TestNoRules(t *testing.T) {
	s := impl.System{Vars: pair().Vars}
	wantNext(t, "no rules", s, []int{0, 5})
	wantNumbers(t, "UsableIn", impl.UsableIn(s, []int{0, 5}), nil)
	wantUse(t, "no rules", s, []int{0, 5}, 0)
	wantTouched(t, "no rules", s, 0, nil, nil)
}

func TestTouchedByTermsOfAllExpressions(t *testing.T) {
	s := spans(2, 2, 2, 2, 2)
	s.Rules = rules(
		impl.Rule{When: compared(opLess, 4, 0), Sets: sets(1, 3), Terms: makes(plus(2, 0), terms(variable(0), variable(2), of(opMul, 0, 1)))},
		// The last term of When is not made of v0, nor that of the number.
		impl.Rule{When: append(terms(variable(0), num(1)), of(opLess, 1, 1)), Sets: sets(0), Terms: makes(terms(variable(0), variable(3)))},
		impl.Rule{When: compared(opEqual, 2, 1), Sets: sets(2), Terms: makes(plus(2, 1))},
		ruleOf(sets(0, 1, 2, 3, 4), plus(4, 1), plus(3, 1), plus(2, 1), plus(1, 1), plus(0, 1)),
		ruleOf(sets(4), terms(num(1))),
	)
	wantTouched(t, "When and two numbers", s, 0, []int{1, 3}, []int{0, 2, 4})
	wantTouched(t, "terms not needed", s, 1, []int{0}, []int{3})
	wantTouched(t, "the same one twice", s, 2, []int{2}, []int{2})
	wantTouched(t, "all, the wrong way round", s, 3, []int{0, 1, 2, 3, 4}, []int{0, 1, 2, 3, 4})
	wantTouched(t, "none", s, 4, []int{4}, nil)
}

// A rule depends on nothing but the variables that TouchedBy tells, but for what it leaves as it is.
func TestRulesDependOnWhatTheyTouch(t *testing.T) {
	r := rand.New(rand.NewSource(21))
	for range 400 {
		s := someSystem(r, 60)
		for n, rule := range s.Rules {
			changed, used := impl.TouchedBy(s, n)
			wantNumbers(t, "the first of TouchedBy", changed, rule.Sets)
			eachStateOf(s, func(state []int) {
				other := otherwise(r, s, state, used)
				if a, b := valueByHand(rule.When, len(rule.When)-1, state), valueByHand(rule.When, len(rule.When)-1, other); a != b {
					t.Errorf("When of %v is %d in %v and %d in %v", rule, a, state, b, other)
				}
				a, ok := impl.Use(s, state, n)
				b, also := impl.Use(s, other, n)
				for _, v := range changed {
					if ok && also && a[v] != b[v] {
						t.Errorf("%v makes %v of %v and %v of %v", rule, a, state, b, other)
					}
				}
			})
		}
	}
}

// otherwise returns a state that has the same values of some variables, and any values of the others.
func otherwise(r *rand.Rand, s impl.System, state []int, same []int) []int {
	other := slices.Clone(state)
	for i, v := range s.Vars {
		if !slices.Contains(same, i) {
			other[i] = v.Low + r.Intn(v.High-v.Low+1)
		}
	}
	return other
}

// Promise 2, and with it that Use, UsableIn, NextStates and StuckIn tell the same.
func TestWhatARuleMakesIsAState(t *testing.T) {
	r := rand.New(rand.NewSource(22))
	used, refused := 0, 0
	for range 600 {
		s := someSystem(r, 80)
		if !impl.SystemValid(s) {
			t.Fatalf("SystemValid(%v) = false", s)
		}
		eachStateOf(s, func(state []int) {
			var usable []int
			var next [][]int
			for n := range s.Rules {
				if made := wantStep(t, s, state, n); made != nil {
					usable, next = append(usable, n), append(next, made)
				}
			}
			used, refused = used+len(usable), refused+len(s.Rules)-len(usable)
			wantNumbers(t, "UsableIn", impl.UsableIn(s, state), usable)
			wantNext(t, "some system", s, state, inOrder(next)...)
		})
	}
	if used < 10000 || refused < 10000 {
		t.Errorf("rules were used %d times and refused %d times", used, refused)
	}
}

// wantStep checks what a rule makes of a state, and returns it; nil if the rule may not be used.
func wantStep(t *testing.T, s impl.System, state []int, rule int) []int {
	t.Helper()
	want := stepOf(s, state, s.Rules[rule])
	wantUse(t, "rule "+strconv.Itoa(rule), s, state, rule, want...)
	made, ok := impl.Use(s, state, rule)
	if !ok {
		return nil
	}
	if !impl.InRange(s, made) {
		t.Errorf("Use(%v, %v, %d) = %v, which is no state", s, state, rule, made)
	}
	for i, n := range made {
		if n != state[i] && !slices.Contains(s.Rules[rule].Sets, i) {
			t.Errorf("Use(%v, %v, %d) = %v, with another value of variable %d", s, state, rule, made, i)
		}
	}
	return made
}

// inOrder returns states by the first number that differs, each one once.
func inOrder(states [][]int) [][]int {
	var list [][]int
	for _, s := range states {
		at := 0
		for at < len(list) && slices.Compare(list[at], s) < 0 {
			at++
		}
		if at == len(list) || !slices.Equal(list[at], s) {
			list = slices.Insert(list, at, s)
		}
	}
	return list
}
