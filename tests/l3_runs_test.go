package tests

import (
	"math/rand"
	"slices"
	"testing"

	"loop.example/wholecheck/impl"
)

func TestLimitOfRuns(t *testing.T) {
	if impl.MaxTrace != maxTrace {
		t.Error("MaxTrace is not what the document says")
	}
}

func TestExampleOfRuns(t *testing.T) {
	s := oneVar(0, 2, 0)
	for n := range 3 {
		s.Rules = append(s.Rules, ruleOf(sets(0), terms(num(n))))
	}
	x := run([]int{0, 1, 0, 2}, 1, 0, 2)
	wantValid(t, "the example", s, x, true)
	wantTrace(t, "the example without its rounds", impl.WithoutRounds(s, x), run([]int{0, 2}, 2))
}

func TestTraceValidOfOneVariable(t *testing.T) {
	s := walker()
	wantValid(t, "the first state alone", s, run([]int{0}), true)
	wantValid(t, "no rules, in another slice", s, impl.Trace{States: ones(0), Rules: []int{}}, true)
	wantValid(t, "up to the stuck state", s, run([]int{0, 1, 2, 3}, 0, 2, 0), true)
	wantValid(t, "a state that stays", s, run([]int{0, 1, 1, 1, 0, 0}, 2, 3, 3, 1, 1), true)
	wantValid(t, "another rule between the same states", s, run([]int{0, 1}, 2), true)
	wantValid(t, "another first state", oneVar(0, 2, 1), run([]int{1}), true)
	wantValid(t, "no rules in the system", oneVar(0, 2, 1), run([]int{1, 1}, 0), false)
}

func TestReplayEndsAtWhatMayNotBeUsed(t *testing.T) {
	s := walker()
	wantReplay(t, "no rules", s, nil, run([]int{0}))
	wantReplay(t, "no rules", s, []int{}, run([]int{0}))
	wantReplay(t, "all of them", s, []int{0, 3, 2, 0}, run([]int{0, 1, 1, 2, 3}, 0, 3, 2, 0))
	wantReplay(t, "all of them, with rounds", s, []int{1, 0, 1, 2, 0, 1}, run([]int{0, 0, 1, 0, 1, 2, 0}, 1, 0, 1, 2, 0, 1))
	wantReplay(t, "the first one may not be used", s, []int{3, 0, 0}, run([]int{0}))
	wantReplay(t, "When is false, and the next one may be used", s, []int{0, 0, 2, 0}, run([]int{0, 1, 2}, 0, 0))
	wantReplay(t, "a value leaves its range", s, []int{0, 0, 0, 0, 1}, run([]int{0, 1, 2, 3}, 0, 0, 0))
	for _, none := range []int{-1, 4, 5, 8, 9, greatest, least} {
		wantReplay(t, "a rule that is none", s, []int{0, none, 0}, run([]int{0, 1}, 0))
		wantReplay(t, "the first one is none", s, []int{none}, run([]int{0}))
		wantReplay(t, "the last one is none", s, []int{0, 1, none}, run([]int{0, 1, 0}, 0, 1))
		wantReplay(t, "no rules in the system", oneVar(4, 6, 5), []int{none, 0}, run([]int{5}))
	}
	wantReplay(t, "no rules in the system", oneVar(4, 6, 5), []int{0}, run([]int{5}))
}

func TestReplayOfTwoVariables(t *testing.T) {
	x := impl.Trace{States: states([]int{1, 6}, []int{2, 6}, []int{1, 7}, []int{2, 7}, []int{2, 7}), Rules: []int{0, 1, 0, 1}}
	wantReplay(t, "two variables", pair(), []int{0, 1, 0, 1, 2, 1}, x)
	wantValid(t, "two variables", pair(), x, true)
	wantRunOver(t, "two variables", pair(), x.States, x)
	wantTrace(t, "two variables", impl.WithoutRounds(pair(), x), impl.Trace{States: x.States[:4], Rules: x.Rules[:3]})
}

func TestRuleBetweenIsTheFirst(t *testing.T) {
	s := walker()
	wantBetween(t, "two rules", s, []int{0}, []int{1}, 0)
	wantBetween(t, "one rule", s, []int{2}, []int{0}, 1)
	wantBetween(t, "it stays", s, []int{1}, []int{1}, 3)
	wantBetween(t, "it goes back to itself", s, []int{0}, []int{0}, 1)
	wantBetween(t, "no rule", s, []int{0}, []int{2}, -1)
	wantBetween(t, "no rule stays there", s, []int{2}, []int{2}, -1)
	wantBetween(t, "stuck", s, []int{3}, []int{0}, -1)
	wantBetween(t, "stuck, and the same", s, []int{3}, []int{3}, -1)
	wantBetween(t, "no rules", oneVar(0, 2, 1), []int{1}, []int{1}, -1)
	s.Vars = vars(impl.Var{High: 3}, impl.Var{High: 1})
	s.Rules[0].When = compared(opLess, 1, 0)
	wantBetween(t, "the first one may not be used", s, []int{0, 0}, []int{1, 0}, 2)
	wantBetween(t, "another variable is another one", s, []int{0, 0}, []int{1, 1}, -1)
}

// All of the rules make the same state, but each may be used in states of its own.
func TestRuleBetweenOfEachRule(t *testing.T) {
	s := oneVar(0, 9, 0)
	for n := range maxRules {
		s.Rules = append(s.Rules, impl.Rule{When: compared(opEqual, 0, n), Sets: sets(0), Terms: makes(terms(num(9)))})
	}
	for n := range 10 {
		want := n
		if n >= maxRules {
			want = -1
		}
		wantBetween(t, "one rule", s, []int{n}, []int{9}, want)
	}
}

func TestTraceOfTakesTheFirstRules(t *testing.T) {
	s := walker()
	wantRunOver(t, "the first state alone", s, ones(0), run([]int{0}))
	wantRunOver(t, "with rounds", s, ones(0, 0, 1, 1, 0, 1, 2, 3), run([]int{0, 0, 1, 1, 0, 1, 2, 3}, 1, 0, 3, 1, 0, 0, 0))
	wantRunOver(t, "no rules", oneVar(0, 2, 1), ones(1), run([]int{1}))
	for _, none := range [][]int{{1}, {3}, {0, 2}, {0, 1, 3}, {0, 1, 2, 2}, {0, 1, 2, 3, 3}, {0, 1, 2, 3, 0}, {0, 3, 0}, {0, 4}, {0, -1}, {4}, {-1}, {0, 1, 2, 3, 4}} {
		wantRunOver(t, "no run", s, ones(none...), impl.Trace{})
	}
}

func TestWithoutRoundsOfOneVariable(t *testing.T) {
	s := walker()
	for _, c := range []struct {
		name  string
		whole impl.Trace
		short impl.Trace
	}{
		{"the first state alone", run([]int{0}), run([]int{0})},
		{"no rounds", run([]int{0, 1, 2, 3}, 2, 0, 0), run([]int{0, 1, 2, 3}, 2, 0, 0)},
		{"a state that stands three times", run([]int{0, 1, 0, 1, 2, 0, 1}, 0, 1, 0, 0, 1, 2), run([]int{0, 1}, 2)},
		{"one behind the first that stands three times", run([]int{0, 1, 1, 1, 2}, 0, 3, 3, 2), run([]int{0, 1, 2}, 0, 2)},
		{"the last one stands three times", run([]int{0, 1, 2, 0, 1, 2, 0, 1, 2}, 0, 0, 1, 0, 2, 1, 2, 0), run([]int{0, 1, 2}, 2, 0)},
		{"it ends where it began", run([]int{0, 1, 2, 0}, 0, 0, 1), run([]int{0})},
		{"it never leaves the first one", run([]int{0, 0, 0}, 1, 1), run([]int{0})},
		{"a round in a round", run([]int{0, 1, 1, 2, 0, 1, 2, 3}, 0, 3, 0, 1, 2, 2, 0), run([]int{0, 1, 2, 3}, 2, 2, 0)},
		{"rules of the last places", run([]int{0, 1, 0, 1}, 0, 1, 2), run([]int{0, 1}, 2)},
		{"rules of the last places, the other way round", run([]int{0, 1, 0, 1}, 2, 1, 0), run([]int{0, 1}, 0)},
	} {
		wantValid(t, c.name, s, c.whole, true)
		wantTrace(t, c.name+": WithoutRounds", impl.WithoutRounds(s, c.whole), c.short)
	}
}

// twoCounters returns a system of 400 states that comes to each of them: one variable counts, and the other one when it is full.
func twoCounters() impl.System {
	s := impl.System{Vars: vars(impl.Var{Low: -19, High: 0, First: -19}, impl.Var{Low: 9980, High: 9999, First: 9980})}
	s.Rules = rules(
		ruleOf(sets(1), plus(1, 1)),
		ruleOf(sets(0, 1), plus(0, 1), terms(num(9980))),
		ruleOf(sets(0, 1), terms(num(-19)), terms(num(9980))),
	)
	// A sum above 9999 is held to it, so the first rule could be used again and again.
	s.Rules[0].When = compared(opLess, 1, 9999)
	return s
}

// Each of 400 states is told from all others.
func TestWithoutRoundsOfAllStates(t *testing.T) {
	s := twoCounters()
	var order []int
	for n := range 399 {
		order = append(order, boolOf((n+1)%20 == 0))
	}
	x, used := impl.Replay(s, order)
	if used != 399 || !slices.Equal(x.States[399], []int{0, 9999}) {
		t.Fatalf("Replay used %d rules", used)
	}
	wantTrace(t, "no rounds", impl.WithoutRounds(s, x), x)
	around, used := impl.Replay(s, slices.Concat(order[:70], []int{2}, order))
	if used != 470 {
		t.Fatalf("Replay used %d rules", used)
	}
	wantTrace(t, "one round", impl.WithoutRounds(s, around), x)
	wantTrace(t, "all of it is a round", impl.WithoutRounds(s, impl.Trace{
		States: append(slices.Clone(x.States), x.States[0]), Rules: append(slices.Clone(order), 2),
	}), impl.Trace{States: x.States[:1]})
}

func boolOf(is bool) int {
	if is {
		return 1
	}
	return 0
}

// A run has at most 500 states.
func TestLongestRuns(t *testing.T) {
	s := walker()
	for _, many := range []int{498, 499, 500, 501, 1000} {
		list, order := slices.Repeat(ones(0), many+1), slices.Repeat([]int{1}, many)
		whole, short := impl.Trace{States: list, Rules: order}, run([]int{0})
		wantValid(t, "so many rules", s, whole, many < 500)
		if many >= 500 {
			whole, short = impl.Trace{}, impl.Trace{}
		}
		wantReplay(t, "so many rules", s, order, whole)
		wantRunOver(t, "so many states", s, list, whole)
		wantTrace(t, "WithoutRounds", impl.WithoutRounds(s, impl.Trace{States: list, Rules: order}), short)
	}
	wantReplay(t, "499 rules that are none", s, slices.Repeat([]int{7}, 499), run([]int{0}))
	wantReplay(t, "500 rules that are none", s, slices.Repeat([]int{7}, 500), impl.Trace{})
}

// Promise 3, and with it that TraceValid, Replay, RuleBetween and TraceOf tell the same.
func TestRunsWithoutTheirRounds(t *testing.T) {
	r := rand.New(rand.NewSource(31))
	cut, kept := 0, 0
	for range 3000 {
		s := someSystem(r, 30)
		x := someRun(r, s, r.Intn(40))
		wantValid(t, "some run", s, x, true)
		wantReplay(t, "some run", s, x.Rules, x)
		y := impl.WithoutRounds(s, x)
		wantTrace(t, "WithoutRounds", y, withoutRoundsByHand(x))
		wantValid(t, "without its rounds", s, y, true)
		if len(y.States) == 0 || !slices.Equal(y.States[len(y.States)-1], x.States[len(x.States)-1]) {
			t.Fatalf("WithoutRounds(%v) = %v, with another end", x, y)
		}
		if unique := inOrder(y.States); len(unique) != len(y.States) {
			t.Errorf("WithoutRounds(%v) = %v, with a state twice", x, y)
		}
		wantTrace(t, "WithoutRounds of what has none", impl.WithoutRounds(s, y), y)
		cut, kept = cut+len(x.Rules)-len(y.Rules), kept+len(y.Rules)
	}
	if cut < 5000 || kept < 1000 {
		t.Errorf("%d rules were cut and %d kept", cut, kept)
	}
}

// Runs in which something is changed are runs just if the document's words say so.
func TestChangedRuns(t *testing.T) {
	r := rand.New(rand.NewSource(32))
	runs, none := 0, 0
	for range 4000 {
		s := someSystem(r, 12)
		x := someRun(r, s, r.Intn(8))
		switch place := r.Intn(len(x.States)); r.Intn(4) {
		case 0:
			x.States[place] = someStateOf(r, s)
		case 1:
			x.States = slices.Insert(x.States, place, someStateOf(r, s))
			x.Rules = slices.Insert(x.Rules, min(place, len(x.Rules)), r.Intn(9))
		case 2:
			x.States = slices.Delete(x.States, place, len(x.States))
			x.Rules = x.Rules[:max(0, place-1)]
		default:
			if place < len(x.Rules) {
				x.Rules[place] = r.Intn(10) - 1
			}
		}
		is := isRunByHand(s, x)
		wantValid(t, "a changed run", s, x, is)
		if !is {
			wantTrace(t, "WithoutRounds of no run", impl.WithoutRounds(s, x), impl.Trace{})
			none++
		} else {
			runs++
		}
		wantRunOver(t, "a changed run", s, x.States, runOverByHand(s, x.States))
	}
	if runs < 500 || none < 500 {
		t.Errorf("%d runs and %d that are none", runs, none)
	}
}

// runOverByHand seeks the first rule between each two states; nothing if there is none.
func runOverByHand(s impl.System, list [][]int) impl.Trace {
	x := impl.Trace{States: list}
	for i := range max(0, len(list)-1) {
		for n, rule := range s.Rules {
			if made := stepOf(s, list[i], rule); made != nil && slices.Equal(made, list[i+1]) {
				x.Rules = append(x.Rules, n)
				break
			}
		}
	}
	if !isRunByHand(s, x) {
		return impl.Trace{}
	}
	return x
}

func TestRuleBetweenAllStates(t *testing.T) {
	r := rand.New(rand.NewSource(33))
	for range 200 {
		s := someSystem(r, 16)
		eachStateOf(s, func(a []int) {
			eachStateOf(s, func(b []int) {
				want := slices.IndexFunc(s.Rules, func(rule impl.Rule) bool {
					made := stepOf(s, a, rule)
					return made != nil && slices.Equal(made, b)
				})
				wantBetween(t, "some system", s, a, b, want)
				wantFollows(t, "some system", s, a, b, followsByHand(s, a, b))
			})
		})
	}
}
