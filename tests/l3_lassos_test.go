package tests

import (
	"math/rand"
	"slices"
	"testing"

	"loop.example/wholecheck/impl"
)

func TestFollowsOfOneVariable(t *testing.T) {
	s := walker()
	follows := [4][]int{{0, 1}, {0, 1, 2}, {0, 3}, {3}}
	for a := range 4 {
		for b := range 4 {
			wantFollows(t, "one variable", s, []int{a}, []int{b}, slices.Contains(follows[a], b))
		}
	}
	wantFollows(t, "no rules: all are stuck", oneVar(0, 2, 1), []int{2}, []int{2}, true)
	wantFollows(t, "no rules: nothing else follows", oneVar(0, 2, 1), []int{2}, []int{1}, false)
}

func TestFollowsOfTwoVariables(t *testing.T) {
	wantFollows(t, "both change", pair(), []int{2, 5}, []int{0, 7}, true)
	wantFollows(t, "not stuck", pair(), []int{2, 5}, []int{2, 5}, false)
	wantFollows(t, "the first one is another one", pair(), []int{2, 5}, []int{1, 7}, false)
	wantFollows(t, "the second one is another one", pair(), []int{2, 5}, []int{0, 5}, false)
	stuck := impl.System{Vars: pair().Vars, Rules: rules(impl.Rule{When: compared(opLess, 1, 6)})}
	wantFollows(t, "stuck", stuck, []int{2, 6}, []int{2, 6}, true)
	wantFollows(t, "stuck, and its second value is another one", stuck, []int{2, 6}, []int{2, 5}, false)
	wantFollows(t, "stuck, and its first value is another one", stuck, []int{2, 6}, []int{1, 6}, false)
}

func TestLassoValidOfOneVariable(t *testing.T) {
	s := walker()
	for _, c := range []struct {
		name string
		stem []int
		loop []int
		want bool
	}{
		{"a loop alone", nil, []int{0, 1}, true},
		{"one state alone", nil, []int{0}, true},
		{"a stem", []int{0, 1}, []int{1}, true},
		{"the loop's first one doesn't follow on the stem", []int{0}, []int{2, 0, 1}, false},
		{"the loop's first one follows on its last one, and not on the stem", []int{0, 1}, []int{3}, false},
		{"the loop's first one follows on the stem, and not on its last one", []int{0, 1}, []int{2}, false},
		{"the loop doesn't end where it begins", nil, []int{0, 1, 2, 0, 1, 2}, true},
		{"no step in the stem", []int{0, 2}, []int{0}, false},
		{"no step in the loop", []int{0}, []int{0, 2, 0}, false},
		{"no step from the loop's end", nil, []int{0, 1, 2, 3}, false},
		{"another first state", nil, []int{1, 0}, false},
		{"another first state of the stem", []int{1}, []int{0}, false},
		{"a stuck state in a loop", []int{0, 1, 2}, []int{3}, true},
		{"a stuck state in a loop several times", []int{0, 1, 2, 3, 3}, []int{3, 3, 3}, true},
		{"a stuck state in a loop, with others", nil, []int{0, 1, 2, 3, 3}, false},
		{"something behind a stuck state", []int{0, 1, 2, 3}, []int{0}, false},
		{"a loop of a state that can't stay", []int{0, 1}, []int{2}, false},
		{"the loop is empty", []int{0, 1, 2, 3}, nil, false},
		{"both are empty", nil, nil, false},
	} {
		wantLasso(t, c.name, s, ones(c.stem...), ones(c.loop...), c.want)
	}
	wantLasso(t, "stuck at first", oneVar(0, 2, 1), nil, ones(1), true)
	wantLasso(t, "stuck at first", oneVar(0, 2, 1), ones(1, 1, 1), ones(1, 1), true)
	wantLasso(t, "stuck elsewhere", oneVar(0, 2, 1), nil, ones(2), false)
	wantLasso(t, "an empty slice for the stem", s, [][]int{}, ones(0), true)
}

// Stem and loop have at most 500 states together.
func TestLongestLassos(t *testing.T) {
	s := walker()
	for _, c := range []struct{ stem, loop int }{{0, 500}, {1, 499}, {250, 250}, {499, 1}, {0, 501}, {1, 500}, {250, 251}, {500, 1}, {500, 500}, {1000, 1}, {1, 1000}} {
		stem, loop := slices.Repeat(ones(0), c.stem), slices.Repeat(ones(0), c.loop)
		want := c.stem+c.loop <= maxTrace
		wantLasso(t, "so many states", s, stem, loop, want)
		wantSame(t, "so many states", stem, loop, nil, ones(0), want)
		var first []int
		if want {
			first = []int{0}
		}
		for _, n := range []int{0, 1, 499, 500, 501, greatest} {
			wantNumbers(t, "LassoAt", impl.LassoAt(stem, loop, n), first)
		}
	}
}

func TestLassoAt(t *testing.T) {
	stem, loop := ones(7, -3), ones(5, greatest, 20000)
	for n, want := range []int{7, -3, 5, greatest, 20000, 5, greatest, 20000, 5, greatest} {
		wantNumbers(t, "LassoAt", impl.LassoAt(stem, loop, n), []int{want})
	}
	wantNumbers(t, "without a stem", impl.LassoAt(nil, loop, 3000), []int{5})
	wantNumbers(t, "without a stem", impl.LassoAt(nil, loop, 3002), []int{20000})
	wantNumbers(t, "far away", impl.LassoAt(stem, loop, greatest), loop[(greatest-2)%3])
	wantNumbers(t, "far away, and a loop of one", impl.LassoAt(stem, ones(4), greatest), []int{4})
	mixed := states([]int{1, 2, 3}, nil, []int{least, 0, 0, 0, 0, 0, 0, 0})
	for n := range 9 {
		wantNumbers(t, "states of other lengths", impl.LassoAt(mixed[:1], mixed[1:], n), lassoAtByHand(mixed[:1], mixed[1:], n))
	}
}

func TestSameRunOfOtherLoops(t *testing.T) {
	for _, c := range []struct {
		name                     string
		stem, loop, other, round []int
		want                     bool
	}{
		{"the same", []int{1}, []int{2, 3}, []int{1}, []int{2, 3}, true},
		{"a loop twice", nil, []int{2, 3}, nil, []int{2, 3, 2, 3}, true},
		{"a loop twice and three times", nil, []int{2, 3, 2, 3}, nil, []int{2, 3, 2, 3, 2, 3}, true},
		{"a round in the stem", nil, []int{2, 3}, []int{2, 3, 2, 3}, []int{2, 3}, true},
		{"half a round in the stem", nil, []int{2, 3}, []int{2}, []int{3, 2}, true},
		{"half a round in the stem, behind another one", []int{1}, []int{2, 3, 4}, []int{1, 2, 3}, []int{4, 2, 3, 4, 2, 3}, true},
		{"one state again and again", []int{1, 1, 1}, []int{1, 1}, nil, []int{1, 1, 1}, true},
		{"the loop is turned", nil, []int{2, 3}, nil, []int{3, 2}, false},
		{"another first one", []int{1}, []int{2}, []int{0}, []int{2}, false},
		{"one more in the stem", []int{1}, []int{2}, []int{1, 1}, []int{2}, false},
		{"one more in the loop", nil, []int{1, 2}, nil, []int{1, 2, 2}, false},
		{"the last one of a loop", nil, []int{1, 1, 1}, nil, []int{1, 1, 2}, false},
		{"the last one of a long stem", nil, []int{1}, []int{1, 1, 1, 1, 1, 1, 1, 2}, []int{1}, false},
		{"a loop behind a long stem", nil, []int{1}, []int{1, 1, 1, 1, 1, 1, 1, 1}, []int{2}, false},
		{"all of a loop but its end, and the other one's stem", []int{1, 1}, []int{1}, []int{1, 1, 1, 1}, []int{1, 1, 2}, false},
	} {
		wantSame(t, c.name, ones(c.stem...), ones(c.loop...), ones(c.other...), ones(c.round...), c.want)
	}
}

func TestSameRunOfOtherStates(t *testing.T) {
	wantSame(t, "empty states", nil, states(nil), states([]int{}), states([]int{}, nil), true)
	wantSame(t, "an empty state", nil, states(nil), nil, ones(0), false)
	wantSame(t, "another length", nil, states([]int{1}), nil, states([]int{1, 0}), false)
	wantSame(t, "the numbers in one row", nil, states([]int{1, 2}, []int{3}), nil, states([]int{1}, []int{2, 3}), false)
	wantSame(t, "the second number", nil, states([]int{1, 2}), nil, states([]int{1, 3}), false)
	wantSame(t, "great numbers", nil, ones(greatest, least), ones(greatest), ones(least, greatest), true)
}

// However late two runs for ever differ, they are told from each other.
func TestSameRunOfTheLatestDifference(t *testing.T) {
	for _, c := range []struct{ stem, p int }{{0, 500}, {0, 499}, {250, 250}, {251, 249}, {497, 3}, {498, 2}} {
		// Behind the stem a round of p states and one of p - 1 states first differ at 2p - 3.
		stem, loop := slices.Repeat(ones(5), c.stem), slices.Repeat(ones(0), c.p)
		loop[c.p-2] = []int{1}
		wantSame(t, "rounds of p and of p - 1 states", stem, loop, stem, loop[:c.p-1], false)
		wantSame(t, "rounds of p states", stem, loop, stem, loop, true)
	}
}

// A long stem hides where the other run is in its loop.
func TestSameRunBehindALongStem(t *testing.T) {
	loop := slices.Repeat(ones(1), 500)
	loop[498] = []int{2}
	wantSame(t, "behind a long stem", slices.Repeat(ones(1), 499), ones(1), nil, loop, false)
	loop[498], loop[499] = []int{1}, []int{2}
	wantSame(t, "behind a long stem", slices.Repeat(ones(1), 499), ones(1), nil, loop, false)
	wantSame(t, "behind a long stem", slices.Repeat(ones(1), 499), ones(2), nil, loop, false)
	loop[499] = []int{1}
	wantSame(t, "behind a long stem", slices.Repeat(ones(1), 499), ones(1), nil, loop, true)
}

// shortLassos returns all runs for ever of two states with short stems and loops.
func shortLassos() [][2][][]int {
	var list [][2][][]int
	for stem := range 4 {
		for loop := 1; loop <= 5; loop++ {
			for bits := range 1 << (stem + loop) {
				var all [][]int
				for i := range stem + loop {
					all = append(all, []int{bits >> i & 1})
				}
				list = append(list, [2][][]int{all[:stem], all[stem:]})
			}
		}
	}
	return list
}

func TestSameRunOfShortLassos(t *testing.T) {
	list := shortLassos()
	same := 0
	for _, a := range list {
		for _, b := range list {
			want := sameRunByHand(a[0], a[1], b[0], b[1])
			same += boolOf(want)
			if got := impl.SameRun(a[0], a[1], b[0], b[1]); got != want {
				t.Fatalf("SameRun(%v, %v, %v, %v) = %v", a[0], a[1], b[0], b[1], got)
			}
		}
	}
	if same < 3*len(list) {
		t.Errorf("%d pairs are the same", same)
	}
}

// A run for ever stays the same if some of its rounds are written out; LassoAt tells each state of both.
func TestSameRunWrittenOtherwise(t *testing.T) {
	r := rand.New(rand.NewSource(34))
	for range 2000 {
		var all [][]int
		for range 1 + r.Intn(12) {
			all = append(all, []int{r.Intn(3), r.Intn(2)})
		}
		at := r.Intn(len(all))
		stem, loop := all[:at], all[at:]
		more, times := r.Intn(20), 1+r.Intn(4)
		var other, round [][]int
		for n := range at + more {
			other = append(other, lassoAtByHand(stem, loop, n))
		}
		for n := range len(loop) * times {
			round = append(round, lassoAtByHand(stem, loop, at+more+n))
		}
		wantSame(t, "written otherwise", stem, loop, other, round, true)
		for n := range 80 {
			wantNumbers(t, "LassoAt", impl.LassoAt(other, round, n), impl.LassoAt(stem, loop, n))
		}
		round[r.Intn(len(round))] = []int{r.Intn(3), 2}
		wantSame(t, "another state in the loop", stem, loop, other, round, false)
	}
}

// someLasso returns a run for ever of a system, found by walking until a state comes again.
func someLasso(r *rand.Rand, s impl.System) ([][]int, [][]int) {
	list := someRun(r, s, 60).States
	for i, state := range list {
		for k := i + 1; k < len(list); k++ {
			if slices.Equal(state, list[k]) && r.Intn(3) == 0 {
				return list[:i], list[i:k]
			}
		}
	}
	// What didn't come again is taken for stuck, whether it is or not.
	return list[:len(list)-1], list[len(list)-1:]
}

func TestLassosOfSomeSystems(t *testing.T) {
	r := rand.New(rand.NewSource(35))
	valid, none := 0, 0
	for range 4000 {
		s := someSystem(r, 12)
		stem, loop := someLasso(r, s)
		for _, change := range []bool{false, true} {
			if change {
				stem, loop = slices.Clone(stem), slices.Clone(loop)
				if at := r.Intn(len(stem) + len(loop)); at < len(stem) {
					stem[at] = someStateOf(r, s)
				} else {
					loop[at-len(stem)] = someStateOf(r, s)
				}
			}
			is := isLassoByHand(s, stem, loop)
			wantLasso(t, "some system", s, stem, loop, is)
			if is {
				valid++
			} else {
				none++
			}
		}
	}
	if valid < 1000 || none < 1000 {
		t.Errorf("%d runs for ever and %d that are none", valid, none)
	}
}
