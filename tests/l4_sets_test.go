package tests

import (
	"math/rand"
	"slices"
	"testing"

	"loop.example/wholecheck/impl"
)

func TestSetValid(t *testing.T) {
	for _, set := range [][]int{nil, {}, {0}, {5}, {0, 5}, {1, 2, 4}, {0, 1, 2, 3, 4, 5}} {
		wantSetValid(t, "six states", six(), set, true)
	}
	for _, c := range sizedSystems() {
		wantSetValid(t, c.name+", no states", c.s, nil, true)
		wantSetValid(t, c.name+", the last state", c.s, []int{c.size - 1}, true)
		wantSetValid(t, c.name+", all states", c.s, firstNumbers(c.size), true)
		wantSetValid(t, c.name+", one more", c.s, []int{c.size}, false)
		wantSetValid(t, c.name+", all states and one more", c.s, firstNumbers(c.size+1), false)
	}
}

func TestCombinedSets(t *testing.T) {
	wantCombined(t, []int{0, 2, 3}, []int{2}, []int{2}, []int{0, 2, 3}, []int{0, 3})
	wantCombined(t, []int{2}, []int{0, 2, 3}, []int{2}, []int{0, 2, 3}, nil)
	wantCombined(t, []int{1, 4}, []int{0, 9}, nil, []int{0, 1, 4, 9}, []int{1, 4})
	wantCombined(t, []int{0, 9}, []int{1, 4}, nil, []int{0, 1, 4, 9}, []int{0, 9})
	wantCombined(t, nil, nil, nil, nil, nil)
	wantCombined(t, []int{}, []int{7}, nil, []int{7}, nil)
	wantCombined(t, []int{7}, nil, nil, []int{7}, []int{7})
	wantCombined(t, []int{5, 6}, []int{5, 6}, []int{5, 6}, []int{5, 6}, nil)
	wantCombined(t, []int{0, 399}, []int{398, 399}, []int{399}, []int{0, 398, 399}, []int{0})
	wantCombined(t, []int{63, 64, 127}, []int{64, 128}, []int{64}, []int{63, 64, 127, 128}, []int{63, 127})
	wantCombined(t, []int{0, 64, 128, 384}, []int{0, 65, 320, 384}, []int{0, 384}, []int{0, 64, 65, 128, 320, 384}, []int{64, 128})
	all := firstNumbers(maxStates)
	wantCombined(t, all, all, all, all, nil)
	wantCombined(t, all, nil, nil, all, all)
	wantCombined(t, nil, all, nil, all, nil)
	wantCombined(t, all, []int{0, 399}, []int{0, 399}, all, all[1:399])
}

func TestCombinedSetsByHand(t *testing.T) {
	r := rand.New(rand.NewSource(47))
	for range 300 {
		a, b := someSet(r, 1+r.Intn(maxStates)), someSet(r, 1+r.Intn(maxStates))
		inA := func(n int) bool { return slices.Contains(a, n) }
		inB := func(n int) bool { return slices.Contains(b, n) }
		wantCombined(t, a, b,
			numbersWhere(maxStates, func(n int) bool { return inA(n) && inB(n) }),
			numbersWhere(maxStates, func(n int) bool { return inA(n) || inB(n) }),
			numbersWhere(maxStates, func(n int) bool { return inA(n) && !inB(n) }))
	}
}

func TestSetText(t *testing.T) {
	two := spans(2, 2)
	two.Vars[1] = impl.Var{High: 1}
	wantSetText(t, "one state", two, []int{2}, "v0 = 1 & v1 = 0")
	wantSetText(t, "two states", two, []int{1, 2}, "v0 = 0 & v1 = 1 | v0 = 1 & v1 = 0")
	wantSetText(t, "no state", two, nil, "none")
	wantSetText(t, "no state", two, []int{}, "none")
	wantSetText(t, "one variable", oneVar(3, 9, 5), []int{0, 6}, "v0 = 3 | v0 = 9")
	wantSetText(t, "values that begin elsewhere", six(), []int{0, 5}, "v0 = 0 & v1 = 5 | v0 = 1 & v1 = 7")
	wantSetText(t, "values below 0", oneVar(-10, 2, 0), []int{0, 9, 10, 11}, "v0 = -10 | v0 = -1 | v0 = 0 | v0 = 1")
	wantSetText(t, "the least numbers", oneVar(-9999, -9980, -9999), []int{0, 19}, "v0 = -9999 | v0 = -9980")
	wantSetText(t, "the greatest numbers", oneVar(9980, 9999, 9999), []int{0, 19}, "v0 = 9980 | v0 = 9999")
	wantSetText(t, "five variables", spans(1, 2, 3, 2, 1), []int{0, 11}, "v0 = 0 & v1 = -1 & v2 = -2 & v3 = -3 & v4 = -4 | v0 = 0 & v1 = 0 & v2 = 0 & v3 = -2 & v4 = -4")
	s := counter(0, 2, 1, 1)
	wantSetText(t, "with rules", s, []int{0, 1, 2}, "v0 = 0 | v0 = 1 | v0 = 2")
}

func TestSetTextsOfSomeSystems(t *testing.T) {
	r := rand.New(rand.NewSource(48))
	long := 0
	for range 400 {
		s := someSystem(r, maxStates)
		set := someSet(r, impl.SizeOf(s))
		want := setTextByHand(s, set)
		if len(want) > maxText {
			want = ""
			long++
		}
		wantSetText(t, "by hand", s, set, want)
	}
	if long < 10 || long > 200 {
		t.Errorf("%d texts were too long", long)
	}
}

// textOfLength returns a set of 211 states of two variables from 0 to 19, and its text:
// 100 of them have two digits, so many have four, and the others three, so that each four makes the text one byte longer.
func textOfLength(fours int) (impl.System, []int, string) {
	s := impl.System{Vars: vars(impl.Var{High: 19}, impl.Var{High: 19})}
	left := map[int]int{2: 100, 3: 111 - fours, 4: fours}
	var set []int
	for n, state := range allStates(s) {
		digits := 2 + state[0]/10 + state[1]/10
		if left[digits] > 0 {
			left[digits]--
			set = append(set, n)
		}
	}
	return s, set, setTextByHand(s, set)
}

func TestSetTextsOfTheGreatestLength(t *testing.T) {
	for _, c := range []struct{ fours, bytes int }{{90, 3996}, {93, 3999}, {94, 4000}, {95, 4001}, {96, 4002}, {100, 4006}} {
		s, set, text := textOfLength(c.fours)
		if len(set) != 211 || len(text) != c.bytes {
			t.Fatalf("%d states have a text of %d bytes, want %d", len(set), len(text), c.bytes)
		}
		want := text
		if c.bytes > maxText {
			want = ""
		}
		wantSetText(t, "at the limit", s, set, want)
	}
}

func TestSetTextsOfAllStates(t *testing.T) {
	wantSetText(t, "400 states", spans(20, 20), firstNumbers(maxStates), "")
	wantSetText(t, "a variable of one value", spans(20, 1, 20), firstNumbers(maxStates), "")
	wantSetText(t, "one of 400 states", spans(20, 20), []int{399}, "v0 = 19 & v1 = 18")
	wantSetText(t, "none of 400 states", spans(20, 20), nil, "none")
}
