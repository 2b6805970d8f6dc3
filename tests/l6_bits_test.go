package tests

import (
	"math/rand"
	"slices"
	"testing"

	"loop.example/wholecheck/impl"
)

func TestLimitsOfBits(t *testing.T) {
	if impl.MaxBits != maxBits {
		t.Error("MaxBits is not what the document says")
	}
}

// fiveAndTwo returns the system of the example: variables from 0 to 4 and from 2 to 3, which have 3 and 1 bits.
func fiveAndTwo() impl.System {
	return impl.System{Vars: vars(impl.Var{High: 4}, impl.Var{Low: 2, High: 3, First: 2})}
}

func TestExampleOfBits(t *testing.T) {
	s := fiveAndTwo()
	wantWidths(t, "the example", s, 3, 1)
	wantStateBits(t, "the example", s, []int{4, 2}, 1, 0, 0, 0)
	wantBitsState(t, "the example", s, []int{1, 0, 0, 0}, 4, 2)
	wantBitName(t, "the example", s, 2, "v0.0")
	wantStateBits(t, "the highest bit first", s, []int{1, 3}, 0, 0, 1, 1)
	wantBitsState(t, "the highest bit first", s, []int{0, 1, 1, 0}, 3, 2)
	wantApart(t, "all bits", s, []int{3, 2}, []int{4, 3}, 4)
}

func TestBitsOfEachNumberOfValues(t *testing.T) {
	want := []int{1: 0, 2: 1, 3: 2, 4: 2, 5: 3, 6: 3, 7: 3, 8: 3, 9: 4, 10: 4, 11: 4, 12: 4, 13: 4, 14: 4, 15: 4, 16: 4, 17: 5, 18: 5, 19: 5, 20: 5}
	for values := 1; values <= maxSpan; values++ {
		for _, low := range []int{0, 1, -1, -7, 100, -maxNumber, maxNumber - values + 1} {
			wantWidths(t, "one variable", oneVar(low, low+values-1, low), want[values])
			wantWidths(t, "the last one is the first", oneVar(low, low+values-1, low+values-1), want[values])
		}
	}
}

func TestBitsOfSomeVariables(t *testing.T) {
	wantWidths(t, "one of them has one value", spans(3, 1, 4), 2, 0, 2)
	wantWidths(t, "all of them have one value", spans(1, 1, 1, 1, 1), 0, 0, 0, 0, 0)
	wantWidths(t, "eleven bits", spans(5, 5, 5, 3), 3, 3, 3, 2)
	wantWidths(t, "with rules", pair(), 2, 2)
	for _, c := range wideSystems() {
		wantWidths(t, c.name, c.s, widthsByHand(c.s)...)
	}
}

func TestValueBits(t *testing.T) {
	wantValueBits(t, 0, 0)
	wantValueBits(t, 0, 1, 0)
	wantValueBits(t, 1, 1, 1)
	wantValueBits(t, 1, 2, 0, 1)
	wantValueBits(t, 2, 2, 1, 0)
	wantValueBits(t, 6, 3, 1, 1, 0)
	wantValueBits(t, 6, 5, 0, 0, 1, 1, 0)
	wantValueBits(t, 4095, 12, slices.Repeat([]int{1}, 12)...)
	wantValueBits(t, 2048, 12, 1, 0, 0, 0, 0, 0, 0, 0, 0, 0, 0, 0)
	wantValueBits(t, 0, 12, make([]int, 12)...)
}

// Each number that so many bits are has one row, and is what the row is.
func TestValuesOfAllRows(t *testing.T) {
	for many := range maxBits + 1 {
		for n := range 1 << many {
			row := bitsByHand(n, many)
			wantValueBits(t, n, many, row...)
			wantBitsValue(t, row, n)
		}
	}
}

func TestBitsValue(t *testing.T) {
	wantBitsValue(t, nil, 0)
	wantBitsValue(t, []int{}, 0)
	wantBitsValue(t, []int{0}, 0)
	wantBitsValue(t, []int{1}, 1)
	wantBitsValue(t, []int{1, 0, 1}, 5)
	wantBitsValue(t, []int{0, 0, 0, 1, 1, 0}, 6)
	wantBitsValue(t, []int{1, 0, 0, 0, 0, 0, 0, 0, 0, 0, 0, 0}, 2048)
	wantBitsValue(t, slices.Repeat([]int{1}, maxBits), 4095)
	wantBitsValue(t, make([]int, maxBits), 0)
}

func TestStateBits(t *testing.T) {
	wantStateBits(t, "the least one", six(), []int{0, 5}, 0, 0, 0)
	wantStateBits(t, "values less their low ones", six(), []int{1, 7}, 1, 1, 0)
	wantStateBits(t, "values below 0", oneVar(-7, -2, -3), []int{-3}, 1, 0, 0)
	wantStateBits(t, "the least numbers", oneVar(-9999, -9980, -9999), []int{-9980}, 1, 0, 0, 1, 1)
	wantStateBits(t, "the greatest numbers", oneVar(9980, 9999, 9980), []int{9999}, 1, 0, 0, 1, 1)
	wantStateBits(t, "one value", oneVar(4, 4, 4), []int{4})
	wantStateBits(t, "one value of five", spans(1, 1, 1, 1, 1), []int{0, -1, -2, -3, -4})
	wantStateBits(t, "one value between", spans(3, 1, 4), []int{1, -1, 1}, 0, 1, 1, 1)
	wantStateBits(t, "one value at both ends", spans(1, 6, 1), []int{0, 3, -2}, 1, 0, 0)
	wantStateBits(t, "eleven bits", spans(5, 5, 5, 3), []int{4, 3, -1, -2}, 1, 0, 0, 1, 0, 0, 0, 0, 1, 0, 1)
	wantStateBits(t, "with rules", pair(), []int{2, 6}, 1, 0, 0, 1)
}

func TestBitsState(t *testing.T) {
	wantBitsState(t, "the least one", six(), []int{0, 0, 0}, 0, 5)
	wantBitsState(t, "the greatest one", six(), []int{1, 1, 0}, 1, 7)
	wantBitsState(t, "no value", six(), []int{1, 1, 1})
	wantBitsState(t, "no value of the first variable", fiveAndTwo(), []int{1, 0, 1, 0})
	wantBitsState(t, "values below 0", oneVar(-7, -2, -3), []int{1, 0, 1}, -2)
	wantBitsState(t, "no value below 0", oneVar(-7, -2, -3), []int{1, 1, 0})
	wantBitsState(t, "the least numbers", oneVar(-9999, -9980, -9999), []int{0, 0, 0, 0, 0}, -9999)
	wantBitsState(t, "the greatest numbers", oneVar(9980, 9999, 9980), []int{1, 0, 0, 1, 1}, 9999)
	wantBitsState(t, "numbers that are too great", oneVar(9980, 9999, 9980), []int{1, 0, 1, 0, 0})
	wantBitsState(t, "one value", oneVar(4, 4, 4), nil, 4)
	wantBitsState(t, "one value", oneVar(4, 4, 4), []int{}, 4)
	wantBitsState(t, "one value of five", spans(1, 1, 1, 1, 1), nil, 0, -1, -2, -3, -4)
	wantBitsState(t, "one value between", spans(3, 1, 4), []int{0, 1, 1, 1}, 1, -1, 1)
	wantBitsState(t, "one value between, and no value", spans(3, 1, 4), []int{1, 1, 0, 0})
	wantBitsState(t, "eleven bits", spans(5, 5, 5, 3), []int{1, 0, 0, 1, 0, 0, 0, 0, 1, 0, 1}, 4, 3, -1, -2)
	wantBitsState(t, "with rules", pair(), []int{1, 0, 0, 1}, 2, 6)
}

// Promise 6, for each row of bits of a system: it is that of one state, or of none.
func TestStatesOfAllRows(t *testing.T) {
	for _, c := range wideSystems() {
		states := map[string][]int{}
		for _, state := range allStates(c.s) {
			row := stateBitsByHand(c.s, state)
			wantStateBits(t, c.name, c.s, state, row...)
			wantBitsState(t, c.name+", there and back", c.s, impl.StateBits(c.s, state), state...)
			states[textOfRow(row)] = state
		}
		if len(states) != c.size {
			t.Fatalf("%s: %d rows of bits for %d states", c.name, len(states), c.size)
		}
		eachRow(widthOf(c.s), func(row []int) {
			wantBitsState(t, c.name, c.s, row, states[textOfRow(row)]...)
		})
	}
}

func textOfRow(row []int) string {
	text := ""
	for _, bit := range row {
		text += string(rune('0' + bit))
	}
	return text
}

// Promise 6.
func TestAStateComesBackFromItsBits(t *testing.T) {
	r := rand.New(rand.NewSource(61))
	for range 400 {
		s := someSystem(r, maxStates)
		wantWidths(t, "by hand", s, widthsByHand(s)...)
		for range 10 {
			state := someStateOf(r, s)
			row := stateBitsByHand(s, state)
			wantStateBits(t, "by hand", s, state, row...)
			wantBitsState(t, "there and back", s, impl.StateBits(s, state), state...)
		}
		row := someRow(r, widthOf(s))
		if state := impl.BitsState(s, row); len(state) > 0 {
			wantStateBits(t, "back and there", s, state, row...)
		}
	}
}

// The bits of a state are those of its values, and have as many places as BitsOf tells.
func TestStateBitsAreValueBits(t *testing.T) {
	r := rand.New(rand.NewSource(62))
	for range 300 {
		s := someSystem(r, maxStates)
		state := someStateOf(r, s)
		row := impl.StateBits(s, state)
		for i, width := range impl.BitsOf(s) {
			wantValueBits(t, state[i]-s.Vars[i].Low, width, row[:width]...)
			wantBitsValue(t, row[:width], state[i]-s.Vars[i].Low)
			row = row[width:]
		}
		wantNumbers(t, "beyond the last variable", row, nil)
	}
}

func TestAllBits(t *testing.T) {
	wantAllBits(t, "some states", six(), []int{0, 2, 5}, []int{0, 0, 0}, []int{0, 1, 0}, []int{1, 1, 0})
	wantAllBits(t, "one state", six(), []int{4}, []int{1, 0, 1})
	wantAllBits(t, "the empty set", six(), nil)
	wantAllBits(t, "the empty set", six(), []int{})
	wantAllBits(t, "one value", oneVar(4, 4, 4), []int{0}, []int{})
	wantAllBits(t, "one value, the empty set", oneVar(4, 4, 4), nil)
	wantAllBits(t, "one value of five", spans(1, 1, 1, 1, 1), []int{0}, []int{})
	wantAllBits(t, "states that are never come to", counter(0, 3, 2, 1), []int{0, 1, 3}, []int{0, 0}, []int{0, 1}, []int{1, 1})
	for _, c := range wideSystems() {
		all := firstNumbers(c.size)
		wantAllBits(t, c.name, c.s, all, allBitsByHand(c.s, all)...)
	}
}

func TestAllBitsOfSomeSets(t *testing.T) {
	r := rand.New(rand.NewSource(63))
	for range 400 {
		s := someSystem(r, maxStates)
		set := someSet(r, len(allStates(s)))
		wantAllBits(t, "by hand", s, set, allBitsByHand(s, set)...)
	}
}

// wantBitNames checks the names of all bits, and that there are no more.
func wantBitNames(t *testing.T, name string, s impl.System, want ...string) {
	t.Helper()
	for bit, text := range want {
		wantBitName(t, name, s, bit, text)
	}
	for _, bit := range []int{-1, -2, -len(want), -len(want) - 1, len(want), len(want) + 1, len(want) + 5, 64, 400, greatest, least, least + 1} {
		if bit < 0 || bit >= len(want) {
			wantBitName(t, name+", no such bit", s, bit, "")
		}
	}
}

func TestBitNames(t *testing.T) {
	wantBitNames(t, "the example", fiveAndTwo(), "v0.2", "v0.1", "v0.0", "v1.0")
	wantBitNames(t, "one variable", oneVar(-10, 9, 0), "v0.4", "v0.3", "v0.2", "v0.1", "v0.0")
	wantBitNames(t, "one value", oneVar(3, 3, 3))
	wantBitNames(t, "one value of five", spans(1, 1, 1, 1, 1))
	wantBitNames(t, "one value between", spans(3, 1, 4), "v0.1", "v0.0", "v2.1", "v2.0")
	wantBitNames(t, "one value at both ends", spans(1, 6, 1), "v1.2", "v1.1", "v1.0")
	wantBitNames(t, "one value ahead of the last one", spans(1, 1, 1, 1, 2), "v4.0")
	wantBitNames(t, "eleven bits", spans(5, 5, 5, 3), "v0.2", "v0.1", "v0.0", "v1.2", "v1.1", "v1.0", "v2.2", "v2.1", "v2.0", "v3.1", "v3.0")
	wantBitNames(t, "with rules", pair(), "v0.1", "v0.0", "v1.1", "v1.0")
	for _, c := range wideSystems() {
		wantBitNames(t, c.name, c.s, namesByHand(c.s)...)
	}
}

// A bit has the name of a variable and an exponent just if these tell what it is in each state.
func TestBitNamesTellBits(t *testing.T) {
	r := rand.New(rand.NewSource(64))
	for range 300 {
		s := someSystem(r, maxStates)
		wantBitNames(t, "by hand", s, namesByHand(s)...)
		state := someStateOf(r, s)
		for bit, n := range impl.StateBits(s, state) {
			name := impl.BitName(s, bit)
			if len(name) != len("v0.0") {
				t.Fatalf("%v: the bit %d is named %q", s, bit, name)
			}
			v, exponent := int(name[1]-'0'), int(name[3]-'0')
			if (state[v]-s.Vars[v].Low)>>exponent%2 != n {
				t.Errorf("%v: the bit %d of %v is %d, and its name %s", s, bit, state, n, name)
			}
		}
	}
}

func TestApartBits(t *testing.T) {
	wantApart(t, "one bit", six(), []int{0, 5}, []int{1, 5}, 1)
	wantApart(t, "both bits of one variable", six(), []int{0, 6}, []int{0, 7}, 2)
	wantApart(t, "all bits", six(), []int{0, 6}, []int{1, 7}, 3)
	wantApart(t, "values below 0", oneVar(-9, 10, 0), []int{-9}, []int{6}, 4)
	wantApart(t, "the bits of values, not of numbers", oneVar(-1, 2, 0), []int{-1}, []int{0}, 1)
	wantApart(t, "from 15 to 16", oneVar(0, 19, 0), []int{15}, []int{16}, 5)
	wantApart(t, "one value", oneVar(4, 4, 4), []int{4}, []int{4}, 0)
	wantApart(t, "one value of five", spans(1, 1, 1, 1, 1), []int{0, -1, -2, -3, -4}, []int{0, -1, -2, -3, -4}, 0)
	wantApart(t, "eleven bits", spans(5, 5, 5, 3), []int{4, 3, 2, -1}, []int{3, 2, 1, -2}, 11)
	wantApart(t, "at both ends", spans(20, 20), []int{0, 18}, []int{16, 2}, 2)
	wantApart(t, "with rules", pair(), []int{2, 7}, []int{1, 6}, 4)
}

func TestApartBitsOfSomeStates(t *testing.T) {
	r := rand.New(rand.NewSource(65))
	for range 400 {
		s := someSystem(r, maxStates)
		a, b := someStateOf(r, s), someStateOf(r, s)
		wantApart(t, "by hand", s, a, b, apartByHand(s, a, b))
		wantApart(t, "the same state", s, a, slices.Clone(a), 0)
		if !slices.Equal(a, b) && impl.ApartBits(s, a, b) == 0 {
			t.Errorf("%v: %v and %v have the same bits", s, a, b)
		}
	}
}
