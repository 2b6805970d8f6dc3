package tests

import (
	"fmt"
	"math/rand"
	"slices"
	"testing"

	"loop.example/wholecheck/impl"
)

func TestNoBitsOfNoSystem(t *testing.T) {
	for _, c := range noSystems() {
		wantWidths(t, c.name, c.s)
		for _, state := range [][]int{c.state, firstValues(c.s), {1, 6}, {0}, nil} {
			wantStateBits(t, c.name, c.s, state)
			wantApart(t, c.name, c.s, state, state, -1)
			wantApart(t, c.name, c.s, state, c.state, -1)
		}
		for _, row := range [][]int{nil, {}, {0}, {1}, {0, 0, 0, 0}, {0, 1, 0, 1}, make([]int, maxBits), make([]int, maxBits+1)} {
			wantBitsState(t, c.name, c.s, row)
		}
		for _, set := range [][]int{nil, {}, {0}, {1, 2}, {-1}, {399}} {
			wantAllBits(t, c.name, c.s, set)
		}
		for _, bit := range []int{-1, 0, 1, 4, 11, 12, 13, greatest, least} {
			wantBitName(t, c.name, c.s, bit, "")
		}
	}
}

func TestNoBitsOfNoState(t *testing.T) {
	for _, s := range []impl.System{stayer(), {Vars: pair().Vars}, pair()} {
		for _, none := range append(noStates(), []int{0}, []int{5}, []int{0, 0}, []int{1, -10000}) {
			wantStateBits(t, "no state", s, none)
			wantApart(t, "no state and a state", s, none, []int{1, 6}, -1)
			wantApart(t, "no state at all", s, none, none, -1)
		}
	}
	for _, c := range wideSystems() {
		for _, none := range statesBeside(c) {
			wantStateBits(t, c.name, c.s, none)
			wantApart(t, c.name, c.s, none, c.first, -1)
			wantApart(t, c.name, c.s, none, none, -1)
		}
	}
}

// statesBeside returns what would be a state if it had another value, or fewer or more of them.
func statesBeside(c sizedSystem) [][]int {
	list := states(append(slices.Clone(c.first), 0), c.first[1:], nil)
	for i, v := range c.s.Vars {
		for _, n := range []int{v.Low - 1, v.High + 1, v.Low + 32, v.Low - 32, greatest, least} {
			none := slices.Clone(c.first)
			none[i] = n
			list = append(list, none)
		}
	}
	return list
}

// notBits are numbers that are no bits, some of which have the lowest bit of one.
var notBits = []int{2, 3, -1, -2, 4, 10, 255, 256, 257, greatest, least, least + 1}

func TestNoValueOfNoBits(t *testing.T) {
	for many := 1; many <= maxBits; many++ {
		for at := range many {
			for _, n := range notBits {
				for _, row := range rows(make([]int, many), slices.Repeat([]int{1}, many)) {
					row[at] = n
					wantBitsValue(t, row, -1)
				}
			}
		}
	}
}

func TestNoValueOfTooManyBits(t *testing.T) {
	for _, many := range []int{maxBits + 1, maxBits + 2, 16, 31, 32, 33, 63, 64, 65, 66, 1000} {
		wantBitsValue(t, make([]int, many), -1)
		wantBitsValue(t, slices.Repeat([]int{1}, many), -1)
		wantBitsValue(t, slices.Repeat([]int{2}, many), -1)
		wantBitsValue(t, append(make([]int, many-1), 1), -1)
	}
}

func TestNoValueBits(t *testing.T) {
	for many := range maxBits + 1 {
		for _, n := range []int{1 << many, 1<<many + 1, 1 << (many + 1), 1 << 13, 1 << 40, greatest, -1, -2, -1 << many, least, least + 1} {
			wantValueBits(t, n, many)
		}
	}
	for _, many := range []int{-1, -2, -12, -64, least, least + 1, maxBits + 1, maxBits + 2, 32, 63, 64, 65, greatest - 1, greatest} {
		for _, n := range []int{0, 1, 5, 4095, 4096, -1, greatest, least} {
			wantValueBits(t, n, many)
		}
	}
}

func TestNoStateOfNoBits(t *testing.T) {
	for _, c := range wideSystems() {
		for at := range widthOf(c.s) {
			for _, n := range notBits {
				row := stateBitsByHand(c.s, c.first)
				row[at] = n
				wantBitsState(t, c.name+", no bits", c.s, row)
				row = make([]int, len(row))
				row[at] = n
				wantBitsState(t, c.name+", no bits", c.s, row)
			}
		}
	}
}

func TestNoStateOfOtherNumbersOfBits(t *testing.T) {
	for _, c := range wideSystems() {
		width := widthOf(c.s)
		for _, many := range []int{0, 1, 2, 3, 4, 5, 6, 7, 8, 9, 10, 11, 12, 13, 25, 32, 63, 64, 65, 64 + width, 1000} {
			if many != width {
				wantBitsState(t, fmt.Sprintf("%s, %d bits", c.name, many), c.s, make([]int, many))
				wantBitsState(t, fmt.Sprintf("%s, %d bits", c.name, many), c.s, slices.Repeat([]int{1}, many))
			}
		}
		row := stateBitsByHand(c.s, c.first)
		wantBitsState(t, c.name+", one bit more", c.s, append(slices.Clone(row), 0))
		wantBitsState(t, c.name+", one bit more ahead", c.s, append([]int{0}, row...))
		if width > 0 {
			wantBitsState(t, c.name+", one bit less", c.s, row[1:])
			wantBitsState(t, c.name+", one bit less at the end", c.s, row[:width-1])
		}
	}
}

// A value above the greatest one has bits if the variable has not as many values as its bits have rows.
func TestNoStateOfValuesThatAreNone(t *testing.T) {
	for values := 1; values <= maxSpan; values++ {
		s := spans(3, values, 2)
		width := widthByHand(s.Vars[1])
		for n := range 1 << width {
			row := slices.Concat([]int{0, 1}, bitsByHand(n, width), []int{1})
			if n < values {
				wantBitsState(t, "a value", s, row, 1, n-1, -1)
			} else {
				wantBitsState(t, "no value", s, row)
			}
			row[0] = 1
			wantBitsState(t, "no value of another variable", s, row)
		}
	}
}

func TestAllBitsOfNoSets(t *testing.T) {
	for _, s := range []impl.System{stayer(), {Vars: pair().Vars}} {
		for _, c := range noSets(9) {
			wantAllBits(t, c.name, s, c.set)
		}
	}
	for _, c := range noSets(maxStates) {
		wantAllBits(t, c.name+", 400 states", spans(20, 20), c.set)
	}
	for _, set := range [][]int{{0, 1}, {1}, {-1}, {0, 0}, {399}, {greatest}, {least}} {
		wantAllBits(t, "one state", oneVar(4, 4, 4), set)
	}
	for _, set := range [][]int{{9}, {0, 9}, {8, 9, 10}, {64}, {399}, firstNumbers(10), firstNumbers(maxStates)} {
		wantAllBits(t, "a set of greater systems", stayer(), set)
	}
}

func TestNoNamesOfNoBits(t *testing.T) {
	for _, c := range wideSystems() {
		width := widthOf(c.s)
		for bit := width; bit < width+70; bit++ {
			wantBitName(t, c.name, c.s, bit, "")
		}
		for bit := -70; bit < 0; bit++ {
			wantBitName(t, c.name, c.s, bit, "")
		}
	}
}

func TestArgumentsOfBitsStay(t *testing.T) {
	s, numbers, lists := roomy()
	state, wholeState := roomyNumbers(1, 7)
	other, wholeOther := roomyNumbers(2, 5)
	row, wholeRow := roomyNumbers(0, 1, 1, 0)
	set, wholeSet := roomyNumbers(0, 2, 3, 8)
	wantWidths(t, "pair", s, 2, 2)
	wantStateBits(t, "pair", s, state, 0, 1, 1, 0)
	wantBitsState(t, "pair", s, row, 1, 7)
	wantBitsValue(t, row, 6)
	wantAllBits(t, "pair", s, set, []int{0, 0, 0, 0}, []int{0, 0, 1, 0}, []int{0, 1, 0, 0}, []int{1, 0, 1, 0})
	wantBitName(t, "pair", s, 1, "v0.0")
	wantApart(t, "pair", s, state, other, 3)
	for _, c := range []struct{ whole, want []int }{
		{wholeState, []int{1, 7}}, {wholeOther, []int{2, 5}}, {wholeRow, []int{0, 1, 1, 0}}, {wholeSet, []int{0, 2, 3, 8}},
	} {
		_, want := roomyNumbers(c.want...)
		wantNumbers(t, "an argument", c.whole, want)
	}
	_, numbersBefore, listsBefore := roomy()
	wantStates(t, "the lists of variables", numbers, numbersBefore...)
	if !slices.EqualFunc(lists, listsBefore, slices.Equal) {
		t.Errorf("expressions = %v, want %v", lists, listsBefore)
	}
}

func TestResultsOfBitsAreNewMemory(t *testing.T) {
	s, state, row, set := pair(), []int{1, 7}, []int{0, 1, 1, 0}, []int{0, 8}
	for range 2 {
		scribble(impl.BitsOf(s), 99)
		wantWidths(t, "afterwards", s, 2, 2)
		scribble(impl.StateBits(s, state), 98)
		wantStateBits(t, "afterwards", s, state, 0, 1, 1, 0)
		scribble(impl.BitsState(s, row), 97)
		wantBitsState(t, "afterwards", s, row, 1, 7)
		scribble(impl.ValueBits(5, 3), 96)
		wantValueBits(t, 5, 3, 1, 0, 1)
		scribble(impl.AllBits(s, set), []int{95})
		wantAllBits(t, "afterwards", s, set, []int{0, 0, 0, 0}, []int{1, 0, 1, 0})
		wantNumbers(t, "the state", state, []int{1, 7})
		wantNumbers(t, "the bits", row, []int{0, 1, 1, 0})
		wantNumbers(t, "the set", set, []int{0, 8})
	}
}

// No two rows share memory, not even what is unused.
func TestRowsOfBitsShareNoMemory(t *testing.T) {
	r := rand.New(rand.NewSource(66))
	for _, c := range wideSystems() {
		set := someSet(r, c.size)
		want := allBitsByHand(c.s, set)
		got := impl.AllBits(c.s, set)
		for i := range got {
			scribble(got[i], 99)
			wantStates(t, c.name+": the rows behind", got[i+1:], want[i+1:]...)
		}
		got = impl.AllBits(c.s, set)
		for i := len(got) - 1; i >= 0; i-- {
			scribble(got[i], 99)
			wantStates(t, c.name+": the rows ahead", got[:i], want[:i]...)
		}
	}
}
