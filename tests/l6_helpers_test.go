package tests

import (
	"fmt"
	"math/rand"
	"slices"
	"testing"

	"loop.example/wholecheck/impl"
)

// The number of the document's chapter 6, written out.
const maxBits = 12

func rows(list ...[]int) [][]int { return list }

// widthByHand tries numbers of bits until there are as many rows as values.
func widthByHand(v impl.Var) int {
	width, many := 0, 1
	for many < v.High-v.Low+1 {
		width, many = width+1, 2*many
	}
	return width
}

func widthsByHand(s impl.System) []int {
	var widths []int
	for _, v := range s.Vars {
		widths = append(widths, widthByHand(v))
	}
	return widths
}

// widthOf returns how many bits a state of a system has.
func widthOf(s impl.System) int {
	sum := 0
	for _, width := range widthsByHand(s) {
		sum += width
	}
	return sum
}

// bitsByHand halves a number again and again.
func bitsByHand(n int, many int) []int {
	list := make([]int, many)
	for i := many - 1; i >= 0; i-- {
		list[i], n = n%2, n/2
	}
	return list
}

func stateBitsByHand(s impl.System, state []int) []int {
	var list []int
	for i, v := range s.Vars {
		list = append(list, bitsByHand(state[i]-v.Low, widthByHand(v))...)
	}
	return list
}

func allBitsByHand(s impl.System, set []int) [][]int {
	all := allStates(s)
	var list [][]int
	for _, n := range set {
		list = append(list, stateBitsByHand(s, all[n]))
	}
	return list
}

// namesByHand returns the names of all bits of a state.
func namesByHand(s impl.System) []string {
	var names []string
	for i, width := range widthsByHand(s) {
		for exponent := width - 1; exponent >= 0; exponent-- {
			names = append(names, fmt.Sprintf("v%d.%d", i, exponent))
		}
	}
	return names
}

func apartByHand(s impl.System, a []int, b []int) int {
	other := stateBitsByHand(s, b)
	apart := 0
	for i, bit := range stateBitsByHand(s, a) {
		apart += boolOf(bit != other[i])
	}
	return apart
}

// eachRow calls a function with each row of so many bits, by the first bit that differs.
func eachRow(many int, look func(row []int)) {
	for n := range 1 << many {
		look(bitsByHand(n, many))
	}
}

// wideSystems returns systems of many bits, and of none.
func wideSystems() []sizedSystem {
	return append(sizedSystems(),
		sizedSystem{"eleven bits", spans(5, 5, 5, 3), 375, []int{4, 3, 2, -1}},
		sizedSystem{"ten bits of five", spans(3, 3, 3, 3, 3), 243, []int{2, 1, 0, -1, -2}},
		sizedSystem{"one value of five", spans(1, 1, 1, 1, 1), 1, []int{0, -1, -2, -3, -4}},
		sizedSystem{"one value below 0", oneVar(-7, -7, -7), 1, []int{-7}},
		sizedSystem{"one value at both ends", spans(1, 6, 1), 6, []int{0, 4, -2}},
		sizedSystem{"17 values", spans(17, 2), 34, []int{16, 0}},
		sizedSystem{"powers of two", spans(16, 8, 2), 256, []int{15, 6, -1}},
	)
}

func wantWidths(t *testing.T, name string, s impl.System, want ...int) {
	t.Helper()
	wantNumbers(t, name+": BitsOf", impl.BitsOf(s), want)
}

func wantStateBits(t *testing.T, name string, s impl.System, state []int, want ...int) {
	t.Helper()
	if got := impl.StateBits(s, state); !slices.Equal(got, want) {
		t.Errorf("%s: StateBits(%v) = %v, want %v", name, state, got, want)
	}
}

func wantBitsState(t *testing.T, name string, s impl.System, row []int, want ...int) {
	t.Helper()
	if got := impl.BitsState(s, row); !slices.Equal(got, want) {
		t.Errorf("%s: BitsState(%v) = %v, want %v", name, row, got, want)
	}
}

func wantValueBits(t *testing.T, n int, many int, want ...int) {
	t.Helper()
	if got := impl.ValueBits(n, many); !slices.Equal(got, want) {
		t.Errorf("ValueBits(%d, %d) = %v, want %v", n, many, got, want)
	}
}

func wantBitsValue(t *testing.T, row []int, want int) {
	t.Helper()
	if got := impl.BitsValue(row); got != want {
		t.Errorf("BitsValue(%v) = %d, want %d", row, got, want)
	}
}

func wantAllBits(t *testing.T, name string, s impl.System, set []int, want ...[]int) {
	t.Helper()
	wantStates(t, fmt.Sprintf("%s: AllBits(%v)", name, set), impl.AllBits(s, set), want...)
}

func wantBitName(t *testing.T, name string, s impl.System, bit int, want string) {
	t.Helper()
	if got := impl.BitName(s, bit); got != want {
		t.Errorf("%s: BitName(%d) = %q, want %q", name, bit, got, want)
	}
}

// wantApart checks in how many bits two states differ, either one first.
func wantApart(t *testing.T, name string, s impl.System, a []int, b []int, want int) {
	t.Helper()
	if got := impl.ApartBits(s, a, b); got != want {
		t.Errorf("%s: ApartBits(%v, %v) = %d, want %d", name, a, b, got, want)
	}
	if got := impl.ApartBits(s, b, a); got != want {
		t.Errorf("%s: ApartBits(%v, %v) = %d, want %d", name, b, a, got, want)
	}
}

// someRow returns a row of so many bits.
func someRow(r *rand.Rand, many int) []int {
	return bitsByHand(r.Intn(1<<many), many)
}
