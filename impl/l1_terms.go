package impl

import (
	"slices"
	"strconv"
)

// Limits of terms.
const (
	MaxVars   = 5
	MaxTerms  = 40
	MaxNumber = 9999
	MaxText   = 4000
)

// Operations of terms.
const (
	OpConst = 0
	OpVar   = 1
	OpAdd   = 2
	OpSub   = 3
	OpMul   = 4
	OpLess  = 5
	OpEqual = 6
	OpNot   = 7
	OpAnd   = 8
	OpOr    = 9
)

// Kinds of terms.
const (
	KindNone   = 0
	KindNumber = 1
	KindTruth  = 2
)

// Term is a step of an expression: a constant or a variable N, or an operation on the terms A and B of the list.
type Term struct {
	Op int
	N  int
	A  int
	B  int
}

// signs holds what stands between the texts of an operation's two terms.
var signs = [OpOr + 1]string{
	OpAdd:   "+",
	OpSub:   "-",
	OpMul:   "*",
	OpLess:  "<",
	OpEqual: "=",
	OpAnd:   "&",
	OpOr:    "|",
}

// ends is a least and a greatest value.
type ends struct {
	low  int
	high int
}

// KindsOf returns the kind of each term; nothing if the list is no expression.
func KindsOf(list []Term, vars int) []int {
	if vars < 0 || vars > MaxVars || len(list) < 1 || len(list) > MaxTerms {
		return nil
	}
	kinds := make([]int, 0, len(list))
	for _, t := range list {
		kind := kindOf(t, kinds, vars)
		if kind == KindNone {
			return nil
		}
		kinds = append(kinds, kind)
	}
	return kinds
}

// kindOf returns the kind of a term behind terms of the given kinds; KindNone if it can't stand there.
func kindOf(t Term, ahead []int, vars int) int {
	switch t.Op {
	case OpConst:
		return kindIf(t.A == 0 && t.B == 0 && isNumber(t.N), KindNumber)
	case OpVar:
		return kindIf(t.A == 0 && t.B == 0 && t.N >= 0 && t.N < vars, KindNumber)
	case OpAdd, OpSub, OpMul:
		return kindIf(isOfTwo(t, ahead, KindNumber), KindNumber)
	case OpLess, OpEqual:
		return kindIf(isOfTwo(t, ahead, KindNumber), KindTruth)
	case OpNot:
		return kindIf(t.A == t.B && isOfTwo(t, ahead, KindTruth), KindTruth)
	case OpAnd, OpOr:
		return kindIf(isOfTwo(t, ahead, KindTruth), KindTruth)
	}
	return KindNone
}

func kindIf(well bool, kind int) int {
	if well {
		return kind
	}
	return KindNone
}

// isOfTwo reports whether an operation's A and B are terms ahead of it, both of one kind.
func isOfTwo(t Term, ahead []int, kind int) bool {
	return t.N == 0 && isKindAt(ahead, t.A, kind) && isKindAt(ahead, t.B, kind)
}

func isKindAt(kinds []int, place int, kind int) bool {
	return place >= 0 && place < len(kinds) && kinds[place] == kind
}

func isNumber(n int) bool {
	return n >= -MaxNumber && n <= MaxNumber
}

func areNumbers(values []int) bool {
	for _, n := range values {
		if !isNumber(n) {
			return false
		}
	}
	return true
}

// TermsValid reports whether a list of terms is an expression.
func TermsValid(list []Term, vars int) bool {
	return len(KindsOf(list, vars)) > 0
}

// Eval returns the value of an expression in a state.
func Eval(list []Term, state []int) (int, bool) {
	if !areNumbers(state) || !TermsValid(list, len(state)) {
		return 0, false
	}
	return valueIn(list, state), true
}

// valueIn checks nothing: who evaluates one expression in many states checks it once.
func valueIn(list []Term, state []int) int {
	var room [MaxTerms]int
	values := room[:0]
	for _, t := range list {
		values = append(values, valueOf(t, values, state))
	}
	return values[len(values)-1]
}

// valueOf returns the value of a term behind terms of the given values.
func valueOf(t Term, ahead []int, state []int) int {
	switch t.Op {
	case OpConst:
		return t.N
	case OpVar:
		return state[t.N]
	}
	a, b := ahead[t.A], ahead[t.B]
	switch t.Op {
	case OpAdd:
		return held(a + b)
	case OpSub:
		return held(a - b)
	case OpMul:
		return held(a * b)
	case OpLess:
		return truth(a < b)
	case OpEqual:
		return truth(a == b)
	case OpNot:
		return 1 - a
	case OpAnd:
		return a & b
	}
	return a | b
}

func held(n int) int {
	return max(-MaxNumber, min(n, MaxNumber))
}

func truth(is bool) int {
	if is {
		return 1
	}
	return 0
}

// UsedBy returns the variables of which an expression depends, ascending.
func UsedBy(list []Term, vars int) []int {
	if !TermsValid(list, vars) {
		return nil
	}
	words := make([]uint, 0, len(list))
	for _, t := range list {
		words = append(words, usedOf(t, words))
	}
	var used []int
	for v := range vars {
		if words[len(words)-1]>>v&1 == 1 {
			used = append(used, v)
		}
	}
	return used
}

// usedOf returns a bit for each variable that a term is made of.
func usedOf(t Term, ahead []uint) uint {
	switch t.Op {
	case OpConst:
		return 0
	case OpVar:
		return 1 << t.N
	}
	return ahead[t.A] | ahead[t.B]
}

// Joined returns an expression made of two by an operation.
func Joined(op int, a []Term, b []Term, vars int) []Term {
	if !TermsValid(a, vars) || !TermsValid(b, vars) || op < OpAdd || op > OpOr {
		return nil
	}
	joined := slices.Clone(a)
	last := Term{Op: op, A: len(a) - 1, B: len(a) - 1}
	if op != OpNot {
		joined = append(joined, movedBehind(b, len(a))...)
		last.B = len(joined) - 1
	}
	joined = append(joined, last)
	if !TermsValid(joined, vars) {
		return nil
	}
	return joined
}

// movedBehind returns the terms of an expression as they stand behind so many others.
func movedBehind(list []Term, many int) []Term {
	moved := slices.Clone(list)
	for i, t := range moved {
		if t.Op >= OpAdd {
			moved[i].A += many
			moved[i].B += many
		}
	}
	return moved
}

// Shifted returns an expression over other variables.
func Shifted(list []Term, vars int, by int) []Term {
	if !TermsValid(list, vars) || by < 0 || by > MaxVars-vars {
		return nil
	}
	shifted := slices.Clone(list)
	for i, t := range shifted {
		if t.Op == OpVar {
			shifted[i].N += by
		}
	}
	return shifted
}

// RangeOf returns between which values an expression lies when its variables lie between others.
func RangeOf(list []Term, low []int, high []int) (int, int, bool) {
	if !areEnds(low, high) || !TermsValid(list, len(low)) {
		return 0, 0, false
	}
	between := make([]ends, 0, len(list))
	for _, t := range list {
		between = append(between, endsOf(t, between, low, high))
	}
	last := between[len(between)-1]
	return last.low, last.high, true
}

func areEnds(low []int, high []int) bool {
	if len(low) != len(high) || !areNumbers(low) || !areNumbers(high) {
		return false
	}
	for i, n := range low {
		if n > high[i] {
			return false
		}
	}
	return true
}

// endsOf returns the ends of a term behind terms with the given ones.
func endsOf(t Term, ahead []ends, low []int, high []int) ends {
	switch t.Op {
	case OpConst:
		return ends{t.N, t.N}
	case OpVar:
		return ends{low[t.N], high[t.N]}
	}
	a, b := ahead[t.A], ahead[t.B]
	switch t.Op {
	case OpAdd:
		return ends{held(a.low + b.low), held(a.high + b.high)}
	case OpSub:
		return ends{held(a.low - b.high), held(a.high - b.low)}
	case OpMul:
		return productEnds(a, b)
	case OpLess:
		return ends{truth(a.high < b.low), truth(a.low < b.high)}
	case OpEqual:
		return equalEnds(a, b)
	case OpNot:
		return ends{1 - a.high, 1 - a.low}
	case OpAnd:
		return ends{a.low & b.low, a.high & b.high}
	}
	return ends{a.low | b.low, a.high | b.high}
}

// productEnds returns the ends of a product: with signs, any of the four products may be the least.
func productEnds(a ends, b ends) ends {
	products := [4]int{a.low * b.low, a.low * b.high, a.high * b.low, a.high * b.high}
	return ends{held(slices.Min(products[:])), held(slices.Max(products[:]))}
}

// equalEnds returns whether two must be equal, and whether they can be.
func equalEnds(a ends, b ends) ends {
	must := a.low == a.high && a == b
	can := max(a.low, b.low) <= min(a.high, b.high)
	return ends{truth(must), truth(can)}
}

// TermsText returns an expression as text.
func TermsText(list []Term, vars int) string {
	if !TermsValid(list, vars) {
		return ""
	}
	texts := make([]string, 0, len(list))
	for _, t := range list {
		text := textOf(t, texts)
		// Texts can double from term to term, so the first that is too long ends it all.
		if len(text) > MaxText {
			return ""
		}
		texts = append(texts, text)
	}
	return texts[len(texts)-1]
}

// textOf returns the text of a term behind terms with the given texts.
func textOf(t Term, ahead []string) string {
	switch t.Op {
	case OpConst:
		return strconv.Itoa(t.N)
	case OpVar:
		return "v" + strconv.Itoa(t.N)
	case OpNot:
		return "!" + ahead[t.A]
	}
	return "(" + ahead[t.A] + " " + signs[t.Op] + " " + ahead[t.B] + ")"
}
