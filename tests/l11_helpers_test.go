package tests

import (
	"fmt"
	"math/rand"
	"slices"
	"testing"

	"loop.example/wholecheck/impl"
)

// The numbers of the document's chapter 11, written out.
const maxAtoms, maxClauses = 700, 2500

func clausesOver(atoms int, list ...[]int) impl.Clauses {
	return impl.Clauses{Atoms: atoms, List: list}
}

// chainOf returns clauses that let each of so many atoms follow from the one ahead of it, the last step first.
func chainOf(atoms int) impl.Clauses {
	f := clausesOver(atoms)
	for atom := atoms; atom > 1; atom-- {
		f.List = append(f.List, []int{1 - atom, atom})
	}
	return f
}

// contraries returns the contrary of each literal.
func contraries(list []int) []int {
	var other []int
	for _, literal := range list {
		other = append(other, -literal)
	}
	return other
}

// allOfOneSign returns the literals of so many atoms, all of them true for the same bit.
func allOfOneSign(atoms int, sign int) []int {
	var clause []int
	for atom := range atoms {
		clause = append(clause, sign*(atom+1))
	}
	return clause
}

func isClauseByHand(clause []int, atoms int) bool {
	if atoms < 0 || atoms > maxAtoms {
		return false
	}
	last := 0
	for _, literal := range clause {
		is := slices.Contains(allOfOneSign(atoms, 1), literal) || slices.Contains(allOfOneSign(atoms, -1), literal)
		if !is || literal <= last && -literal <= last {
			return false
		}
		last = max(literal, -literal)
	}
	return true
}

// clauseOfByHand looks for each atom whether one of its literals is in the list.
func clauseOfByHand(list []int, atoms int) ([]int, bool) {
	var clause []int
	found := 0
	for atom := 1; atom <= atoms; atom++ {
		is, not := slices.Contains(list, atom), slices.Contains(list, -atom)
		switch {
		case is && not:
			return nil, false
		case is:
			clause = append(clause, atom)
		case not:
			clause = append(clause, -atom)
		}
	}
	for _, literal := range list {
		found += boolOf(slices.Contains(clause, literal))
	}
	if found != len(list) || atoms < 0 || atoms > maxAtoms {
		return nil, false
	}
	return clause, true
}

func isTrueByHand(literal int, values []int) bool {
	if literal < 0 {
		return values[-literal-1] == 0
	}
	return values[literal-1] == 1
}

func isTrueClauseByHand(clause []int, values []int) bool {
	return slices.ContainsFunc(clause, func(literal int) bool { return isTrueByHand(literal, values) })
}

func areTrueByHand(f impl.Clauses, values []int) bool {
	return !slices.ContainsFunc(f.List, func(clause []int) bool { return !isTrueClauseByHand(clause, values) })
}

// allTrueByHand reports whether each of some literals is true, beside the clauses.
func allTrueByHand(literals []int, values []int) bool {
	return !slices.ContainsFunc(literals, func(literal int) bool { return !isTrueByHand(literal, values) })
}

// forcedByHand passes over all clauses again and again, by the words of the document.
func forcedByHand(f impl.Clauses, given []int) ([]int, bool) {
	are := map[int]bool{}
	for _, literal := range given {
		are[literal] = true
	}
	for more := true; more; {
		more = false
		for _, clause := range f.List {
			if slices.ContainsFunc(clause, func(literal int) bool { return are[literal] }) {
				continue
			}
			open := slices.DeleteFunc(slices.Clone(clause), func(literal int) bool { return are[-literal] })
			if len(open) == 0 {
				return nil, false
			}
			if len(open) == 1 {
				are[open[0]] = true
				more = true
			}
		}
	}
	var forced []int
	for atom := 1; atom <= f.Atoms; atom++ {
		for _, literal := range []int{atom, -atom} {
			if are[literal] {
				forced = append(forced, literal)
			}
		}
	}
	return forced, true
}

func resolvedByHand(a []int, b []int, atom int) ([]int, bool) {
	var both []int
	for _, literal := range a {
		if literal != atom {
			both = append(both, literal)
		}
	}
	for _, literal := range b {
		if literal != -atom {
			both = append(both, literal)
		}
	}
	return clauseOfByHand(both, maxAtoms)
}

// putByHand puts the clause of edges behind all others if none is the constant 1 and no two are contrary.
func putByHand(f impl.Clauses, edges ...int) impl.Clauses {
	var clause []int
	for _, edge := range edges {
		if edge == 1 || slices.Contains(edges, contraryByHand(edge)) && edge > 1 {
			return f
		}
		literal := edge / 2
		if edge%2 == 1 {
			literal = -literal
		}
		if edge != 0 && !slices.Contains(clause, literal) {
			clause = append(clause, literal)
		}
	}
	slices.SortFunc(clause, func(a int, b int) int { return max(a, -a) - max(b, -b) })
	f.List = append(f.List, clause)
	return f
}

func clausesOfByHand(c impl.Circuit, edge int) impl.Clauses {
	f := clausesOver(c.Inputs + len(c.Gates))
	for i, g := range c.Gates {
		own := 2 * (1 + c.Inputs + i)
		f = putByHand(f, contraryByHand(own), g.A)
		f = putByHand(f, contraryByHand(own), g.B)
		f = putByHand(f, own, contraryByHand(g.A), contraryByHand(g.B))
	}
	return putByHand(f, edge)
}

func clausesTextByHand(f impl.Clauses) string {
	text := fmt.Sprintf("p cnf %d %d\n", f.Atoms, len(f.List))
	for _, clause := range f.List {
		for _, literal := range clause {
			text += fmt.Sprintf("%d ", literal)
		}
		text += fmt.Sprintf("%d\n", 0)
	}
	return text
}

// clauseOfMany returns a clause with so many literals.
func clauseOfMany(r *rand.Rand, atoms int, many int) []int {
	var clause []int
	for _, at := range r.Perm(atoms)[:many] {
		clause = append(clause, at+1)
	}
	slices.Sort(clause)
	for i := range clause {
		clause[i] *= 1 - 2*r.Intn(2)
	}
	return clause
}

// someClause returns a clause with at most so many literals.
func someClause(r *rand.Rand, atoms int, most int) []int {
	return clauseOfMany(r, atoms, r.Intn(min(most, atoms)+1))
}

// someClauses returns at most so many clauses, few of them empty.
func someClauses(r *rand.Rand, atoms int, most int, longest int) impl.Clauses {
	f := clausesOver(atoms)
	for range r.Intn(most + 1) {
		clause := someClause(r, atoms, longest)
		if len(clause) == 0 && r.Intn(8) > 0 {
			continue
		}
		f.List = append(f.List, clause)
	}
	return f
}

// shownClauses are clauses that are written without most of them if there are many.
type shownClauses impl.Clauses

func (f shownClauses) String() string {
	if len(f.List) <= 20 {
		return fmt.Sprintf("{%d %v}", f.Atoms, f.List)
	}
	return fmt.Sprintf("{%d, %d clauses, the last ones %v}", f.Atoms, len(f.List), f.List[len(f.List)-3:])
}

func areSameClauses(f impl.Clauses, g impl.Clauses) bool {
	return f.Atoms == g.Atoms && slices.EqualFunc(f.List, g.List, slices.Equal)
}

func wantClauseValid(t *testing.T, name string, clause []int, atoms int, want bool) {
	t.Helper()
	if got := impl.ClauseValid(clause, atoms); got != want {
		t.Errorf("%s: ClauseValid(%v, %d) = %v", name, clause, atoms, got)
	}
}

func wantClausesValid(t *testing.T, name string, f impl.Clauses, want bool) {
	t.Helper()
	if got := impl.ClausesValid(f); got != want {
		t.Errorf("%s: ClausesValid(%v) = %v", name, shownClauses(f), got)
	}
}

func wantClauseOf(t *testing.T, name string, list []int, atoms int, want ...int) {
	t.Helper()
	if got, ok := impl.ClauseOf(list, atoms); !ok || !slices.Equal(got, want) {
		t.Errorf("%s: ClauseOf(%v, %d) = %v, %v, want %v", name, list, atoms, got, ok, want)
	}
}

func wantNoClauseOf(t *testing.T, name string, list []int, atoms int) {
	t.Helper()
	if got, ok := impl.ClauseOf(list, atoms); ok || len(got) > 0 {
		t.Errorf("%s: ClauseOf(%v, %d) = %v, %v, want nothing", name, list, atoms, got, ok)
	}
}

func wantTrueIn(t *testing.T, name string, f impl.Clauses, values []int, want bool) {
	t.Helper()
	if got := impl.TrueIn(f, values); got != want {
		t.Errorf("%s: TrueIn(%v, %v) = %v", name, shownClauses(f), values, got)
	}
}

func wantForced(t *testing.T, name string, f impl.Clauses, given []int, want ...int) {
	t.Helper()
	if got, ok := impl.Forced(f, given); !ok || !slices.Equal(got, want) {
		t.Errorf("%s: Forced(%v, %v) = %v, %v, want %v", name, shownClauses(f), given, got, ok, want)
	}
}

func wantNoForced(t *testing.T, name string, f impl.Clauses, given []int) {
	t.Helper()
	if got, ok := impl.Forced(f, given); ok || len(got) > 0 {
		t.Errorf("%s: Forced(%v, %v) = %v, %v, want nothing", name, shownClauses(f), given, got, ok)
	}
}

// wantForcedByHand checks Forced by the words of the document, and returns whether it finds literals.
func wantForcedByHand(t *testing.T, name string, f impl.Clauses, given []int) bool {
	t.Helper()
	want, ok := forcedByHand(f, given)
	if ok {
		wantForced(t, name, f, given, want...)
	} else {
		wantNoForced(t, name, f, given)
	}
	return ok
}

func wantResolved(t *testing.T, name string, a []int, b []int, atom int, want ...int) {
	t.Helper()
	if got, ok := impl.Resolved(a, b, atom); !ok || !slices.Equal(got, want) {
		t.Errorf("%s: Resolved(%v, %v, %d) = %v, %v, want %v", name, a, b, atom, got, ok, want)
	}
}

func wantNoResolved(t *testing.T, name string, a []int, b []int, atom int) {
	t.Helper()
	if got, ok := impl.Resolved(a, b, atom); ok || len(got) > 0 {
		t.Errorf("%s: Resolved(%v, %v, %d) = %v, %v, want nothing", name, a, b, atom, got, ok)
	}
}

func wantClausesOf(t *testing.T, name string, c impl.Circuit, edge int, want ...[]int) {
	t.Helper()
	f := clausesOver(nodesIn(c)-1, want...)
	if got, ok := impl.ClausesOf(c, edge); !ok || !areSameClauses(got, f) {
		t.Errorf("%s: ClausesOf(%v, %d) = %v, %v, want %v", name, shown(c), edge, shownClauses(got), ok, shownClauses(f))
	}
}

func wantNoClausesOf(t *testing.T, name string, c impl.Circuit, edge int) {
	t.Helper()
	if got, ok := impl.ClausesOf(c, edge); ok || got.Atoms != 0 || len(got.List) > 0 {
		t.Errorf("%s: ClausesOf(%v, %d) = %v, %v, want nothing", name, shown(c), edge, shownClauses(got), ok)
	}
}

func wantInputsOf(t *testing.T, name string, c impl.Circuit, values []int, want ...int) {
	t.Helper()
	if got := impl.InputsOf(c, values); !slices.Equal(got, want) {
		t.Errorf("%s: InputsOf(%v, %v) = %v, want %v", name, shown(c), values, got, want)
	}
}

func wantClausesText(t *testing.T, name string, f impl.Clauses, want string) {
	t.Helper()
	if got := impl.ClausesText(f); got != want {
		t.Errorf("%s: ClausesText(%v) = %q, want %q", name, shownClauses(f), got, want)
	}
}
