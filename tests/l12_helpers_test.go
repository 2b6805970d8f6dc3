package tests

import (
	"math/rand"
	"slices"
	"testing"

	"loop.example/wholecheck/impl"
)

// The numbers of the document's chapter 12, written out.
const maxProof, maxFree = 600, 20

// ended is how a search ends.
type ended struct {
	values    []int
	concluded [][]int
	choices   int
	// is tells that it ended with values, cut that it was cut.
	is, cut bool
}

// forcing tells what follows from literals.
type forcing func(f impl.Clauses, given []int) ([]int, bool)

// searchedBy searches by the words of the document, and asks from the begin what is forced by all that was chosen.
func searchedBy(f impl.Clauses, forced forcing) ended {
	var e ended
	e.goOn(f, nil, forced)
	if e.cut {
		return ended{cut: true}
	}
	return e
}

func (e *ended) goOn(f impl.Clauses, chosen []int, forced forcing) {
	are, can := forced(f, chosen)
	if can && len(are) == f.Atoms {
		e.is, e.values = true, valuesByHand(are)
		return
	}
	if can {
		atom := 1
		for slices.Contains(are, atom) || slices.Contains(are, -atom) {
			atom++
		}
		e.choices++
		for _, literal := range []int{-atom, atom} {
			e.goOn(f, append(slices.Clone(chosen), literal), forced)
			if e.is || e.cut {
				return
			}
		}
	}
	e.concluded = append(e.concluded, contraries(chosen))
	e.cut = len(e.concluded) > maxProof
}

// valuesByHand returns the values of all atoms, given a literal of each.
func valuesByHand(literals []int) []int {
	var values []int
	for _, literal := range literals {
		values = append(values, boolOf(literal > 0))
	}
	return values
}

// canByHand reports whether all clauses can be true together.
func canByHand(f impl.Clauses) bool {
	return len(modelsByHand(f)) > 0
}

// modelsByHand returns all rows of values in which the clauses are true.
func modelsByHand(f impl.Clauses) [][]int {
	var models [][]int
	eachRow(f.Atoms, func(row []int) {
		if areTrueByHand(f, row) {
			models = append(models, slices.Clone(row))
		}
	})
	return models
}

// fixedByRows returns the literals that are true in all of some rows of values.
func fixedByRows(atoms int, models [][]int) []int {
	var fixed []int
	for atom := 1; atom <= atoms && len(models) > 0; atom++ {
		for _, literal := range []int{atom, -atom} {
			if followsByRows(models, []int{literal}) {
				fixed = append(fixed, literal)
			}
		}
	}
	return fixed
}

func followsByRows(models [][]int, clause []int) bool {
	return !slices.ContainsFunc(models, func(row []int) bool { return !isTrueClauseByHand(clause, row) })
}

// coreByHand takes each clause away, from the first one on, if the others that are left can't be true together.
func coreByHand(f impl.Clauses) []int {
	if canByHand(f) {
		return nil
	}
	left := firstNumbers(len(f.List))
	for n := range f.List {
		others := slices.DeleteFunc(slices.Clone(left), func(other int) bool { return other == n })
		g := clausesOver(f.Atoms)
		for _, other := range others {
			g.List = append(g.List, f.List[other])
		}
		if !canByHand(g) {
			left = others
		}
	}
	return left
}

// allClausesOf returns all clauses with a literal of each of some atoms, ascending.
func allClausesOf(atoms ...int) [][]int {
	var list [][]int
	eachRow(len(atoms), func(row []int) {
		var clause []int
		for i, bit := range row {
			clause = append(clause, atoms[i]*(1-2*bit))
		}
		list = append(list, clause)
	})
	return list
}

// mixedClauses returns so many clauses whose lengths are between both.
func mixedClauses(r *rand.Rand, atoms int, many int, shortest int, longest int) impl.Clauses {
	f := clausesOver(atoms)
	for range many {
		f.List = append(f.List, clauseOfMany(r, atoms, shortest+r.Intn(longest-shortest+1)))
	}
	return f
}

// comb returns clauses over so many atoms whose search concludes something under the contrary of each of the first ones, teeth, and goes on under the atom: the last atom follows with either sign.
func comb(teeth int, atoms int) impl.Clauses {
	f := clausesOver(atoms)
	for atom := 1; atom <= teeth; atom++ {
		f.List = append(f.List, []int{atom, atoms}, []int{atom, -atoms})
	}
	return f
}

// fallenComb returns a comb behind whose last tooth there are no values.
func fallenComb(teeth int, atoms int) impl.Clauses {
	f := comb(teeth, atoms)
	f.List = append(f.List, []int{-teeth, atoms}, []int{-teeth, -atoms})
	return f
}

// combValues returns the values with which the search of a comb ends.
func combValues(teeth int, atoms int) []int {
	return append(slices.Repeat([]int{1}, teeth), make([]int, atoms-teeth)...)
}

// fallenCombProof returns the conclusions of the search of a comb that is fallen.
func fallenCombProof(teeth int) [][]int {
	var proof [][]int
	for tooth := 1; tooth <= teeth; tooth++ {
		proof = append(proof, append(allOfOneSign(tooth-1, -1), tooth))
	}
	for tooth := teeth; tooth >= 0; tooth-- {
		proof = append(proof, allOfOneSign(tooth, -1))
	}
	return proof
}

// brief is a list that is written without most of it if it is long.
func brief[V any](list []V) []V { return list[:min(len(list), 30)] }

func wantSolve(t *testing.T, name string, f impl.Clauses, want ...int) {
	t.Helper()
	if got, ok := impl.Solve(f); !ok || !slices.Equal(got, want) {
		t.Errorf("%s: Solve(%v) = %v, %v, want %v", name, shownClauses(f), brief(got), ok, brief(want))
	}
}

func wantNoSolve(t *testing.T, name string, f impl.Clauses) {
	t.Helper()
	if got, ok := impl.Solve(f); ok || len(got) > 0 {
		t.Errorf("%s: Solve(%v) = %v, %v, want nothing", name, shownClauses(f), brief(got), ok)
	}
}

func wantRefute(t *testing.T, name string, f impl.Clauses, want ...[]int) {
	t.Helper()
	if got, ok := impl.Refute(f); !ok || !slices.EqualFunc(got, want, slices.Equal) {
		t.Errorf("%s: Refute(%v) = %d conclusions %v, %v, want %d, %v", name, shownClauses(f), len(got), brief(got), ok, len(want), brief(want))
	}
}

func wantNoRefute(t *testing.T, name string, f impl.Clauses) {
	t.Helper()
	if got, ok := impl.Refute(f); ok || len(got) > 0 {
		t.Errorf("%s: Refute(%v) = %v, %v, want nothing", name, shownClauses(f), brief(got), ok)
	}
}

func wantDecide(t *testing.T, name string, f impl.Clauses, want int) {
	t.Helper()
	if got, ok := impl.Decide(f); !ok || got != want {
		t.Errorf("%s: Decide(%v) = %d, %v, want %d", name, shownClauses(f), got, ok, want)
	}
}

func wantNoDecide(t *testing.T, name string, f impl.Clauses) {
	t.Helper()
	if got, ok := impl.Decide(f); ok || got != 0 {
		t.Errorf("%s: Decide(%v) = %d, %v, want 0 and false", name, shownClauses(f), got, ok)
	}
}

// wantValues checks a search that ends with values.
func wantValues(t *testing.T, name string, f impl.Clauses, choices int, values ...int) {
	t.Helper()
	wantSolve(t, name, f, values...)
	wantNoRefute(t, name, f)
	wantDecide(t, name, f, choices)
}

// wantProof checks a search that ends without values.
func wantProof(t *testing.T, name string, f impl.Clauses, choices int, proof ...[]int) {
	t.Helper()
	wantNoSolve(t, name, f)
	wantRefute(t, name, f, proof...)
	wantDecide(t, name, f, choices)
}

// wantCut checks a search that is cut; it tells as much of what are no clauses.
func wantCut(t *testing.T, name string, f impl.Clauses) {
	t.Helper()
	wantNoSolve(t, name, f)
	wantNoRefute(t, name, f)
	wantNoDecide(t, name, f)
}

// wantEnded checks a search by the words of the document.
func wantEnded(t *testing.T, name string, f impl.Clauses, forced forcing) ended {
	t.Helper()
	want := searchedBy(f, forced)
	switch {
	case want.cut:
		wantCut(t, name, f)
	case want.is:
		wantValues(t, name, f, want.choices, want.values...)
	default:
		wantProof(t, name, f, want.choices, want.concluded...)
	}
	return want
}

func wantModels(t *testing.T, name string, f impl.Clauses, want int) {
	t.Helper()
	if got := impl.CountModels(f); got != want {
		t.Errorf("%s: CountModels(%v) = %d, want %d", name, shownClauses(f), got, want)
	}
}

func wantFixedLits(t *testing.T, name string, f impl.Clauses, want ...int) {
	t.Helper()
	if got := impl.FixedLits(f); !slices.Equal(got, want) {
		t.Errorf("%s: FixedLits(%v) = %v, want %v", name, shownClauses(f), got, want)
	}
}

func wantFollowsFrom(t *testing.T, name string, f impl.Clauses, clause []int, want bool) {
	t.Helper()
	if got := impl.FollowsFrom(f, clause); got != want {
		t.Errorf("%s: FollowsFrom(%v, %v) = %v", name, shownClauses(f), clause, got)
	}
}

func wantCore(t *testing.T, name string, f impl.Clauses, want ...int) {
	t.Helper()
	if got := impl.CoreOf(f); !slices.Equal(got, want) {
		t.Errorf("%s: CoreOf(%v) = %d clauses %v, want %d, %v", name, shownClauses(f), len(got), brief(got), len(want), brief(want))
	}
}
