package tests

import (
	"math/rand"
	"testing"

	"loop.example/wholecheck/impl"
)

func TestTheLastFork(t *testing.T) {
	for _, vars := range []int{5, 12} {
		d := longDiagram(vars, maxForks-1)
		full := withForks(d, [3]int{0, 2, 3})
		wantFork(t, "the last fork", d, 0, 2, 3, drawn{full, maxForks + 1})
		wantFork(t, "a fork that is there", full, 0, 2, 3, drawn{full, maxForks + 1})
		wantFork(t, "the first fork", full, vars-1, 0, 1, drawn{full, 2})
		wantFork(t, "a place twice", full, 0, 3, 3, drawn{full, 3})
		wantFork(t, "the last place ahead twice", full, 0, maxForks, maxForks, drawn{full, maxForks})
		wantFork(t, "one fork too many", full, 0, 3, 2, noDrawing())
		wantFork(t, "one fork too many, of constants", full, 0, 0, 1, noDrawing())
		wantFork(t, "one fork too many, of the last place ahead", full, 0, maxForks, 1, noDrawing())
	}
}

// crowded puts forks of other, later variables ahead of those of a diagram, so many that there is room for just some more; its own places are higher by the number that is returned.
func crowded(d impl.Diagram, room int) (impl.Diagram, int) {
	by := maxForks - room - len(d.Forks)
	c := longDiagram(maxInputs, by)
	for _, f := range d.Forks {
		c = withForks(c, [3]int{f.Var, movedPlace(f.Low, by), movedPlace(f.High, by)})
	}
	return c, by
}

// movedPlace returns where a place is when so many forks stand ahead of all others.
func movedPlace(n int, by int) int {
	if n < 2 {
		return n
	}
	return n + by
}

// drawing is what is made of a diagram whose places are higher by a number, and what the document says of it.
type drawing func(d impl.Diagram, by int) (got drawn, want drawn)

func notOf(n int) drawing {
	return func(d impl.Diagram, by int) (drawn, drawn) {
		return drawnOf(impl.DiagramNot(d, n+by)), drawnOf(combinedByHand(d, n+by, 1, notDecides))
	}
}

func andOf(a int, b int) drawing {
	return func(d impl.Diagram, by int) (drawn, drawn) {
		return drawnOf(impl.DiagramAnd(d, a+by, b+by)), drawnOf(combinedByHand(d, a+by, b+by, andDecides))
	}
}

func orOf(a int, b int) drawing {
	return func(d impl.Diagram, by int) (drawn, drawn) {
		return drawnOf(impl.DiagramOr(d, a+by, b+by)), drawnOf(combinedByHand(d, a+by, b+by, orDecides))
	}
}

func fixOf(n int, v int, value int) drawing {
	return func(d impl.Diagram, by int) (drawn, drawn) {
		return drawnOf(impl.DiagramFix(d, n+by, v, value)), drawnOf(fixOfPlaceByHand(d, n+by, v, value))
	}
}

func someOfPlace(n int, vars ...int) drawing {
	return func(d impl.Diagram, by int) (drawn, drawn) {
		return drawnOf(impl.DiagramSome(d, n+by, vars)), drawnOf(someByHand(d, n+by, vars))
	}
}

// wantRoom checks that something can be made just if there is room for so many forks.
func wantRoom(t *testing.T, name string, d impl.Diagram, needs int, make drawing) {
	t.Helper()
	for room := range needs + 3 {
		c, by := crowded(d, room)
		wantDiagramValid(t, name, c, true)
		got, want := make(c, by)
		if !got.is(want) {
			t.Errorf("%s with room for %d forks = %v, want %v", name, room, got, want)
		}
		if (got.place >= 0) != (room >= needs) {
			t.Errorf("%s with room for %d forks needs %d, and is %v", name, room, needs, got)
		}
	}
}

func TestRoomsForPlaces(t *testing.T) {
	wantRoom(t, "Not", majority(), 4, notOf(5))
	wantRoom(t, "Not of one fork", majority(), 1, notOf(2))
	wantRoom(t, "Not that is there in part", withForks(majority(), [3]int{2, 1, 0}, [3]int{1, 6, 0}), 2, notOf(5))
	wantRoom(t, "Not that is there", diagram(2, [3]int{1, 0, 1}, [3]int{1, 1, 0}, [3]int{0, 2, 3}, [3]int{0, 3, 2}), 0, notOf(4))
	wantRoom(t, "And", differing(), 3, andOf(5, 3))
	wantRoom(t, "And, one side alone", differing(), 1, andOf(5, 4))
	wantRoom(t, "And of contraries", differing(), 0, andOf(4, 2))
	wantRoom(t, "And with itself", differing(), 0, andOf(5, 5))
	wantRoom(t, "Or", differing(), 3, orOf(5, 3))
	wantRoom(t, "Or, one side alone", differing(), 1, orOf(5, 4))
	wantRoom(t, "Or of contraries", differing(), 0, orOf(4, 2))
	wantRoom(t, "Or with itself", differing(), 0, orOf(5, 5))
	wantRoom(t, "Fix", majority(), 2, fixOf(5, 2, 0))
	wantRoom(t, "Fix to 1", majority(), 2, fixOf(5, 2, 1))
	wantRoom(t, "Fix of one fork", majority(), 1, fixOf(5, 1, 1))
	wantRoom(t, "Fix of its own variable", majority(), 0, fixOf(5, 0, 1))
	wantRoom(t, "Fix that is there", withForks(majority(), [3]int{0, 2, 1}), 0, fixOf(5, 1, 1))
}

// What is made of both values needs room, too, even if nothing comes to it in the end.
func TestRoomsForSome(t *testing.T) {
	wantRoom(t, "its own variable", majority(), 0, someOfPlace(5, 0))
	wantRoom(t, "both values", majority(), 2, someOfPlace(5, 1))
	wantRoom(t, "both values and a fork that they share", majority(), 3, someOfPlace(5, 2))
	wantRoom(t, "both values and Or", diagram(3, [3]int{2, 0, 1}, [3]int{2, 1, 0}, [3]int{1, 0, 2}, [3]int{1, 3, 0}, [3]int{0, 4, 5}), 3, someOfPlace(6, 1))
	wantRoom(t, "a constant in the end", differing(), 2, someOfPlace(5, 1))
	wantRoom(t, "two variables, a constant in the end", majority(), 3, someOfPlace(5, 1, 2))
	wantRoom(t, "no variables", majority(), 0, someOfPlace(5))
	wantRoom(t, "later variables", majority(), 0, someOfPlace(5, 4, 11))
	wantRoom(t, "forks that are there", withForks(majority(), [3]int{0, 2, 1}, [3]int{0, 0, 2}), 0, someOfPlace(5, 1))
	wantRoom(t, "one fork that is there", withForks(majority(), [3]int{0, 2, 1}), 1, someOfPlace(5, 1))
}

func TestRoomsThatEnd(t *testing.T) {
	r := rand.New(rand.NewSource(92))
	for vars, tries := range map[int]int{4: 200, 5: 400, 7: 200, 12: 30} {
		full := crowdedDiagram(r, vars, maxForks)
		wantDiagramValid(t, "2000 forks", full, true)
		for range tries {
			d := impl.Diagram{Vars: vars, Forks: full.Forks[:maxForks-r.Intn(12)]}
			wantAllByHand(t, "rooms that end", r, d)
			v, low, high := r.Intn(vars), somePlace(r, d), somePlace(r, d)
			if v < min(variableByHand(d, low), variableByHand(d, high)) {
				wantFork(t, "rooms that end", d, v, low, high, drawnOf(forkByHand(d, v, low, high)))
			}
		}
	}
}

// From 1500 forks on until there is no room, what is told is a diagram, or nothing.
func TestFillingDiagrams(t *testing.T) {
	r := rand.New(rand.NewSource(93))
	for _, vars := range []int{6, 9} {
		d := crowdedDiagram(r, vars, 1500)
		refused := 0
		for range 600 {
			for _, x := range drawingsOf(r, d) {
				wantDiagramValid(t, "filling", x.d, true)
				if x.place < 0 && !x.is(noDrawing()) {
					t.Fatalf("a diagram beside -1: %v", x)
				}
				refused += boolOf(x.place < 0)
				d = longer(d, x.d)
			}
		}
		if len(d.Forks) < maxForks-30 || refused == 0 {
			t.Errorf("a diagram of %d variables has no more than %d forks, and %d others were refused", vars, len(d.Forks), refused)
		}
	}
}
