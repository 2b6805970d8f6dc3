package tests

import (
	"math/rand"
	"testing"

	"loop.example/wholecheck/impl"
)

func TestSetDiagram(t *testing.T) {
	s := walker()
	wantSetDiagram(t, "the last bit", s, []int{1, 3}, drawn{diagram(2, [3]int{1, 0, 1}), 2})
	wantSetDiagram(t, "the first bit", s, []int{2, 3}, drawn{diagram(2, [3]int{0, 0, 1}), 2})
	wantSetDiagram(t, "both bits", s, []int{3}, drawn{diagram(2, [3]int{1, 0, 1}, [3]int{0, 0, 2}), 3})
	wantSetDiagram(t, "none of both", s, []int{0}, drawn{diagram(2, [3]int{1, 1, 0}, [3]int{0, 2, 0}), 3})
	wantSetDiagram(t, "bits that differ", s, []int{1, 2}, drawn{diagram(2, [3]int{1, 0, 1}, [3]int{1, 1, 0}, [3]int{0, 2, 3}), 4})
	wantSetDiagram(t, "all", s, []int{0, 1, 2, 3}, drawn{diagram(2), 1})
	wantSetDiagram(t, "all of 64", spans(8, 8), firstNumbers(64), drawn{diagram(6), 1})
	wantSetDiagram(t, "the last one of 64", spans(4, 4, 4), []int{63}, drawn{diagram(6, [3]int{5, 0, 1}, [3]int{4, 0, 2}, [3]int{3, 0, 3}, [3]int{2, 0, 4}, [3]int{1, 0, 5}, [3]int{0, 0, 6}), 7})
}

// Bits that are no state belong to no set, not even to that of all states.
func TestSetDiagramOfBitsThatAreNoState(t *testing.T) {
	wantSetDiagram(t, "all of six", six(), firstNumbers(6), drawn{diagram(3, [3]int{2, 1, 0}, [3]int{1, 1, 2}), 3})
	wantSetDiagram(t, "some of six", six(), []int{1, 3, 5}, drawn{diagram(3, [3]int{2, 0, 1}, [3]int{1, 2, 0}, [3]int{2, 1, 0}, [3]int{0, 3, 4}), 5})
	wantSetDiagram(t, "all of three", oneVar(-1, 1, 0), []int{0, 1, 2}, drawn{diagram(2, [3]int{1, 1, 0}, [3]int{0, 1, 2}), 3})
	wantSetDiagram(t, "all of 17", oneVar(0, 16, 0), firstNumbers(17), drawn{diagram(5, [3]int{4, 1, 0}, [3]int{3, 2, 0}, [3]int{2, 3, 0}, [3]int{1, 4, 0}, [3]int{0, 1, 5}), 6})
}

func TestSetDiagramsOfSomeSystems(t *testing.T) {
	r := rand.New(rand.NewSource(114))
	for range 600 {
		s, _ := someNarrow(r)
		wantSetDrawn(t, s, someSet(r, impl.SizeOf(s)))
	}
	for _, s := range narrowSystems() {
		for range 10 {
			wantSetDrawn(t, s, someSet(r, impl.SizeOf(s)))
		}
		wantSetDrawn(t, s, firstNumbers(impl.SizeOf(s)))
	}
}

// wantSetDrawn checks the diagram of a set, that it is compacted, and that the set comes back from it.
func wantSetDrawn(t *testing.T, s impl.System, set []int) {
	t.Helper()
	want := setDrawnByHand(s, set)
	wantSetDiagram(t, "by hand", s, set, want)
	wantCompacted(t, "compacted", want.d, want.place, want)
	wantDiagramSet(t, "back", s, want.d, want.place, set...)
	wantDiagramCount(t, "of a set", want.d, want.place, len(set))
}

func TestDiagramSet(t *testing.T) {
	d := diagram(2, [3]int{1, 0, 1}, [3]int{1, 1, 0}, [3]int{0, 2, 3}, [3]int{0, 0, 1}, [3]int{0, 1, 2})
	for n, want := range [][]int{{}, {0, 1, 2, 3}, {1, 3}, {0, 2}, {1, 2}, {2, 3}, {0, 1, 3}} {
		wantDiagramSet(t, "of four states", walker(), d, n, want...)
	}
	for n, want := range [][]int{{}, {0, 1, 2}, {1}, {0, 2}, {1, 2}, {2}, {0, 1}} {
		wantDiagramSet(t, "of three states", oneVar(-7, -5, -6), d, n, want...)
	}
}

// A place can be true for bits that are no state, and for such bits alone.
func TestDiagramSetOfBitsThatAreNoState(t *testing.T) {
	beside := diagram(3, [3]int{2, 0, 1}, [3]int{1, 0, 2}, [3]int{0, 0, 3}, [3]int{1, 2, 1})
	wantDiagramSet(t, "all rows", six(), beside, 1, firstNumbers(6)...)
	wantDiagramSet(t, "two rows that are none", six(), beside, 3)
	wantDiagramSet(t, "a row that is none", six(), beside, 4)
	wantDiagramSet(t, "some that are none", six(), beside, 2, 1, 4)
	wantDiagramSet(t, "others that are none", six(), beside, 5, 1, 2, 4, 5)
	for _, s := range narrowSystems() {
		wantDiagramSet(t, "all rows", s, diagram(widthOf(s)), 1, firstNumbers(impl.SizeOf(s))...)
	}
}

func TestDiagramSetsOfSomeDiagrams(t *testing.T) {
	r := rand.New(rand.NewSource(115))
	for range 1500 {
		s, _ := someNarrow(r)
		d := someDiagram(r, widthOf(s), 40)
		if d.Vars == widthOf(s) {
			n := somePlace(r, d)
			wantDiagramSet(t, "by hand", s, d, n, setOfByHand(s, d, n)...)
		}
	}
	for _, d := range []impl.Diagram{longDiagram(5, maxForks), crowdedDiagram(r, 5, maxForks), longDiagram(6, maxForks), crowdedDiagram(r, 6, maxForks)} {
		for _, s := range narrowSystems() {
			if d.Vars == widthOf(s) {
				for _, n := range []int{0, 1, 2, placesIn(d) - 1, r.Intn(maxForks), r.Intn(maxForks)} {
					wantDiagramSet(t, "2000 forks", s, d, n, setOfByHand(s, d, n)...)
				}
			}
		}
	}
}

func TestStepDiagram(t *testing.T) {
	one := oneVar(0, 1, 0)
	wantStepDiagram(t, "no rules", one, drawn{diagram(2), 0})
	one.Rules = rules(ruleOf(sets(0), plus(0, 1)))
	wantStepDiagram(t, "one step", one, drawn{diagram(2, [3]int{1, 0, 1}, [3]int{0, 2, 0}), 3})
	one.Rules = rules(ruleOf(sets(0), plus(0, -1)))
	wantStepDiagram(t, "one step back", one, drawn{diagram(2, [3]int{1, 1, 0}, [3]int{0, 0, 2}), 3})
	one.Rules = rules(ruleOf(sets(0), terms(num(1))))
	wantStepDiagram(t, "what is ahead is not needed", one, drawn{diagram(2, [3]int{1, 0, 1}), 2})
	one.Rules = rules(ruleOf(nil))
	stay := drawn{diagram(2, [3]int{1, 1, 0}, [3]int{1, 0, 1}, [3]int{0, 2, 3}), 4}
	wantStepDiagram(t, "both stay", one, stay)
	one.Rules = rules(ruleOf(nil), ruleOf(sets(0), terms(num(1), variable(0), of(opSub, 0, 1))))
	wantStepDiagram(t, "all steps", one, drawn{diagram(2), 1})
	one.Rules = rules(impl.Rule{When: compared(opEqual, 0, 1), Sets: sets(0), Terms: makes(plus(0, 0))}, ruleOf(nil), ruleOf(nil))
	wantStepDiagram(t, "both stay, by three rules", one, stay)
}

// The bits of both states take turns: those of a variable don't stand beside each other.
func TestOrderOfTheBitsOfSteps(t *testing.T) {
	three := oneVar(0, 2, 0)
	three.Rules = rules(ruleOf(nil))
	want := diagram(4, [3]int{3, 1, 0}, [3]int{3, 0, 1}, [3]int{2, 2, 3}, [3]int{1, 4, 0}, [3]int{2, 2, 0}, [3]int{1, 0, 6}, [3]int{0, 5, 7})
	wantStepDiagram(t, "three stay", three, drawn{want, 8})
	two := spans(2, 2)
	two.Rules = rules(ruleOf(sets(1), plus(0, -1)))
	want = diagram(4, [3]int{3, 1, 0}, [3]int{1, 2, 0}, [3]int{3, 0, 1}, [3]int{1, 0, 4}, [3]int{0, 3, 5})
	wantStepDiagram(t, "the first one becomes the second one", two, drawn{want, 6})
	two.Rules = rules(ruleOf(sets(0, 1), plus(1, 1), plus(0, -1)))
	want = diagram(4,
		[3]int{3, 1, 0}, [3]int{2, 2, 0}, [3]int{2, 0, 2}, [3]int{1, 3, 4},
		[3]int{3, 0, 1}, [3]int{2, 6, 0}, [3]int{2, 0, 6}, [3]int{1, 7, 8}, [3]int{0, 5, 9})
	wantStepDiagram(t, "both are exchanged", two, drawn{want, 10})
	two.Rules = rules(ruleOf(sets(0), terms(num(1))))
	want = diagram(4, [3]int{3, 1, 0}, [3]int{3, 0, 1}, [3]int{2, 2, 3}, [3]int{1, 0, 4})
	wantStepDiagram(t, "the second one stays", two, drawn{want, 5})
}

func TestStepDiagramsOfSomeSystems(t *testing.T) {
	r := rand.New(rand.NewSource(116))
	for range 60 {
		s, _ := someNarrow(r)
		wantStepsDrawn(t, s)
	}
	for range 30 {
		wantStepsDrawn(t, someCrowded(r))
	}
	for _, s := range narrowSystems() {
		wantStepsDrawn(t, s)
	}
}

// wantStepsDrawn checks the diagram of the steps of a system, and that it is compacted.
func wantStepsDrawn(t *testing.T, s impl.System) {
	t.Helper()
	want := stepsDrawnByHand(s)
	wantStepDiagram(t, "by hand", s, want)
	wantDiagramValid(t, "of steps", want.d, true)
	wantCompacted(t, "compacted", want.d, want.place, want)
	wantDiagramCount(t, "of steps", want.d, want.place, stepsCountByHand(s))
}
