package tests

import (
	"fmt"
	"math/rand"
	"slices"
	"testing"

	"loop.example/wholecheck/impl"
)

// The numbers of the document's chapter 7, written out.
const maxInputs, maxGates = 12, 600

// circuit returns a circuit with gates of these pairs of edges.
func circuit(inputs int, gates ...[2]int) impl.Circuit {
	c := impl.Circuit{Inputs: inputs}
	for _, g := range gates {
		c.Gates = append(c.Gates, impl.And{A: g[0], B: g[1]})
	}
	return c
}

// nodesIn returns how many nodes a circuit has: the constant, the inputs and the gates.
func nodesIn(c impl.Circuit) int { return 1 + c.Inputs + len(c.Gates) }

// edgesIn returns all edges of a circuit.
func edgesIn(c impl.Circuit) []int { return firstNumbers(2 * nodesIn(c)) }

// longCircuit returns a circuit with at least two inputs and so many gates, all of which differ and are as And puts them.
func longCircuit(inputs int, gates int) impl.Circuit {
	c := impl.Circuit{Inputs: inputs}
	ahead := 4
	for i := range gates {
		c.Gates = append(c.Gates, impl.And{A: 2 + i%2, B: ahead})
		ahead = 2*nodesIn(c) - 1 - i%3/2
	}
	return c
}

// contraryByHand returns the other edge of the same node.
func contraryByHand(edge int) int {
	if edge%2 == 0 {
		return edge + 1
	}
	return edge - 1
}

// edgeByHand returns the value of an edge when nodes have these.
func edgeByHand(values []int, edge int) int {
	if edge%2 == 0 {
		return values[edge/2]
	}
	return 1 - values[edge/2]
}

func nodeValuesByHand(c impl.Circuit, row []int) []int {
	values := append([]int{0}, row...)
	for _, g := range c.Gates {
		values = append(values, boolOf(edgeByHand(values, g.A) == 1 && edgeByHand(values, g.B) == 1))
	}
	return values
}

// andByHand adds And of two edges to a circuit by the words of the document.
func andByHand(c impl.Circuit, a int, b int) (impl.Circuit, int) {
	if b < a {
		a, b = b, a
	}
	switch {
	case a == 0, a == contraryByHand(b):
		return c, 0
	case a == 1, a == b:
		return c, b
	}
	at := slices.Index(c.Gates, impl.And{A: a, B: b})
	if at < 0 {
		at = len(c.Gates)
		c.Gates = append(slices.Clone(c.Gates), impl.And{A: a, B: b})
	}
	if len(c.Gates) > maxGates {
		return impl.Circuit{}, -1
	}
	return c, 2 * (1 + c.Inputs + at)
}

func orByHand(c impl.Circuit, a int, b int) (impl.Circuit, int) {
	c, edge := andByHand(c, contraryByHand(a), contraryByHand(b))
	if edge < 0 {
		return c, -1
	}
	return c, contraryByHand(edge)
}

func pickByHand(c impl.Circuit, by int, yes int, no int) (impl.Circuit, int) {
	if yes == no {
		return c, yes
	}
	c, first := andByHand(c, by, yes)
	if first < 0 {
		return c, -1
	}
	c, second := andByHand(c, contraryByHand(by), no)
	if second < 0 {
		return c, -1
	}
	return orByHand(c, first, second)
}

// amongByHand adds the edge of the rows that begin with some bits.
func amongByHand(c impl.Circuit, rows [][]int, begin []int) (impl.Circuit, int) {
	if !slices.ContainsFunc(rows, func(row []int) bool { return slices.Equal(row[:len(begin)], begin) }) {
		return c, 0
	}
	if len(begin) == c.Inputs {
		return c, 1
	}
	c, yes := amongByHand(c, rows, append(slices.Clone(begin), 1))
	c, no := amongByHand(c, rows, append(slices.Clone(begin), 0))
	return pickByHand(c, 2*(1+len(begin)), yes, no)
}

func circuitOfByHand(s impl.System, set []int) (impl.Circuit, int) {
	return amongByHand(impl.Circuit{Inputs: widthOf(s)}, allBitsByHand(s, set), nil)
}

func needsByHand(c impl.Circuit, edge int) []int {
	seen := map[int]bool{}
	var look func(node int)
	look = func(node int) {
		if !seen[node] && node > c.Inputs {
			g := c.Gates[node-c.Inputs-1]
			defer look(g.B / 2)
			defer look(g.A / 2)
		}
		seen[node] = true
	}
	look(edge / 2)
	return numbersWhere(c.Inputs, func(input int) bool { return seen[1+input] })
}

func fixedByHand(c impl.Circuit, edge int, input int, value int) (impl.Circuit, int) {
	made := impl.Circuit{Inputs: c.Inputs}
	became := map[int]int{}
	for e := range 2 * (1 + c.Inputs) {
		became[e] = e
	}
	became[2*input+2], became[2*input+3] = value, 1-value
	for i, g := range c.Gates {
		var e int
		made, e = andByHand(made, became[g.A], became[g.B])
		own := 2 * (1 + c.Inputs + i)
		became[own], became[own+1] = e, contraryByHand(e)
	}
	return made, became[edge]
}

func sameByHand(c impl.Circuit, a int, b int) bool {
	same := true
	eachRow(c.Inputs, func(row []int) {
		values := nodeValuesByHand(c, row)
		same = same && edgeByHand(values, a) == edgeByHand(values, b)
	})
	return same
}

// someEdge returns some edge of a circuit, often a constant or one of the last nodes.
func someEdge(r *rand.Rand, c impl.Circuit) int {
	end := 2 * nodesIn(c)
	switch r.Intn(8) {
	case 0:
		return r.Intn(2)
	case 1, 2, 3:
		return max(0, end-1-r.Intn(8))
	}
	return r.Intn(end)
}

// someCircuit returns a circuit with at most so many inputs and gates; its gates can be equal, in any order, and of constants.
func someCircuit(r *rand.Rand, inputs int, gates int) impl.Circuit {
	c := impl.Circuit{Inputs: r.Intn(inputs + 1)}
	for range r.Intn(gates + 1) {
		g := impl.And{A: someEdge(r, c), B: someEdge(r, c)}
		switch r.Intn(6) {
		case 0:
			g.A = g.B
		case 1:
			g.A = contraryByHand(g.B)
		case 2:
			if len(c.Gates) > 0 {
				g = c.Gates[r.Intn(len(c.Gates))]
			}
		}
		c.Gates = append(c.Gates, g)
	}
	return c
}

// shown is a circuit that is written without most of its gates if it has many: hundreds of them tell nobody anything.
type shown impl.Circuit

func (c shown) String() string {
	if len(c.Gates) <= 20 {
		return fmt.Sprintf("{%d %v}", c.Inputs, c.Gates)
	}
	return fmt.Sprintf("{%d, %d gates, the last ones %v}", c.Inputs, len(c.Gates), c.Gates[len(c.Gates)-5:])
}

func wantCircuitValid(t *testing.T, name string, c impl.Circuit, want bool) {
	t.Helper()
	if got := impl.CircuitValid(c); got != want {
		t.Errorf("%s: CircuitValid(%v) = %v", name, shown(c), got)
	}
}

func wantNodeValues(t *testing.T, name string, c impl.Circuit, row []int, want ...int) {
	t.Helper()
	if got := impl.NodeValues(c, row); !slices.Equal(got, want) {
		t.Errorf("%s: NodeValues(%v, %v) = %v, want %v", name, shown(c), row, got, want)
	}
}

func wantEdgeValue(t *testing.T, name string, c impl.Circuit, row []int, edge int, want int) {
	t.Helper()
	if got := impl.EdgeValue(c, row, edge); got != want {
		t.Errorf("%s: EdgeValue(%v, %v, %d) = %d, want %d", name, shown(c), row, edge, got, want)
	}
}

func wantNeeds(t *testing.T, name string, c impl.Circuit, edge int, want ...int) {
	t.Helper()
	if got := impl.NeedsInputs(c, edge); !slices.Equal(got, want) {
		t.Errorf("%s: NeedsInputs(%v, %d) = %v, want %v", name, shown(c), edge, got, want)
	}
}

// wantSameEdges checks whether two edges are the same, either one first.
func wantSameEdges(t *testing.T, name string, c impl.Circuit, a int, b int, want bool) {
	t.Helper()
	for _, e := range [][2]int{{a, b}, {b, a}} {
		if got := impl.SameEdges(c, e[0], e[1]); got != want {
			t.Errorf("%s: SameEdges(%v, %d, %d) = %v", name, shown(c), e[0], e[1], got)
		}
	}
}

// made is a circuit that is told, and the edge that is told with it.
type made struct {
	c    impl.Circuit
	edge int
}

func madeOf(c impl.Circuit, edge int) made { return made{c, edge} }

// nothing is what is told where there is no circuit.
func nothing() made { return made{impl.Circuit{}, -1} }

func (m made) is(other made) bool {
	return m.edge == other.edge && m.c.Inputs == other.c.Inputs && slices.Equal(m.c.Gates, other.c.Gates)
}

func (m made) String() string { return fmt.Sprintf("%v, %d", shown(m.c), m.edge) }

func wantAnd(t *testing.T, name string, c impl.Circuit, a int, b int, want made) {
	t.Helper()
	for _, e := range [][2]int{{a, b}, {b, a}} {
		if got := madeOf(impl.AddAnd(c, e[0], e[1])); !got.is(want) {
			t.Errorf("%s: AddAnd(%v, %d, %d) = %v, want %v", name, shown(c), e[0], e[1], got, want)
		}
	}
}

func wantOr(t *testing.T, name string, c impl.Circuit, a int, b int, want made) {
	t.Helper()
	for _, e := range [][2]int{{a, b}, {b, a}} {
		if got := madeOf(impl.AddOr(c, e[0], e[1])); !got.is(want) {
			t.Errorf("%s: AddOr(%v, %d, %d) = %v, want %v", name, shown(c), e[0], e[1], got, want)
		}
	}
}

func wantPick(t *testing.T, name string, c impl.Circuit, by int, yes int, no int, want made) {
	t.Helper()
	if got := madeOf(impl.AddPick(c, by, yes, no)); !got.is(want) {
		t.Errorf("%s: AddPick(%v, %d, %d, %d) = %v, want %v", name, shown(c), by, yes, no, got, want)
	}
}

func wantCircuitOf(t *testing.T, name string, s impl.System, set []int, want made) {
	t.Helper()
	if got := madeOf(impl.CircuitOf(s, set)); !got.is(want) {
		t.Errorf("%s: CircuitOf(%v, %v) = %v, want %v", name, s, set, got, want)
	}
}

func wantFixed(t *testing.T, name string, c impl.Circuit, edge int, input int, value int, want made) {
	t.Helper()
	if got := madeOf(impl.Fixed(c, edge, input, value)); !got.is(want) {
		t.Errorf("%s: Fixed(%v, %d, %d, %d) = %v, want %v", name, shown(c), edge, input, value, got, want)
	}
}
