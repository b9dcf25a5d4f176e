package walk_test

import (
	"math"
	"slices"
	"strconv"
	"sync"
	"testing"

	"roundsman/api"
	"roundsman/graph"
	"roundsman/net"
	"roundsman/turn"
	"roundsman/walk"
)

const inf = api.Inf

// made is the net that most tests go over.
//
//	0 -> 1 by arcs 0 and 4, which are alike; 1 -> 0 by arc 1; 1 -> 2 by arcs 2 and 5, of which 5 is closed;
//	2 -> 2 by arc 3; 2 -> 0 by arc 6; 3 <-> 4 by arcs 7, 8; nothing ends or begins at 5. 3 and 4 are of one Type.
func made() net.Net {
	return net.Net{
		Verts: []net.Vert{{X: 0, Y: 0, Type: 1}, {X: 5, Y: -3, Type: 2}, {X: -7, Y: 9, Type: 3}, {X: 1, Y: 1, Type: 4}, {X: 1, Y: 1, Type: 4}, {X: -1 << 20, Y: 1 << 20, Type: 0}},
		Arcs: []net.Arc{
			{From: 0, To: 1, W: 10}, {From: 1, To: 0, W: 20}, {From: 1, To: 2, W: 30}, {From: 2, To: 2, W: 40},
			{From: 0, To: 1, W: 10}, {From: 1, To: 2, W: inf}, {From: 2, To: 0, W: 0}, {From: 3, To: 4, W: 1 << 31}, {From: 4, To: 3, W: 1},
		},
		Types: []turn.Table{
			{},
			{Ins: 2, Outs: 2, Costs: []int64{1, 2, 3, inf}},            // 0: in 1, 6; out 0, 4
			{Ins: 2, Outs: 3, Costs: []int64{4, 5, 6, inf, 0, 7}},      // 1: in 0, 4; out 1, 2, 5
			{Ins: 3, Outs: 2, Costs: []int64{8, 9, inf, 100, 200, 11}}, // 2: in 2, 3, 5; out 3, 6
			{Ins: 1, Outs: 1, Costs: []int64{12}},                      // 3, 4
		},
	}
}

// madeCosts are the least costs of made's walks, worked out by hand: from each arc to each.
func madeCosts() [][]int64 {
	return [][]int64{
		{0, 24, 35, 83, 36, inf, 44, inf, inf},
		{11, 0, 42, 90, 12, inf, 51, inf, inf},
		{22, 46, 0, 48, 58, inf, 9, inf, inf},
		{113, 137, 148, 0, 149, inf, 100, inf, inf},
		{52, 76, 30, 78, 0, inf, 39, inf, inf},
		{inf, inf, inf, inf, inf, inf, inf, inf, inf},
		{13, 37, 48, 96, 49, inf, 0, inf, inf},
		{inf, inf, inf, inf, inf, inf, inf, 0, 13},
		{inf, inf, inf, inf, inf, inf, inf, 1<<31 + 12, 0},
	}
}

// star is a vertex with 16 arcs to itself, the most that there may be: from each into the next one, and nothing else.
func star() net.Net {
	n := net.Net{Verts: make([]net.Vert, 1), Types: []turn.Table{{Ins: 16, Outs: 16, Costs: slices.Repeat([]int64{inf}, 256)}}}
	for a := range 16 {
		n.Arcs = append(n.Arcs, net.Arc{W: int64(100 * a)})
		n.Types[0].Costs[16*a+(a+1)%16] = int64(a)
	}
	return n
}

// coil is the greatest net that there may be, of arcs and turns that cost the most: round all vertices four times, and by no other way.
func coil() net.Net {
	n := net.Net{Verts: make([]net.Vert, api.MaxVerts)}
	for i := range 2 {
		t := turn.Table{Ins: 4, Outs: 4, Costs: slices.Repeat([]int64{inf}, 16)}
		for k := range 4 {
			t.Costs[4*k+(k+i)%4] = api.MaxWeight
		}
		n.Types = append(n.Types, t)
	}
	// At vertex 0 each round ends, and the next one begins.
	n.Verts[0].Type = 1
	for a := range api.MaxArcs {
		v := a % api.MaxVerts
		n.Arcs = append(n.Arcs, net.Arc{From: v, To: (v + 1) % api.MaxVerts, W: api.MaxWeight})
	}
	return n
}

// copied is n in memory of its own.
func copied(n net.Net) net.Net {
	c := net.Net{Verts: slices.Clone(n.Verts), Arcs: slices.Clone(n.Arcs)}
	for _, t := range n.Types {
		c.Types = append(c.Types, turn.Table{Ins: t.Ins, Outs: t.Outs, Costs: slices.Clone(t.Costs)})
	}
	return c
}

// built is a Graph of n, which New has to take.
func built(t *testing.T, n net.Net) *graph.Graph {
	t.Helper()
	g, err := graph.New(n)
	if err != nil || g == nil {
		t.Fatalf("no Graph: %v, %v", g, err)
	}
	return g
}

// no are numbers of which there is never an arc.
func no() []int {
	return []int{math.MinInt, math.MinInt + 1, -1 << 60, -1 << 32, -1 << 31, -16384, -2, -1, 16384, 16385, 1 << 31, 1 << 32, 1 << 60, 1 << 62, math.MaxInt - 1, math.MaxInt}
}

// sum is what two costs come to (W1).
func sum(a, b int64) int64 {
	return min(a+b, inf)
}

// turns are what it costs to turn from each arc of n into each.
func turns(n net.Net) [][]int64 {
	l := make([][]int64, len(n.Arcs))
	for a := range l {
		for b := range n.Arcs {
			l[a] = append(l[a], net.Turn(n, a, b))
		}
	}
	return l
}

// plainFrom is what the chapter's words come to: costs from s on, bettered till none can be.
func plainFrom(n net.Net, turns [][]int64, s int) []int64 {
	l := slices.Repeat([]int64{inf}, len(n.Arcs))
	if s < 0 || s >= len(l) || n.Arcs[s].W == inf {
		return l
	}
	l[s] = 0
	for again := true; again; {
		again = false
		for a := range l {
			for b := range l {
				if c := sum(sum(l[a], turns[a][b]), n.Arcs[b].W); c < l[b] {
					l[b], again = c, true
				}
			}
		}
	}
	return l
}

// plainInside is what the chapter's words come to: of rows of two arcs, then of three, and so on, what each arc is got to at. More arcs than there are are never needed.
func plainInside(n net.Net, turns [][]int64, s, t int, in []bool) int64 {
	if s < 0 || t < 0 || s >= len(n.Arcs) || t >= len(n.Arcs) {
		return inf
	}
	marked := func(v int) bool { return v < len(in) && in[v] }
	least, costs := inf, slices.Repeat([]int64{inf}, len(n.Arcs))
	costs[s] = 0
	for range len(n.Arcs) + 1 {
		next := slices.Repeat([]int64{inf}, len(n.Arcs))
		for a, c := range costs {
			least = min(least, sum(c, turns[a][t]))
			for b, arc := range n.Arcs {
				if marked(arc.From) && marked(arc.To) {
					next[b] = min(next[b], sum(sum(c, turns[a][b]), arc.W))
				}
			}
		}
		costs = next
	}
	return least
}

// isPath looks at a Path whose cost has to be want: a walk from s to t that costs that, and in which no arc is twice.
func isPath(t *testing.T, what string, n net.Net, s, e int, l []int, c, want int64) {
	t.Helper()
	if c != want {
		t.Errorf("P801: %s: Path(%d, %d): %v at %d; want %d", what, s, e, l, c, want)
	}
	if want == inf {
		if len(l) != 0 {
			t.Errorf("P801: %s: Path(%d, %d) of none: %v", what, s, e, l)
		}
		return
	}
	if len(l) == 0 || l[0] != s || l[len(l)-1] != e || !net.Walk(n, l) || net.Cost(n, l) != want {
		t.Errorf("P801: %s: Path(%d, %d): %v is no walk there that costs %d", what, s, e, l, want)
	}
	seen := map[int]int{}
	for _, a := range l {
		if seen[a]++; seen[a] > 1 {
			t.Errorf("P801: %s: Path(%d, %d): %v has arc %d twice", what, s, e, l, a)
		}
	}
}

// tells looks at all that is told of walks of g, which has to be n, where want are the least costs from each arc to each.
func tells(t *testing.T, what string, g *graph.Graph, n net.Net, want [][]int64) {
	t.Helper()
	for s, row := range want {
		if got := walk.From(g, s); !slices.Equal(got, row) {
			t.Errorf("P801: %s: From(%d): %v; want %v", what, s, got, row)
		}
		col, reached := make([]int64, len(want)), make([]bool, len(want))
		for a := range want {
			col[a], reached[a] = want[a][s], row[a] < inf
			l, c := walk.Path(g, s, a)
			isPath(t, what, n, s, a, l, c, row[a])
			if got := walk.Cost(g, l); got != row[a] {
				t.Errorf("P801: %s: Cost of Path(%d, %d): %d; want %d", what, s, a, got, row[a])
			}
		}
		if got := walk.To(g, s); !slices.Equal(got, col) {
			t.Errorf("P801: %s: To(%d): %v; want %v", what, s, got, col)
		}
		if got := walk.Reach(g, s); !slices.Equal(got, reached) {
			t.Errorf("P801: %s: Reach(%d): %v; want %v", what, s, got, reached)
		}
	}
}

// tellsPlain looks at all that is told of walks of g, which has to be n, against the chapter's words.
func tellsPlain(t *testing.T, what string, g *graph.Graph, n net.Net) {
	t.Helper()
	l, bends := make([][]int64, len(n.Arcs)), turns(n)
	for s := range l {
		l[s] = plainFrom(n, bends, s)
	}
	tells(t, what, g, n, l)
}

// inside looks at what Inside tells of each s and t, and of numbers that are none, against the chapter's words.
func inside(t *testing.T, what string, g *graph.Graph, n net.Net, in []bool) {
	t.Helper()
	bends := turns(n)
	for s := -1; s <= len(n.Arcs); s++ {
		for e := -1; e <= len(n.Arcs); e++ {
			if got, want := walk.Inside(g, s, e, in), plainInside(n, bends, s, e, in); got != want {
				t.Errorf("P802: %s: Inside(%d, %d, %v): %d; want %d", what, s, e, in, got, want)
			}
		}
	}
}

// tellsNone looks at an arc that there is no walk from or to: each list is as long as there are arcs, and there is nothing in it.
func tellsNone(t *testing.T, what string, g *graph.Graph, a int) {
	t.Helper()
	infs := slices.Repeat([]int64{inf}, g.Arcs())
	if got := walk.From(g, a); !slices.Equal(got, infs) {
		t.Errorf("P801: %s: From(%d): %v", what, a, got)
	}
	if got := walk.To(g, a); !slices.Equal(got, infs) {
		t.Errorf("P801: %s: To(%d): %v", what, a, got)
	}
	if got := walk.Reach(g, a); !slices.Equal(got, make([]bool, g.Arcs())) {
		t.Errorf("P801: %s: Reach(%d): %v", what, a, got)
	}
	for _, b := range append(no(), a, 0, 1, 7, g.Arcs()-1, g.Arcs()) {
		for _, c := range [][2]int{{a, b}, {b, a}} {
			if l, d := walk.Path(g, c[0], c[1]); len(l) != 0 || d != inf {
				t.Errorf("P801: %s: Path(%d, %d): %v, %d", what, c[0], c[1], l, d)
			}
		}
		if got := walk.Cost(g, []int{a, b}); got != inf {
			t.Errorf("P801: %s: Cost(%d, %d): %d", what, a, b, got)
		}
		if got := walk.Cost(g, []int{b, a}); got != inf {
			t.Errorf("P801: %s: Cost(%d, %d): %d", what, b, a, got)
		}
	}
	if got := walk.Cost(g, []int{a}); got != inf {
		t.Errorf("P801: %s: Cost(%d): %d", what, a, got)
	}
}

// P801: of made each thing that is told, by hand.
func TestMade(t *testing.T) {
	g := built(t, made())
	tells(t, "made", g, made(), madeCosts())
	tellsPlain(t, "made", g, made())
	for _, c := range []struct {
		s, t int
		want []int
	}{
		{0, 0, []int{0}}, {0, 1, []int{0, 1}}, {0, 2, []int{0, 2}}, {0, 4, []int{0, 1, 4}}, {1, 2, []int{1, 4, 2}},
		{4, 1, []int{4, 2, 6, 0, 1}}, {3, 4, []int{3, 6, 0, 1, 4}}, {8, 7, []int{8, 7}}, {7, 7, []int{7}},
	} {
		// There is one least walk alone, so that it is told.
		if got, _ := walk.Path(g, c.s, c.t); !slices.Equal(got, c.want) {
			t.Errorf("P801: Path(%d, %d): %v; want %v", c.s, c.t, got, c.want)
		}
	}
}

// P801, W2: what a row costs: neither its first arc nor what is told of others, but each arc and turn behind it, as often as it is there.
func TestCost(t *testing.T) {
	g := built(t, made())
	for _, c := range []struct {
		l    []int
		want int64
	}{
		{nil, inf}, {[]int{}, inf}, {[]int{0}, 0}, {[]int{7}, 0}, {[]int{5}, inf}, {[]int{9}, inf}, {[]int{-1}, inf},
		{[]int{0, 1}, 24}, {[]int{0, 1, 0}, 35}, {[]int{0, 1, 0, 1, 0, 1}, 94}, {[]int{0, 2, 3, 6}, 183}, {[]int{0, 2, 6, 0}, 57},
		{[]int{4, 1}, inf}, {[]int{4, 2}, 30}, {[]int{3, 3}, inf}, {[]int{0, 0}, inf}, {[]int{0, 4}, inf}, {[]int{1, 2}, inf},
		{[]int{0, 5}, inf}, {[]int{5, 6}, inf}, {[]int{0, 5, 6}, inf}, {[]int{0, 1, 9}, inf}, {[]int{9, 0, 1}, inf}, {[]int{0, 7}, inf}, {[]int{0, -1, 0}, inf},
		{[]int{4, 1, 0}, inf}, {[]int{0, 1, 0, 7, 8}, inf}, {[]int{6, 4}, inf}, {[]int{7, 8}, 13}, {[]int{8, 7}, 1<<31 + 12}, {[]int{7, 8, 7}, 1<<31 + 25},
	} {
		if got := walk.Cost(g, c.l); got != c.want || got != net.Cost(made(), c.l) {
			t.Errorf("P801: Cost(%v): %d; want %d", c.l, got, c.want)
		}
	}
}

// P801: all rows of up to four arcs, numbers that are none among them, are held against net.Cost.
func TestAllRows(t *testing.T) {
	n := made()
	g := built(t, n)
	for code := range 11 * 11 * 11 * 11 {
		l := []int{code%11 - 1, code/11%11 - 1, code/121%11 - 1, code/1331 - 1}
		for i := range l {
			if got, want := walk.Cost(g, l[i:]), net.Cost(n, l[i:]); got != want {
				t.Fatalf("P801: Cost(%v): %d; want %d", l[i:], got, want)
			}
		}
	}
}

// P801, P9: where there is no such arc, there is no walk.
func TestNoArc(t *testing.T) {
	for what, n := range map[string]net.Net{
		"nothing": {}, "vertices alone": {Verts: make([]net.Vert, 3), Types: []turn.Table{{}}}, "made": made(), "star": star(),
	} {
		g := built(t, n)
		for _, a := range append(no(), len(n.Arcs), len(n.Arcs)+1) {
			tellsNone(t, what, g, a)
			for _, b := range append(no(), 0, 7, len(n.Arcs)-1, len(n.Arcs), a) {
				for _, in := range [][]bool{nil, {true, true, true, true, true, true}} {
					if walk.Inside(g, a, b, in) != inf || walk.Inside(g, b, a, in) != inf {
						t.Errorf("P802: %s: Inside of %d, %d: %d, %d", what, a, b, walk.Inside(g, a, b, in), walk.Inside(g, b, a, in))
					}
				}
			}
		}
	}
}

// P801, W2: a walk has no arc that costs Inf: not as its first one, not as its only one, not as its last one, and not between.
func TestClosed(t *testing.T) {
	for a := range made().Arcs {
		n := made()
		n.Arcs[a].W = inf
		g := built(t, n)
		tellsNone(t, "closed", g, a)
		tellsPlain(t, "closed", g, n)
		for _, l := range [][]int{{a}, {0, a}, {a, 1}, {0, a, 1}, {a, a}} {
			if got := walk.Cost(g, l); got != inf {
				t.Errorf("P801: Cost(%v): %d, where %d is closed", l, got, a)
			}
		}
	}
}

// P801: the net is looked at as it is now, and no call before hangs on.
func TestChanged(t *testing.T) {
	n := made()
	g := built(t, n)
	twin := g.Twin()
	set := func(a int, w int64) {
		n.Arcs[a].W = w
		if err := g.Set(a, w); err != nil {
			t.Errorf("Set: %v", err)
		}
	}
	bend := func(typ, in, out int, c int64) {
		n.Types[typ].Costs[in*n.Types[typ].Outs+out] = c
		if err := g.Bend(typ, in, out, c); err != nil {
			t.Errorf("Bend: %v", err)
		}
	}
	for i, change := range []func(){
		func() { set(0, inf) }, func() { set(5, 0) }, func() { set(0, 1<<31) }, func() { bend(3, 1, 0, 0) }, func() { bend(2, 0, 1, inf) },
		func() { set(6, inf) }, func() { bend(4, 0, 0, inf) }, func() { bend(2, 1, 0, 3) }, func() { set(6, 2) }, func() { bend(4, 0, 0, 0) },
	} {
		change()
		what := "behind change " + strconv.Itoa(i)
		tellsPlain(t, what, g, n)
		for m := range 8 {
			inside(t, what, g, n, []bool{m&1 > 0, m&2 > 0, m&4 > 0})
		}
		tells(t, "the Twin "+what, twin, made(), madeCosts())
	}
}

// P801: of what costs nothing walks are told too, that end, and that have no arc twice.
func TestNothing(t *testing.T) {
	for _, arcs := range [][]net.Arc{
		{{From: 0, To: 1}, {From: 1, To: 0}},
		{{From: 0, To: 0}, {From: 0, To: 0}, {From: 0, To: 0}},
		{{From: 0, To: 1}, {From: 1, To: 2}, {From: 2, To: 0}, {From: 1, To: 0}, {From: 2, To: 2}, {From: 3, To: 3}, {From: 0, To: 3}},
	} {
		n := typed(net.Net{Verts: make([]net.Vert, 4), Arcs: arcs}, func() int64 { return 0 })
		g := built(t, n)
		tellsPlain(t, "nothing", g, n)
		inside(t, "nothing", g, n, []bool{true, true, true})
	}
}

// typed is n with a Type of its own for each vertex, whose turns cost what is told of each.
func typed(n net.Net, c func() int64) net.Net {
	n.Types = nil
	for v := range n.Verts {
		n.Verts[v].Type = v
		t := turn.Table{Ins: len(net.Ins(n, v)), Outs: len(net.Outs(n, v))}
		for range t.Ins * t.Outs {
			t.Costs = append(t.Costs, c())
		}
		n.Types = append(n.Types, t)
	}
	return n
}

// P801, P802: from each of sixteen arcs into the next one alone.
func TestStar(t *testing.T) {
	g := built(t, star())
	tellsPlain(t, "star", g, star())
	inside(t, "star", g, star(), []bool{true})
	inside(t, "star", g, star(), nil)
	// All sixteen turns, and all arcs but the first.
	if got := walk.Inside(g, 3, 3, []bool{true}); got != 120+12000-300 {
		t.Errorf("P802: Inside(3, 3): %d", got)
	}
}

// P802: of made by hand, of each set of marks that counts.
func TestInside(t *testing.T) {
	g := built(t, made())
	all := []bool{true, true, true}
	for _, c := range []struct {
		s, t int
		in   []bool
		want int64
		what string
	}{
		{0, 1, nil, 4, "two arcs, neither of which is counted nor need be within"},
		{0, 1, []bool{}, 4, "an empty list"},
		{7, 8, nil, 12, "two arcs there"},
		{8, 7, []bool{true, true, true, true, true, true}, 12, "two arcs within"},
		{0, 0, nil, inf, "one arc isn't a row of two"},
		{0, 0, all, 25, "round and back: 4, 20, 1"},
		{3, 3, all, 156, "round, as the turn from it into itself is forbidden"},
		{3, 3, nil, inf, "nothing round"},
		{6, 3, all, 56, "from 6 by 0 and 2"},
		{6, 3, []bool{true, false, true}, inf, "0 goes to a vertex that isn't marked"},
		{6, 3, []bool{false, true, true}, inf, "0 goes from a vertex that isn't marked"},
		{6, 3, []bool{true, true}, inf, "2 goes to a vertex beyond the end of the marks"},
		{6, 2, []bool{true, true}, 18, "2 itself need not be within"},
		{6, 2, []bool{true, true, false}, 18, "2 itself need not be within"},
		{2, 6, []bool{true, true, false}, 9, "neither need be within"},
		{2, 3, []bool{true, true, true, true, true, true, true, true, true}, 8, "more marks than vertices"},
		{5, 6, nil, 11, "s is closed"},
		{0, 5, nil, 6, "t is closed"},
		{5, 5, all, 30, "both are the same closed one: 11, 0, 3, 10, 6"},
		{5, 5, []bool{true, true, false}, inf, "6 isn't within"},
		{5, 3, all, 67, "straight on it is 200, but by 6, 0, 2 it is 11, 0, 3, 10, 5, 30, 8"},
		{5, 3, []bool{true, true, false}, 200, "straight on"},
		{4, 1, all, 56, "the turn is forbidden: 0, 30, 9, 0, 3, 10, 4"},
		{4, 1, nil, inf, "the turn is forbidden"},
		{4, 6, all, 39, "2 within: 0, 30, 9; 5 would be less if it weren't closed"},
		{1, 7, []bool{true, true, true, true, true, true}, inf, "no way"},
		{0, 4, []bool{true, true}, 26, "from 0 by 1 into 4"},
		{0, 4, []bool{false, true}, inf, "1 goes to a vertex that isn't marked"},
		{0, 4, []bool{true, false, true}, inf, "1 goes from a vertex that isn't marked"},
	} {
		if got := walk.Inside(g, c.s, c.t, c.in); got != c.want {
			t.Errorf("P802: Inside(%d, %d, %v): %d; want %d: %s", c.s, c.t, c.in, got, c.want, c.what)
		}
	}
	for m := range 64 {
		var in []bool
		for v := range 6 {
			in = append(in, m>>v&1 > 0)
		}
		inside(t, "made", g, made(), in)
	}
}

// P802, W4: a leap goes from an arc that enters a cell to one that leaves it by arcs within the cell alone, though it were less outside.
func TestLeap(t *testing.T) {
	n := typed(net.Net{
		Verts: make([]net.Vert, 5),
		Arcs: []net.Arc{
			{From: 0, To: 1, W: 1000}, {From: 3, To: 4, W: 2000}, // into the cell of 1, 2, 3, and out of it
			{From: 1, To: 2, W: 50}, {From: 2, To: 3, W: 60}, {From: 1, To: 3, W: 500}, // within
			{From: 1, To: 0, W: 1}, {From: 0, To: 3, W: 2}, // outside
		},
	}, func() int64 { return 7 })
	g := built(t, n)
	cell, other := []bool{false, true, true, true}, []bool{true, false, false, false, true}
	for _, c := range []struct {
		s, t int
		in   []bool
		want int64
	}{
		{0, 1, cell, 131}, {0, 1, []bool{false, true, false, true}, 514}, {0, 1, other, inf}, {0, 1, []bool{true, true, true, true, true}, 24},
		{0, 5, cell, 7}, {6, 1, cell, 7}, {6, 5, cell, inf}, {5, 6, other, 7}, {5, 0, other, 7}, {0, 6, cell, inf}, {0, 4, cell, 7}, {2, 1, cell, 74}, {1, 1, cell, inf},
	} {
		if got := walk.Inside(g, c.s, c.t, c.in); got != c.want {
			t.Errorf("P802: Inside(%d, %d, %v): %d; want %d", c.s, c.t, c.in, got, c.want)
		}
	}
	// What s and t cost is not counted, so that it may be Inf.
	for _, a := range []int{0, 1} {
		if err := g.Set(a, inf); err != nil {
			t.Errorf("Set: %v", err)
		}
		if got := walk.Inside(g, 0, 1, cell); got != 131 {
			t.Errorf("P802: Inside, where %d is closed: %d", a, got)
		}
	}
	if err := g.Set(3, inf); err != nil || walk.Inside(g, 0, 1, cell) != 514 {
		t.Errorf("P802: Inside, where an arc within is closed: %d, %v", walk.Inside(g, 0, 1, cell), err)
	}
}

// P801, P802: all nets of one vertex and two arcs of weights and turns at 0, 1 and Inf, held against the chapter's words.
func TestAllPairs(t *testing.T) {
	costs := []int64{0, 1, inf}
	for code := range 729 {
		digit := func() int64 {
			c := costs[code%3]
			code /= 3
			return c
		}
		what := "pair " + strconv.Itoa(code)
		n := typed(net.Net{Verts: make([]net.Vert, 1), Arcs: []net.Arc{{W: digit()}, {W: digit()}}}, digit)
		g := built(t, n)
		tellsPlain(t, what, g, n)
		for _, in := range [][]bool{nil, {false}, {true}, {false, true}} {
			inside(t, what, g, n, in)
		}
		if t.Failed() {
			return
		}
	}
}

// P801, P802: nets of one vertex and three arcs, of any turns that are forbidden and of some weights, held against the chapter's words.
func TestAllThrees(t *testing.T) {
	weights := []int64{0, 5, inf}
	for code := range 512 * 27 {
		w, bans := code/512, code%512
		what := "three " + strconv.Itoa(code)
		n := typed(net.Net{Verts: make([]net.Vert, 1), Arcs: []net.Arc{{W: weights[w%3]}, {W: weights[w/3%3]}, {W: weights[w/9]}}}, func() int64 {
			c := int64(0)
			if bans&1 > 0 {
				c = inf
			}
			bans /= 2
			return c
		})
		g := built(t, n)
		tellsPlain(t, what, g, n)
		inside(t, what, g, n, []bool{true})
		if t.Failed() {
			return
		}
	}
}

// dice tell numbers below what they are asked for, the same ones each time.
func dice(seed uint64) func(int) int {
	return func(n int) int {
		seed = seed*6364136223846793005 + 1442695040888963407
		return int(seed >> 33 % uint64(n))
	}
}

// thrownCost is a weight; often a small one, so that several walks are as good, or one of many arcs is less than one of few.
func thrownCost(throw func(int) int) int64 {
	switch throw(10) {
	case 0, 1:
		return inf
	case 2, 3:
		return 0
	case 4:
		return int64(1)<<31 - int64(throw(3))
	case 5:
		return int64(throw(1 << 20))
	}
	return int64(throw(20))
}

// thrown is a net of some vertices and arcs, not more of these at a vertex than there may be.
func thrown(throw func(int) int, verts, arcs int) net.Net {
	n := net.Net{Verts: make([]net.Vert, verts)}
	ins, outs := make([]int, verts), make([]int, verts)
	for range arcs {
		from, to := throw(verts), throw(verts)
		if outs[from] < 16 && ins[to] < 16 {
			outs[from]++
			ins[to]++
			n.Arcs = append(n.Arcs, net.Arc{From: from, To: to, W: thrownCost(throw)})
		}
	}
	return typed(n, func() int64 { return thrownCost(throw) })
}

// marks are some of n vertices; at times fewer or more marks than these.
func marks(throw func(int) int, n int) []bool {
	in := make([]bool, throw(n+3))
	for v := range in {
		in[v] = throw(4) > 0
	}
	return in
}

// P801, T1: what is told of many thrown nets, held against the chapter's words.
func TestThrown(t *testing.T) {
	throw := dice(8)
	ways, long := 0, 0
	for i := range 200 {
		n := thrown(throw, 1+throw(12), throw(40))
		g := built(t, n)
		tellsPlain(t, "thrown net "+strconv.Itoa(i), g, n)
		for s := range n.Arcs {
			l, _ := walk.Path(g, s, throw(len(n.Arcs)))
			if len(l) > 0 {
				ways++
			}
			if len(l) > 4 {
				long++
			}
		}
		if t.Failed() {
			return
		}
	}
	if ways < 500 || long < 100 {
		t.Errorf("just %d walks, %d long ones", ways, long)
	}
}

// P802, T1: what Inside tells of many thrown nets, held against the chapter's words.
func TestThrownInside(t *testing.T) {
	throw := dice(9)
	ways := 0
	for i := range 500 {
		n := thrown(throw, 1+throw(6), throw(12))
		g := built(t, n)
		for range 4 {
			in := marks(throw, len(n.Verts))
			inside(t, "thrown net "+strconv.Itoa(i), g, n, in)
			for s := range n.Arcs {
				if walk.Inside(g, s, throw(len(n.Arcs)), in) < inf {
					ways++
				}
			}
		}
		if t.Failed() {
			return
		}
	}
	if ways < 500 {
		t.Errorf("just %d ways inside", ways)
	}
}

// P801, P802: of greater nets than can be gone through: Inside of all marks is From's, but for what is counted of both ends.
func TestThrownGreat(t *testing.T) {
	throw := dice(10)
	for range 4 {
		n := thrown(throw, 80, 500)
		g := built(t, n)
		all := slices.Repeat([]bool{true}, 80)
		for range 5 {
			s := throw(len(n.Arcs))
			costs, reached := walk.From(g, s), walk.Reach(g, s)
			for e, c := range costs {
				if n.Arcs[s].W < inf && n.Arcs[e].W < inf && s != e {
					want := inf
					if c < inf {
						want = c - n.Arcs[e].W
					}
					if got := walk.Inside(g, s, e, all); got != want {
						t.Errorf("P802: Inside(%d, %d): %d; want %d", s, e, got, want)
					}
				}
				if reached[e] != (c < inf) {
					t.Errorf("P801: Reach(%d): %v of %d at %d", s, reached[e], e, c)
				}
			}
			e := throw(len(n.Arcs))
			l, c := walk.Path(g, s, e)
			isPath(t, "great", n, s, e, l, c, costs[e])
			if got := walk.To(g, e)[s]; got != c {
				t.Errorf("P801: To(%d) of %d: %d; want %d", e, s, got, c)
			}
		}
	}
}

// P801, P802: the longest walk that may be the least one, at the most that arcs and turns may cost.
func TestCoil(t *testing.T) {
	const each, arcs = 2 * api.MaxWeight, api.MaxArcs
	n := coil()
	g := built(t, n)
	for _, s := range []int{0, 1, 4095, 4096, 16383} {
		from, to := walk.From(g, s), walk.To(g, s)
		if len(from) != arcs || len(to) != arcs || slices.Contains(walk.Reach(g, s), false) {
			t.Fatalf("P801: of %d arcs just %d, %d", arcs, len(from), len(to))
		}
		for a := range arcs {
			ahead := int64((a - s + arcs) % arcs)
			behind := (arcs - ahead) % arcs
			if from[a] != ahead*each || to[a] != behind*each {
				t.Fatalf("P801: between %d and %d: %d, %d; want %d, %d", s, a, from[a], to[a], ahead*each, behind*each)
			}
		}
		last := (s + arcs - 1) % arcs
		l, c := walk.Path(g, s, last)
		isPath(t, "coil", n, s, last, l, c, (arcs-1)*each)
		if got := walk.Cost(g, l); got != c || len(l) != arcs {
			t.Errorf("P801: Cost of a Path of %d arcs: %d; want %d", len(l), got, c)
		}
		all := slices.Repeat([]bool{true}, api.MaxVerts)
		if got := walk.Inside(g, s, s, all); got != arcs*each-api.MaxWeight {
			t.Errorf("P802: Inside(%d, %d): %d", s, s, got)
		}
		all[api.MaxVerts-1] = false
		if got := walk.Inside(g, s, s, all); got != inf {
			t.Errorf("P802: Inside(%d, %d), where one vertex isn't marked: %d", s, s, got)
		}
	}
}

// P801, W1: sums above 32 bits, and a row that goes round many times.
func TestLongRow(t *testing.T) {
	g := built(t, made())
	l := slices.Repeat([]int{7, 8}, 1<<20)
	if got, want := walk.Cost(g, l), int64(1<<20)*13+int64(1<<20-1)*(1<<31+12); got != want {
		t.Errorf("P801: Cost of a long row: %d; want %d", got, want)
	}
	l[len(l)-1] = 7
	if got := walk.Cost(g, l); got != inf {
		t.Errorf("P801: Cost of a long row that is no walk at its end: %d", got)
	}
}

// P2: what is handed in, its spare room too, is not changed; what is told is new memory each time, its spare room too.
func TestMemory(t *testing.T) {
	n := made()
	g := built(t, n)
	l, in := []int{0, 1, 0, 77, 78}, []bool{true, true, true, false, true, false}
	if walk.Cost(g, l[:3]) != 35 || walk.Inside(g, 6, 3, in[:3]) != 56 || walk.Cost(g, l[:4]) != inf {
		t.Error("P801, P802: Cost, Inside")
	}
	// What stands in spare room is beyond the end.
	if got := walk.Inside(g, 6, 3, in[:2]); got != inf {
		t.Errorf("P802: Inside with marks in spare room: %d", got)
	}
	if !slices.Equal(l, []int{0, 1, 0, 77, 78}) || !slices.Equal(in, []bool{true, true, true, false, true, false}) {
		t.Errorf("P2: what was handed in is %v, %v", l, in)
	}
	for s := range n.Arcs {
		for _, list := range [][]int64{walk.From(g, s), walk.To(g, s)} {
			spoil(list, -5)
		}
		spoil(walk.Reach(g, s), true)
		spoil(walk.Reach(g, s), false)
		for e := range n.Arcs {
			p, _ := walk.Path(g, s, e)
			spoil(p, -7)
		}
		from, to := walk.From(g, s), walk.To(g, s)
		spoil(from, -5)
		if slices.Contains(to, -5) {
			t.Error("P2: From and To share memory")
		}
	}
	if !net.Same(g.Net(), n) {
		t.Error("P2: the net is another one")
	}
	tells(t, "behind all that", g, n, madeCosts())
}

// spoil writes over a list that was told, its spare room too.
func spoil[T any](l []T, with T) {
	l = l[:cap(l)]
	for i := range l {
		l[i] = with
	}
}

// P2: what was handed in is not kept: it may be changed, and nothing that was told is otherwise.
func TestNotKept(t *testing.T) {
	g := built(t, made())
	in := []bool{true, true, true}
	for range 3 {
		if got := walk.Inside(g, 0, 0, in); got != 25 {
			t.Errorf("P802: Inside: %d", got)
		}
		clear(in)
		if got := walk.Inside(g, 0, 0, in); got != inf {
			t.Errorf("P802: Inside, where nothing is marked: %d", got)
		}
		in = []bool{true, true, true}
	}
}

// P3: the same calls tell the same, whichever of several least walks it is; also of a Twin, of a Graph made anew, and at once.
func TestSame(t *testing.T) {
	throw := dice(11)
	n := thrown(throw, 20, 200)
	for a := range n.Arcs {
		n.Arcs[a].W = int64(a % 2)
	}
	g := built(t, copied(n))
	var first [][]int
	for s := range 5 {
		for e := range n.Arcs {
			l, _ := walk.Path(g, s, e)
			first = append(first, l)
		}
	}
	again := func(g *graph.Graph) {
		for i, want := range first {
			if l, _ := walk.Path(g, i/len(n.Arcs), i%len(n.Arcs)); !slices.Equal(l, want) {
				t.Errorf("P3: Path(%d, %d): %v; it was %v", i/len(n.Arcs), i%len(n.Arcs), l, want)
			}
		}
	}
	again(g)
	again(built(t, n))
	var all sync.WaitGroup
	for range 3 {
		twin := g.Twin()
		all.Go(func() { again(twin) })
	}
	all.Wait()
}
