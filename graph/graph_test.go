package graph_test

import (
	"errors"
	"math"
	"reflect"
	"slices"
	"sync"
	"testing"

	"roundsman/api"
	"roundsman/graph"
	"roundsman/net"
	"roundsman/turn"
)

// made is the net that most tests go over.
//
//	0 -> 1 by arcs 0 and 4, which are alike; 1 -> 0 by arc 1; 1 -> 2 by arcs 2 and 5, of which 5 is closed;
//	2 -> 2 by arc 3; 2 -> 0 by arc 6; 3 <-> 4 by arcs 7, 8; nothing ends or begins at 5. 3 and 4 are of one Type, nobody is of the last one.
func made() net.Net {
	return net.Net{
		Verts: []net.Vert{{X: 0, Y: 0, Type: 1}, {X: 5, Y: -3, Type: 2}, {X: -7, Y: 9, Type: 3}, {X: 1, Y: 1, Type: 4}, {X: 1, Y: 1, Type: 4}, {X: -1 << 20, Y: 1 << 20, Type: 0}},
		Arcs: []net.Arc{
			{From: 0, To: 1, W: 10}, {From: 1, To: 0, W: 20}, {From: 1, To: 2, W: 30}, {From: 2, To: 2, W: 40},
			{From: 0, To: 1, W: 10}, {From: 1, To: 2, W: api.Inf}, {From: 2, To: 0, W: 0}, {From: 3, To: 4, W: 1 << 31}, {From: 4, To: 3, W: 1},
		},
		Types: []turn.Table{
			{},
			{Ins: 2, Outs: 2, Costs: []int64{1, 2, 3, api.Inf}},            // 0: in 1, 6; out 0, 4
			{Ins: 2, Outs: 3, Costs: []int64{4, 5, 6, api.Inf, 0, 7}},      // 1: in 0, 4; out 1, 2, 5
			{Ins: 3, Outs: 2, Costs: []int64{8, 9, api.Inf, 100, 200, 11}}, // 2: in 2, 3, 5; out 3, 6
			{Ins: 1, Outs: 1, Costs: []int64{12}},                          // 3, 4
			{Ins: 2, Outs: 1, Costs: []int64{13, 14}},
		},
	}
}

// bends are the turns of made that are there: what it costs from the first arc into the second one.
func bends() map[[2]int]int64 {
	return map[[2]int]int64{
		{1, 0}: 1, {1, 4}: 2, {6, 0}: 3, {6, 4}: api.Inf,
		{0, 1}: 4, {0, 2}: 5, {0, 5}: 6, {4, 1}: api.Inf, {4, 2}: 0, {4, 5}: 7,
		{2, 3}: 8, {2, 6}: 9, {3, 3}: api.Inf, {3, 6}: 100, {5, 3}: 200, {5, 6}: 11,
		{7, 8}: 12, {8, 7}: 12,
	}
}

// full has the most vertices, arcs and Types that there may be: from each vertex to itself and the next three.
func full() net.Net {
	n := net.Net{Verts: make([]net.Vert, api.MaxVerts), Types: make([]turn.Table, api.MaxTypes)}
	for v := range n.Verts {
		n.Verts[v].Type = v % api.MaxTypes
		for k := range 4 {
			n.Arcs = append(n.Arcs, net.Arc{From: v, To: (v + k) % api.MaxVerts, W: int64(4*v + k)})
		}
	}
	for i := range n.Types {
		t := turn.Table{Ins: 4, Outs: 4}
		for j := range 16 {
			t.Costs = append(t.Costs, int64(100*i+j))
		}
		n.Types[i] = t
	}
	return n
}

// star is a vertex with 16 arcs to itself, the most that there may be, each turn of which costs another thing.
func star() net.Net {
	n := net.Net{Verts: make([]net.Vert, 1), Arcs: make([]net.Arc, 16), Types: []turn.Table{{Ins: 16, Outs: 16}}}
	for i := range 256 {
		n.Types[0].Costs = append(n.Types[0].Costs, int64(i))
	}
	return n
}

// copied is n in memory of its own.
func copied(n net.Net) net.Net {
	c := net.Net{Verts: slices.Clone(n.Verts), Arcs: slices.Clone(n.Arcs)}
	for _, t := range n.Types {
		c.Types = append(c.Types, turn.Table{Ins: t.Ins, Outs: t.Outs, Costs: slices.Clone(t.Costs)})
	}
	return c
}

// built is a Graph of n, which New has to take.
func built(t *testing.T, n net.Net) *graph.Graph {
	t.Helper()
	g, err := graph.New(n)
	if err != nil || g == nil {
		t.Fatalf("P601: New: %v, %v", g, err)
	}
	return g
}

// no are numbers of which there is never an arc, a vertex, a Type, an in or an out.
func no() []int {
	return []int{math.MinInt, math.MinInt + 1, -1 << 60, -1 << 32, -16384, -7, -2, -1, 16384, 16385, 1 << 31, 1 << 32, 1 << 60, 1 << 62, math.MaxInt - 1, math.MaxInt}
}

// noWeights are numbers that neither an arc nor a turn may cost.
func noWeights() []int64 {
	return []int64{math.MinInt64, -api.Inf, -1, 1<<31 + 1, 1 << 32, api.Inf / 2, api.Inf - 1, api.Inf + 1, 2 * api.Inf, math.MaxInt64}
}

// weights are numbers that an arc and a turn may cost, at the edges of that.
func weights() []int64 {
	return []int64{0, 1, 77, 1<<31 - 1, 1 << 31, api.Inf}
}

// refused looks at the whole of a refusal: P12's Fault, and the Errno right within.
func refused(t *testing.T, what string, err error, at int, want api.Errno) {
	t.Helper()
	f, ok := err.(*api.Fault)
	if !ok || f == nil {
		t.Errorf("P12: %s: %v is no Fault; want graph %d: %v", what, err, at, want)
		return
	}
	if *f != (api.Fault{Part: "graph", At: at, Err: want}) {
		t.Errorf("P602: %s: %v; want graph %d: %v", what, err, at, want)
	}
}

// turnRefused looks at a refusal of a turn: a Fault round turn.With's.
func turnRefused(t *testing.T, what string, err error, at, within int, want api.Errno) {
	t.Helper()
	f, ok := err.(*api.Fault)
	if !ok || f == nil || f.Part != "graph" || f.At != at {
		t.Errorf("P12, P602: %s: %v; want graph %d", what, err, at)
		return
	}
	g, ok := f.Err.(*api.Fault)
	if !ok || g == nil || *g != (api.Fault{Part: "turn", At: within, Err: want}) {
		t.Errorf("P12, P602: %s: %v; want turn %d: %v within", what, err, within, want)
	}
}

// plainPlace is how many of the arcs ahead of a have that end where a has it.
func plainPlace(n net.Net, a int, end func(net.Arc) int) int {
	place := 0
	for _, c := range n.Arcs[:a] {
		if end(c) == end(n.Arcs[a]) {
			place++
		}
	}
	return place
}

func from(a net.Arc) int { return a.From }

func to(a net.Arc) int { return a.To }

// is looks at that g is n, in all that is told of it.
func is(t *testing.T, what string, g *graph.Graph, n net.Net) {
	t.Helper()
	if g.Verts() != len(n.Verts) || g.Arcs() != len(n.Arcs) {
		t.Errorf("P601: %s: %d vertices, %d arcs; want %d, %d", what, g.Verts(), g.Arcs(), len(n.Verts), len(n.Arcs))
	}
	if got := g.Net(); !net.Same(got, n) {
		t.Errorf("P602: %s: Net: %v; want %v", what, got, n)
	}
	for a, c := range n.Arcs {
		if g.From(a) != c.From || g.To(a) != c.To || g.Weight(a) != c.W {
			t.Errorf("P601: %s: arc %d: from %d to %d at %d; want %v", what, a, g.From(a), g.To(a), g.Weight(a), c)
		}
		if in, out := g.Place(a); in != plainPlace(n, a, to) || out != plainPlace(n, a, from) {
			t.Errorf("P601: %s: Place(%d): %d, %d; want %d, %d", what, a, in, out, plainPlace(n, a, to), plainPlace(n, a, from))
		}
	}
	for v := -1; v <= len(n.Verts); v++ {
		if in, out := g.Ins(v), g.Outs(v); !slices.Equal(in, net.Ins(n, v)) || !slices.Equal(out, net.Outs(n, v)) {
			t.Errorf("P601: %s: Ins, Outs of %d: %v, %v; want %v, %v", what, v, in, out, net.Ins(n, v), net.Outs(n, v))
		}
	}
	for a := -1; a <= len(n.Arcs); a++ {
		for b := -1; b <= len(n.Arcs); b++ {
			if got, want := g.Turn(a, b), net.Turn(n, a, b); got != want {
				t.Errorf("P601: %s: Turn(%d, %d): %d; want %d", what, a, b, got, want)
			}
		}
	}
}

// P601: ordinary nets: none, vertices alone, Types alone, arcs to the same vertex, several alike, as many as may be at one vertex.
func TestNew(t *testing.T) {
	for _, c := range []struct {
		what string
		n    net.Net
	}{
		{"nothing", net.Net{}},
		{"nothing in lists", net.Net{Verts: []net.Vert{}, Arcs: []net.Arc{}, Types: []turn.Table{}}},
		{"a Type alone", net.Net{Types: []turn.Table{{Ins: 1, Outs: 2, Costs: []int64{3, api.Inf}}}}},
		{"vertices alone", net.Net{Verts: make([]net.Vert, 3), Types: []turn.Table{{}}}},
		{"an arc to the same vertex", net.Net{Verts: make([]net.Vert, 1), Arcs: []net.Arc{{W: api.Inf}}, Types: []turn.Table{{Ins: 1, Outs: 1, Costs: []int64{5}}}}},
		{"made", made()},
		{"star", star()},
	} {
		is(t, c.what, built(t, c.n), c.n)
	}
}

// P601: of made each thing that is told, by hand.
func TestMade(t *testing.T) {
	g := built(t, made())
	if g.Verts() != 6 || g.Arcs() != 9 {
		t.Errorf("P601: %d vertices, %d arcs", g.Verts(), g.Arcs())
	}
	for a, want := range [][5]int64{
		{0, 1, 10, 0, 0}, {1, 0, 20, 0, 0}, {1, 2, 30, 0, 1}, {2, 2, 40, 1, 0}, {0, 1, 10, 1, 1},
		{1, 2, api.Inf, 2, 2}, {2, 0, 0, 1, 1}, {3, 4, 1 << 31, 0, 0}, {4, 3, 1, 0, 0},
	} {
		in, out := g.Place(a)
		if got := [5]int64{int64(g.From(a)), int64(g.To(a)), g.Weight(a), int64(in), int64(out)}; got != want {
			t.Errorf("P601: arc %d: from, to, weight, places: %v; want %v", a, got, want)
		}
	}
	for v, want := range [][2][]int{{{1, 6}, {0, 4}}, {{0, 4}, {1, 2, 5}}, {{2, 3, 5}, {3, 6}}, {{8}, {7}}, {{7}, {8}}, {}} {
		if in, out := g.Ins(v), g.Outs(v); !slices.Equal(in, want[0]) || !slices.Equal(out, want[1]) {
			t.Errorf("P601: Ins, Outs of %d: %v, %v; want %v", v, in, out, want)
		}
	}
	for a := range 9 {
		for b := range 9 {
			want, ok := bends()[[2]int{a, b}]
			if !ok {
				want = api.Inf
			}
			if got := g.Turn(a, b); got != want {
				t.Errorf("P601: Turn(%d, %d): %d; want %d", a, b, got, want)
			}
		}
	}
}

// P601: where there is no such arc, no such vertex.
func TestNone(t *testing.T) {
	for _, n := range []net.Net{{}, made(), full()} {
		g := built(t, n)
		for _, x := range append(no(), len(n.Arcs), len(n.Arcs)+1) {
			if in, out := g.Place(x); g.From(x) != -1 || g.To(x) != -1 || g.Weight(x) != api.Inf || in != -1 || out != -1 {
				t.Errorf("P601: arc %d: from %d to %d at %d, places %d, %d", x, g.From(x), g.To(x), g.Weight(x), in, out)
			}
			for _, y := range append(no(), 0, 7, len(n.Arcs), x) {
				if g.Turn(x, y) != api.Inf || g.Turn(y, x) != api.Inf {
					t.Errorf("P601: Turn of %d, %d: %d, %d", x, y, g.Turn(x, y), g.Turn(y, x))
				}
			}
		}
		for _, v := range append(no(), len(n.Verts), len(n.Verts)+1) {
			if len(g.Ins(v)) != 0 || len(g.Outs(v)) != 0 {
				t.Errorf("P601: Ins, Outs of %d: %v, %v", v, g.Ins(v), g.Outs(v))
			}
		}
	}
}

// P601: the greatest net that there may be.
func TestFull(t *testing.T) {
	n := full()
	g := built(t, n)
	if g.Verts() != 4096 || g.Arcs() != 16384 || !net.Same(g.Net(), n) {
		t.Fatalf("P601: %d vertices, %d arcs, or another net", g.Verts(), g.Arcs())
	}
	for v := 3; v < g.Verts(); v++ {
		in, out := []int{4*v - 9, 4*v - 6, 4*v - 3, 4 * v}, []int{4 * v, 4*v + 1, 4*v + 2, 4*v + 3}
		slices.Sort(in)
		if !slices.Equal(g.Ins(v), in) || !slices.Equal(g.Outs(v), out) {
			t.Fatalf("P601: Ins, Outs of %d: %v, %v", v, g.Ins(v), g.Outs(v))
		}
		for i, a := range in {
			for j, b := range out {
				if got, want := g.Turn(a, b), int64(100*(v%256)+4*i+j); got != want {
					t.Fatalf("P601: Turn(%d, %d): %d; want %d", a, b, got, want)
				}
			}
			if at, _ := g.Place(a); at != i || g.To(a) != v || g.Weight(a) != int64(a) || g.Turn(a, (4*v+4)%16384) != api.Inf {
				t.Fatalf("P601: arc %d: at %d to %d at %d", a, at, g.To(a), g.Weight(a))
			}
		}
	}
	if err := g.Set(16383, api.Inf); err != nil || g.Weight(16383) != api.Inf {
		t.Errorf("P602: Set of the last arc: %v, %d", err, g.Weight(16383))
	}
	if err := g.Bend(255, 3, 3, 9); err != nil || g.Net().Types[255].Costs[15] != 9 {
		t.Errorf("P602: Bend of the last Type: %v", err)
	}
}

// P601, P11: New tells net.Check's errors as they are, and beside them nothing (P4).
func TestNewRefuses(t *testing.T) {
	for i, change := range []func(n *net.Net){
		func(n *net.Net) { n.Verts = make([]net.Vert, 4097) },
		func(n *net.Net) { n.Arcs = make([]net.Arc, 16385) },
		func(n *net.Net) { n.Types = make([]turn.Table, 257) },
		func(n *net.Net) { n.Verts, n.Arcs, n.Types = make([]net.Vert, 4097), make([]net.Arc, 16385), nil },
		func(n *net.Net) { n.Types[5].Ins = -1 },
		func(n *net.Net) { n.Types[2].Outs, n.Types[3].Ins = math.MaxInt, math.MinInt },
		func(n *net.Net) { n.Types[3].Costs = n.Types[3].Costs[:5] },
		func(n *net.Net) { n.Types[3].Costs[4], n.Verts[0].X = 1<<31+1, 1<<20+1 },
		func(n *net.Net) { n.Verts[2].X = -1<<20 - 1 },
		func(n *net.Net) { n.Verts[2].Y, n.Verts[2].Type = 1<<20+1, 99 },
		func(n *net.Net) { n.Verts[2].Type = -1 },
		func(n *net.Net) { n.Verts[5].Type, n.Arcs[0].From = 6, -1 },
		func(n *net.Net) { n.Arcs[0].From = math.MinInt },
		func(n *net.Net) { n.Arcs[0].To = math.MaxInt },
		func(n *net.Net) { n.Arcs[8].To, n.Arcs[8].W = 6, -1 },
		func(n *net.Net) { n.Arcs[8].W = api.Inf - 1 },
		func(n *net.Net) { n.Arcs[8].W, n.Verts[0].Type = math.MinInt64, 5 },
		func(n *net.Net) { n.Verts[0].Type = 5 },
		func(n *net.Net) { n.Verts[5].Type = 5 },
		func(n *net.Net) { n.Arcs = n.Arcs[:8] },
		func(n *net.Net) { n.Arcs = append(n.Arcs, make([]net.Arc, 17)...) },
		func(n *net.Net) { n.Types = nil },
	} {
		n := made()
		change(&n)
		want := net.Check(n)
		g, err := graph.New(n)
		if want == nil || !reflect.DeepEqual(err, want) {
			t.Errorf("P601: New %d: %v; want %v", i, err, want)
		}
		if g != nil {
			t.Errorf("P4, P601: New %d: beside an error there is %v", i, g)
		}
		var f *api.Fault
		if errors.As(err, &f) {
			*f = api.Fault{Part: "other", Err: api.ErrSum}
		}
		if _, err := graph.New(n); !reflect.DeepEqual(err, want) {
			t.Errorf("P7, P601: New %d: %v, where somebody has the error ahead; want %v", i, err, want)
		}
	}
}

// P602: an arc costs another thing from now on, and nothing else is otherwise; also what it costs already, and again.
func TestSet(t *testing.T) {
	for _, n := range []net.Net{made(), star()} {
		for a := range n.Arcs {
			g, want := built(t, n), copied(n)
			for _, w := range append(weights(), 5, 5, n.Arcs[a].W) {
				if err := g.Set(a, w); err != nil {
					t.Errorf("P602: Set(%d, %d): %v", a, w, err)
				}
				want.Arcs[a].W = w
				if got := g.Weight(a); got != w {
					t.Errorf("P602: Set(%d, %d): it costs %d", a, w, got)
				}
				is(t, "Set", g, want)
			}
		}
	}
}

// P602, T3: what Set refuses leaves all as it was; no such arc ahead of no such cost (P6).
func TestSetRefuses(t *testing.T) {
	for _, n := range []net.Net{{}, made()} {
		g := built(t, n)
		for _, a := range append(no(), len(n.Arcs), len(n.Arcs)+1) {
			for _, w := range append(weights(), noWeights()...) {
				refused(t, "Set: no such arc", g.Set(a, w), a, api.ErrName)
			}
		}
		for a := range n.Arcs {
			for _, w := range noWeights() {
				refused(t, "Set: no such cost", g.Set(a, w), a, api.ErrRange)
			}
		}
		is(t, "P5, T3: Set refused", g, n)
	}
}

// P602: a turn of a Type costs another thing from now on, at each vertex of that Type, and nothing else is otherwise.
func TestBend(t *testing.T) {
	n := made()
	for typ, table := range n.Types {
		for in := range table.Ins {
			for out := range table.Outs {
				g, want := built(t, n), copied(n)
				at := in*table.Outs + out
				for _, c := range append(weights(), 5, 5, table.Costs[at]) {
					if err := g.Bend(typ, in, out, c); err != nil {
						t.Errorf("P602: Bend(%d, %d, %d, %d): %v", typ, in, out, c, err)
					}
					want.Types[typ].Costs[at] = c
					is(t, "Bend", g, want)
				}
			}
		}
	}
}

// P602: at each vertex of that Type, and at no other, though its Type is alike.
func TestBendAtEach(t *testing.T) {
	n := made()
	n.Verts[4].Type = 6
	n.Types = append(n.Types, turn.Table{Ins: 1, Outs: 1, Costs: []int64{12}})
	g := built(t, n)
	if err := g.Bend(4, 0, 0, 50); err != nil || g.Turn(8, 7) != 50 || g.Turn(7, 8) != 12 {
		t.Errorf("P602: Bend: %v, %d, %d", err, g.Turn(8, 7), g.Turn(7, 8))
	}
	g = built(t, made())
	if err := g.Bend(4, 0, 0, 50); err != nil || g.Turn(8, 7) != 50 || g.Turn(7, 8) != 50 {
		t.Errorf("P602: Bend: %v, %d, %d", err, g.Turn(8, 7), g.Turn(7, 8))
	}
	if err := g.Bend(2, 1, 0, 60); err != nil || g.Turn(4, 1) != 60 || g.Turn(4, 2) != 0 || g.Turn(0, 1) != 4 {
		t.Errorf("P602: Bend: %v, %d, %d, %d", err, g.Turn(4, 1), g.Turn(4, 2), g.Turn(0, 1))
	}
}

// P602, T3: what Bend refuses leaves all as it was; no such Type ahead of turn.With's errors, these in their order (P6).
func TestBendRefuses(t *testing.T) {
	for _, n := range []net.Net{{}, made()} {
		g := built(t, n)
		costs := append(weights(), noWeights()...)
		for _, typ := range append(no(), len(n.Types), len(n.Types)+1) {
			for _, c := range costs {
				refused(t, "Bend: no such Type", g.Bend(typ, 0, 0, c), typ, api.ErrName)
				refused(t, "Bend: no such Type, in, out", g.Bend(typ, -1, -1, c), typ, api.ErrName)
			}
		}
		for typ, table := range n.Types {
			for _, c := range costs {
				for _, in := range append(no(), table.Ins, table.Ins+1) {
					turnRefused(t, "Bend: no such in", g.Bend(typ, in, 0, c), typ, 0, api.ErrName)
					turnRefused(t, "Bend: no such in, out", g.Bend(typ, in, table.Outs, c), typ, 0, api.ErrName)
				}
				for _, out := range append(no(), table.Outs, table.Outs+1) {
					if table.Ins > 0 {
						turnRefused(t, "Bend: no such out", g.Bend(typ, table.Ins-1, out, c), typ, 1, api.ErrName)
					}
				}
			}
			for _, c := range noWeights() {
				if table.Ins > 0 {
					turnRefused(t, "Bend: no such cost", g.Bend(typ, 0, table.Outs-1, c), typ, 2, api.ErrRange)
				}
			}
		}
		is(t, "P5, T3: Bend refused", g, n)
	}
}

// P602: what Bend tells round a turn is just what turn.With tells of it.
func TestBendIsWith(t *testing.T) {
	n := made()
	for _, in := range []int{-1, 0, 1, 2, 3} {
		for _, out := range []int{-1, 0, 1, 2, 3} {
			for _, c := range []int64{-1, 0, 1 << 31, 1<<31 + 1, api.Inf} {
				_, want := turn.With(n.Types[2], in, out, c)
				err := built(t, n).Bend(2, in, out, c)
				if (err == nil) != (want == nil) || want != nil && !reflect.DeepEqual(errors.Unwrap(err), want) {
					t.Errorf("P602: Bend(2, %d, %d, %d): %v; want one round %v", in, out, c, err, want)
				}
			}
		}
	}
}

// W2: walks over the net as it is now go by no arc and no turn that is closed by now, and by those that are opened.
func TestWalks(t *testing.T) {
	g := built(t, made())
	row := []int{1, 0, 2, 6}
	cost := func() int64 { return net.Cost(g.Net(), row) }
	if got := cost(); got != 1+10+5+30+9+0 {
		t.Errorf("W2: %d", got)
	}
	if err := g.Set(2, api.Inf); err != nil || cost() != api.Inf || g.Turn(0, 2) != 5 || g.Turn(2, 6) != 9 {
		t.Errorf("W2, P602: %v, %d, though arc 2 is closed", err, cost())
	}
	if err := g.Set(2, 31); err != nil || cost() != 56 {
		t.Errorf("W2, P602: %v, %d, though arc 2 is open again", err, cost())
	}
	if err := g.Bend(2, 0, 1, api.Inf); err != nil || cost() != api.Inf || g.Weight(2) != 31 {
		t.Errorf("W2, P602: %v, %d, though the turn into arc 2 is forbidden", err, cost())
	}
	if err := g.Bend(2, 0, 1, 0); err != nil || cost() != 51 {
		t.Errorf("W2, P602: %v, %d, though the turn into arc 2 is free", err, cost())
	}
}

// P10: a Twin is another one, as the first is in all that is told; what is done to one changes nothing of the other, nor of a Twin's Twin.
func TestTwin(t *testing.T) {
	g := built(t, made())
	first := g.Twin()
	if first == g || first == nil {
		t.Fatal("P7, P10: Twin tells no other one")
	}
	is(t, "P10: Twin", first, made())
	set(t, g, 0, 5)
	bend(t, g, 4, 0, 0, 6)
	changed := copied(made())
	changed.Arcs[0].W, changed.Types[4].Costs[0] = 5, 6
	is(t, "P10: the first one, changed", g, changed)
	is(t, "P10: Twin, of which another one is changed", first, made())
	second := g.Twin()
	is(t, "P10: Twin of what is changed", second, changed)
	set(t, second, 0, 7)
	bend(t, second, 3, 2, 1, api.Inf)
	is(t, "P10: the first one, of which a Twin is changed", g, changed)
	third := second.Twin()
	other := copied(changed)
	other.Arcs[0].W, other.Types[3].Costs[5] = 7, api.Inf
	is(t, "P10: Twin, changed", second, other)
	is(t, "P10: Twin of a Twin", third, other)
	set(t, first, 8, api.Inf)
	is(t, "P10: Twin of a Twin", third, other)
	is(t, "P10: Twin of nothing", built(t, net.Net{}).Twin(), net.Net{})
}

// set has g do a Set, which has to be taken.
func set(t *testing.T, g *graph.Graph, a int, w int64) {
	t.Helper()
	if err := g.Set(a, w); err != nil {
		t.Errorf("P602: Set(%d, %d): %v", a, w, err)
	}
}

// bend has g do a Bend, which has to be taken.
func bend(t *testing.T, g *graph.Graph, typ, in, out int, c int64) {
	t.Helper()
	if err := g.Bend(typ, in, out, c); err != nil {
		t.Errorf("P602: Bend(%d, %d, %d, %d): %v", typ, in, out, c, err)
	}
}

// roomy is made, with spare room behind each list that is full of other things, all in one memory each.
func roomy() net.Net {
	n := made()
	n.Verts = append(n.Verts, net.Vert{X: 9, Y: 9, Type: 9})[:len(n.Verts)]
	n.Arcs = append(n.Arcs, net.Arc{From: 8, To: 8, W: 8})[:len(n.Arcs)]
	n.Types = append(n.Types, turn.Table{Ins: 5, Outs: 5})[:len(n.Types)]
	for i, t := range n.Types {
		n.Types[i].Costs = append(t.Costs, 77, 78)[:len(t.Costs)]
	}
	return n
}

// whole is n with the spare room of its lists, in memory of its own.
func whole(n net.Net) net.Net {
	n.Verts, n.Arcs, n.Types = n.Verts[:cap(n.Verts)], n.Arcs[:cap(n.Arcs)], slices.Clone(n.Types[:cap(n.Types)])
	for i, t := range n.Types {
		n.Types[i].Costs = t.Costs[:cap(t.Costs)]
	}
	return copied(n)
}

// spoil writes other things over all of n, its spare room too.
func spoil(n net.Net) {
	for i := range n.Types {
		l := n.Types[i].Costs
		for j := range l[:cap(l)] {
			l[:cap(l)][j] = -8
		}
	}
	for i := range n.Verts[:cap(n.Verts)] {
		n.Verts[:cap(n.Verts)][i] = net.Vert{X: -8, Y: -8, Type: -8}
	}
	for i := range n.Arcs[:cap(n.Arcs)] {
		n.Arcs[:cap(n.Arcs)][i] = net.Arc{From: -8, To: -8, W: -8}
	}
	for i := range n.Types[:cap(n.Types)] {
		n.Types[:cap(n.Types)][i] = turn.Table{Ins: -8}
	}
}

// P2: the net that is handed in is not changed, its spare room too, whatever is done to the Graph, and not kept.
func TestNetIsHandedIn(t *testing.T) {
	n := roomy()
	before := whole(n)
	g := built(t, n)
	set(t, g, 0, 5)
	bend(t, g, 3, 0, 0, 6)
	changed := copied(made())
	changed.Arcs[0].W, changed.Types[3].Costs[0] = 5, 6
	if !net.Same(whole(n), before) {
		t.Fatalf("P2, P601: %v is left; want %v", whole(n), before)
	}
	twin := g.Twin()
	spoil(n)
	is(t, "P2: what was handed in is otherwise by now", g, changed)
	is(t, "P2: what was handed in is otherwise by now, Twin", twin, changed)
}

// P2: Costs of two Types that lie in one memory are one another's no more in a Graph.
func TestTypesApart(t *testing.T) {
	n := made()
	costs := []int64{1, 2, 3, 4, 5, 6}
	n.Types[2].Costs, n.Types[3].Costs = costs, costs
	g := built(t, n)
	bend(t, g, 2, 1, 2, 99)
	want := copied(n)
	want.Types[2].Costs[5] = 99
	is(t, "P2, P602: Costs in one memory", g, want)
	got := g.Net()
	got.Types[2].Costs[0] = 55
	if got.Types[3].Costs[0] != 1 || !slices.Equal(costs, []int64{1, 2, 3, 4, 5, 6}) {
		t.Errorf("P2, P602: two lists of Net share memory: %v, %v", got.Types, costs)
	}
}

// P2: what Net answers is new memory, its spare room too.
func TestNetIsNew(t *testing.T) {
	g := built(t, made())
	twin := g.Twin()
	first := g.Net()
	spoil(first)
	is(t, "P2: what Net told is otherwise by now", g, made())
	is(t, "P2: what Net told is otherwise by now, Twin", twin, made())
	second := g.Net()
	before := whole(second)
	spoil(g.Net())
	spoil(twin.Net())
	set(t, g, 3, 9)
	bend(t, g, 1, 0, 0, 9)
	if !net.Same(whole(second), before) || !net.Same(second, made()) {
		t.Errorf("P2, P602: Net told what is otherwise by now: %v", second)
	}
}

// P2: no two lists of one Net share memory, their spare room too.
func TestListsApart(t *testing.T) {
	n := built(t, made()).Net()
	for i := range n.Types {
		l := n.Types[i].Costs
		for j := range l[:cap(l)] {
			l[:cap(l)][j] = int64(i)
		}
	}
	for i, table := range n.Types {
		for _, c := range table.Costs[:cap(table.Costs)] {
			if c != int64(i) {
				t.Errorf("P2, P602: Costs of Type %d share memory with another one's", i)
			}
		}
	}
}

// P2: what Ins and Outs answer is new memory, its spare room too.
func TestArcsAreNew(t *testing.T) {
	g := built(t, made())
	twin := g.Twin()
	for _, call := range []func(*graph.Graph, int) []int{(*graph.Graph).Ins, (*graph.Graph).Outs} {
		for v := range g.Verts() {
			a := call(g, v)
			want := slices.Clone(a)
			for _, b := range [][]int{call(g, v), call(twin, v)} {
				for i := range b[:cap(b)] {
					b[:cap(b)][i] = -5
				}
			}
			if !slices.Equal(a, want) {
				t.Errorf("P2, P601: %v of %d are now %v", want, v, a)
			}
		}
	}
	is(t, "P2: what Ins and Outs told is otherwise by now", g, made())
	is(t, "P2: what Ins and Outs told is otherwise by now, Twin", twin, made())
}

// P7: each New tells a Graph that nobody else has.
func TestGraphsApart(t *testing.T) {
	n := made()
	a, b := built(t, n), built(t, n)
	set(t, a, 1, 3)
	bend(t, a, 1, 1, 1, 3)
	is(t, "P7: another Graph of the same net", b, made())
	if c, d := built(t, net.Net{}), built(t, net.Net{}); c == d || a == b {
		t.Error("P7: two Graphs are one")
	}
}

// P3: asked again, the same is told; asking changes nothing.
func TestAgain(t *testing.T) {
	g := built(t, made())
	for range 3 {
		is(t, "P3: again", g, made())
		g.Twin()
	}
}

// P3: many may ask at once, for asking changes nothing.
func TestAtOnce(t *testing.T) {
	g := built(t, made())
	var all sync.WaitGroup
	for range 4 {
		all.Go(func() { is(t, "P3: at once", g, made()) })
	}
	all.Wait()
}

// P12: the errors are asked by errors.Is and errors.As; P7: each one is new.
func TestFaults(t *testing.T) {
	g := built(t, made())
	for _, c := range []struct {
		call func() error
		at   int
		want api.Errno
		text string
	}{
		{func() error { return g.Set(9, 0) }, 9, api.ErrName, "graph 9: name"},
		{func() error { return g.Set(-3, -1) }, -3, api.ErrName, "graph -3: name"},
		{func() error { return g.Set(8, -1) }, 8, api.ErrRange, "graph 8: range"},
		{func() error { return g.Bend(6, 0, 0, 0) }, 6, api.ErrName, "graph 6: name"},
		{func() error { return g.Bend(-1, -1, -1, -1) }, -1, api.ErrName, "graph -1: name"},
		{func() error { return g.Bend(0, 0, 0, 0) }, 0, api.ErrName, "graph 0: turn 0: name"},
		{func() error { return g.Bend(3, 3, 2, -1) }, 3, api.ErrName, "graph 3: turn 0: name"},
		{func() error { return g.Bend(3, 2, 2, -1) }, 3, api.ErrName, "graph 3: turn 1: name"},
		{func() error { return g.Bend(3, 2, 1, -1) }, 3, api.ErrRange, "graph 3: turn 2: range"},
	} {
		err := c.call()
		for e := api.OK; e <= api.ErrFar; e++ {
			if errors.Is(err, e) != (e == c.want) {
				t.Errorf("P12, P602: %s: %v is %v: %v", c.text, err, e, errors.Is(err, e))
			}
		}
		var f *api.Fault
		if !errors.As(err, &f) || f.Part != "graph" || f.At != c.at || err.Error() != c.text {
			t.Errorf("P12, P602: %s: %v", c.text, err)
			continue
		}
		if inner, ok := f.Err.(*api.Fault); ok {
			*inner = api.Fault{Part: "other", At: 9, Err: api.ErrSum}
		}
		f.Part, f.At, f.Err = "other", 9, api.ErrSum
		if again := c.call(); again == nil || again.Error() != c.text {
			t.Errorf("P7, P602: %s: %v, where somebody has the error ahead", c.text, again)
		}
	}
}

// dice tell numbers below what they are asked for, the same ones each time.
func dice(seed uint64) func(int) int {
	return func(n int) int {
		seed = seed*6364136223846793005 + 1442695040888963407
		return int(seed >> 33 % uint64(n))
	}
}

// thrown is a net that dice made, which net.Check takes. Vertices that may be of one Type are often of one.
func thrown(throw func(int) int) net.Net {
	n := net.Net{Verts: make([]net.Vert, 1+throw(6))}
	ends := make([][2]int, len(n.Verts))
	for range throw(15) {
		a := net.Arc{From: throw(len(n.Verts)), To: throw(len(n.Verts)), W: thrownCost(throw)}
		ends[a.From][1]++
		ends[a.To][0]++
		n.Arcs = append(n.Arcs, a)
	}
	for v, e := range ends {
		typ := slices.IndexFunc(n.Types, func(t turn.Table) bool { return t.Ins == e[0] && t.Outs == e[1] })
		if typ < 0 || throw(3) == 0 {
			typ = len(n.Types)
			t := turn.Table{Ins: e[0], Outs: e[1]}
			for range t.Ins * t.Outs {
				t.Costs = append(t.Costs, thrownCost(throw))
			}
			n.Types = append(n.Types, t)
		}
		n.Verts[v] = net.Vert{X: throw(99), Y: -throw(99), Type: typ}
	}
	return n
}

// thrownCost is what an arc or a turn may cost.
func thrownCost(throw func(int) int) int64 {
	if throw(5) == 0 {
		return api.Inf
	}
	return int64(throw(100))
}

// pair is a Graph, and the net that it has to be.
type pair struct {
	g *graph.Graph
	n net.Net
}

// change does a thrown Set or Bend to both, which may be a wrong one, and tells whether it was taken.
func (p pair) change(t *testing.T, throw func(int) int) bool {
	t.Helper()
	c := thrownCost(throw)
	if throw(8) == 0 {
		c = noWeights()[throw(len(noWeights()))]
	}
	if throw(2) == 0 {
		a := throw(len(p.n.Arcs)+2) - 1
		ok := a >= 0 && a < len(p.n.Arcs) && (c == api.Inf || 0 <= c && c <= 1<<31)
		if (p.g.Set(a, c) == nil) != ok {
			t.Errorf("P602: Set(%d, %d): %v", a, c, !ok)
		}
		if ok {
			p.n.Arcs[a].W = c
		}
		return ok
	}
	typ, in, out := throw(len(p.n.Types)+2)-1, throw(5)-1, throw(5)-1
	ok := typ >= 0 && typ < len(p.n.Types) && (c == api.Inf || 0 <= c && c <= 1<<31)
	ok = ok && in >= 0 && in < p.n.Types[typ].Ins && out >= 0 && out < p.n.Types[typ].Outs
	if (p.g.Bend(typ, in, out, c) == nil) != ok {
		t.Errorf("P602: Bend(%d, %d, %d, %d): %v", typ, in, out, c, !ok)
	}
	if ok {
		p.n.Types[typ].Costs[in*p.n.Types[typ].Outs+out] = c
	}
	return ok
}

// P601, P602, P10: of many nets, Twins of which are changed in turn, what is told is what the chapter's words come to.
func TestThrown(t *testing.T) {
	throw, taken, wrong := dice(6), 0, 0
	for range 150 {
		n := thrown(throw)
		l := []pair{{built(t, n), copied(n)}}
		for range 20 {
			p := l[throw(len(l))]
			if throw(8) == 0 {
				l = append(l, pair{p.g.Twin(), copied(p.n)})
			}
			if p.change(t, throw) {
				taken++
			} else {
				wrong++
			}
			is(t, "thrown", p.g, p.n)
		}
		for _, p := range l {
			is(t, "thrown, at the end", p.g, p.n)
			is(t, "thrown, made anew", built(t, p.g.Net()), p.n)
		}
		if t.Failed() {
			t.Fatalf("net %v", n)
		}
	}
	if taken < 800 || wrong < 800 {
		t.Errorf("just %d changes were taken, %d refused", taken, wrong)
	}
}
