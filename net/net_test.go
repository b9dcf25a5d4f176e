package net_test

import (
	"errors"
	"math"
	"slices"
	"testing"

	"roundsman/api"
	"roundsman/cost"
	"roundsman/net"
	"roundsman/turn"
)

// made is the net that most tests go over.
//
//	0 -> 1 by arcs 0 and 4, which are alike; 1 -> 0 by arc 1; 1 -> 2 by arcs 2 and 5, of which 5 is closed;
//	2 -> 2 by arc 3; 2 -> 0 by arc 6; nothing ends or begins at 3.
func made() net.Net {
	return net.Net{
		Verts: []net.Vert{{X: 0, Y: 0, Type: 1}, {X: 5, Y: -3, Type: 2}, {X: -7, Y: 9, Type: 3}, {X: 1, Y: 1, Type: 0}},
		Arcs: []net.Arc{
			{From: 0, To: 1, W: 10}, {From: 1, To: 0, W: 20}, {From: 1, To: 2, W: 30}, {From: 2, To: 2, W: 40},
			{From: 0, To: 1, W: 10}, {From: 1, To: 2, W: api.Inf}, {From: 2, To: 0, W: 0},
		},
		Types: []turn.Table{
			{},
			{Ins: 2, Outs: 2, Costs: []int64{1, 2, 3, api.Inf}},            // 0: in 1, 6; out 0, 4
			{Ins: 2, Outs: 3, Costs: []int64{4, 5, 6, api.Inf, 0, 7}},      // 1: in 0, 4; out 1, 2, 5
			{Ins: 3, Outs: 2, Costs: []int64{8, 9, api.Inf, 100, 200, 11}}, // 2: in 2, 3, 5; out 3, 6
			{Ins: 7, Outs: 0},
		},
	}
}

// bends are the turns of made that are there: what it costs from the first arc into the second one.
func bends() map[[2]int]int64 {
	return map[[2]int]int64{
		{1, 0}: 1, {1, 4}: 2, {6, 0}: 3, {6, 4}: api.Inf,
		{0, 1}: 4, {0, 2}: 5, {0, 5}: 6, {4, 1}: api.Inf, {4, 2}: 0, {4, 5}: 7,
		{2, 3}: 8, {2, 6}: 9, {3, 3}: api.Inf, {3, 6}: 100, {5, 3}: 200, {5, 6}: 11,
	}
}

// fitted has count vertices, these arcs, and for each vertex a Type of its own that fits it, each cost of which is another one.
func fitted(count int, arcs []net.Arc) net.Net {
	n := net.Net{Verts: make([]net.Vert, count), Arcs: arcs, Types: make([]turn.Table, count)}
	for _, a := range arcs {
		n.Types[a.From].Outs++
		n.Types[a.To].Ins++
	}
	for v := range n.Types {
		t := &n.Types[v]
		for i := range t.Ins * t.Outs {
			t.Costs = append(t.Costs, int64(1000*v+i+1))
		}
		n.Verts[v] = net.Vert{X: v, Y: -v, Type: v}
	}
	return n
}

// full has the most vertices and arcs that there may be: from each one to itself and the next three.
func full() net.Net {
	n := net.Net{Verts: make([]net.Vert, api.MaxVerts), Types: make([]turn.Table, api.MaxTypes)}
	for v := range n.Verts {
		n.Verts[v].Type = v % api.MaxTypes
		for k := range 4 {
			n.Arcs = append(n.Arcs, net.Arc{From: v, To: (v + k) % api.MaxVerts, W: api.MaxWeight})
		}
	}
	for i := range n.Types {
		n.Types[i] = turn.Table{Ins: 4, Outs: 4, Costs: make([]int64, 16)}
	}
	return n
}

// clone is n in memory of its own.
func clone(n net.Net) net.Net {
	n.Verts, n.Arcs, n.Types = slices.Clone(n.Verts), slices.Clone(n.Arcs), slices.Clone(n.Types)
	for i := range n.Types {
		n.Types[i].Costs = slices.Clone(n.Types[i].Costs)
	}
	return n
}

// with is made, but otherwise.
func with(change func(n *net.Net)) net.Net {
	n := made()
	change(&n)
	return n
}

// no are numbers of which there is never an arc, a vertex or a Type.
func no() []int {
	return []int{math.MinInt, math.MinInt + 1, -1 << 60, -1 << 32, -16384, -7, -2, -1, 16384, 16385, 1 << 31, 1 << 32, 1 << 60, 1 << 62, math.MaxInt - 1, math.MaxInt}
}

// noWeights are numbers that neither an arc nor a turn may cost.
func noWeights() []int64 {
	return []int64{math.MinInt64, -api.Inf, -1, 1<<31 + 1, 1 << 32, api.Inf / 2, api.Inf - 1, api.Inf + 1, 2 * api.Inf, math.MaxInt64}
}

// wrong are nets that Check does not take.
func wrong() []net.Net {
	l := []net.Net{
		{Verts: []net.Vert{{}}},
		{Arcs: []net.Arc{{}, {}, {W: api.Inf}}},
		{Arcs: []net.Arc{{From: -1, To: -1}, {From: -1, To: -1}}},
		{Verts: []net.Vert{{}}, Arcs: []net.Arc{{}, {}}},
		{Verts: []net.Vert{{}}, Arcs: []net.Arc{{}, {}}, Types: []turn.Table{{}}},
		{Verts: []net.Vert{{}}, Arcs: slices.Repeat([]net.Arc{{}}, 20), Types: []turn.Table{{Ins: 20, Outs: 20, Costs: make([]int64, 400)}}},
		{Verts: []net.Vert{{}}, Arcs: []net.Arc{{}, {}}, Types: []turn.Table{{Ins: math.MaxInt, Outs: math.MaxInt, Costs: []int64{1}}}},
		{Verts: []net.Vert{{}}, Arcs: []net.Arc{{W: -5}, {W: api.Inf + 3}, {W: math.MaxInt64}, {W: math.MinInt64}}, Types: []turn.Table{{Ins: 4, Outs: 4, Costs: slices.Repeat([]int64{math.MaxInt64}, 16)}}},
		{Verts: []net.Vert{{X: math.MinInt, Y: math.MaxInt}}, Types: []turn.Table{{}}},
		{Verts: make([]net.Vert, 5000), Arcs: make([]net.Arc, 17000), Types: make([]turn.Table, 300)},
	}
	for _, x := range no() {
		l = append(l,
			with(func(n *net.Net) { n.Verts[1].Type = x }),
			with(func(n *net.Net) { n.Arcs[2].From = x }),
			with(func(n *net.Net) { n.Arcs[0].To = x }),
			with(func(n *net.Net) { n.Arcs[1].From, n.Arcs[0].To = x, x }),
			with(func(n *net.Net) { n.Types[1].Ins = x }),
		)
	}
	return l
}

// refused looks at the whole of a refusal: P12's Fault, and the Errno right within.
func refused(t *testing.T, what string, err error, part string, at int, want api.Errno) {
	t.Helper()
	f, ok := err.(*api.Fault)
	if !ok || f == nil {
		t.Errorf("P12, P301: %s: %v is no Fault", what, err)
		return
	}
	if *f != (api.Fault{Part: part, At: at, Err: want}) {
		t.Errorf("P301: %s: %v; want %s %d: %v", what, err, part, at, want)
	}
}

// typeRefused looks at a refusal of a Type: a Fault round turn.Check's.
func typeRefused(t *testing.T, what string, err error, at, within int, want api.Errno) {
	t.Helper()
	f, ok := err.(*api.Fault)
	if !ok || f == nil || f.Part != "type" || f.At != at {
		t.Errorf("P12, P301: %s: %v; want type %d", what, err, at)
		return
	}
	g, ok := f.Err.(*api.Fault)
	if !ok || g == nil || *g != (api.Fault{Part: "turn", At: within, Err: want}) {
		t.Errorf("P12, P301: %s: %v; want turn %d: %v within", what, err, within, want)
	}
}

// taken looks at that Check takes n.
func taken(t *testing.T, what string, n net.Net) {
	t.Helper()
	if err := net.Check(n); err != nil {
		t.Errorf("P301: Check: %s: %v", what, err)
	}
}

// P301: ordinary nets: none, vertices alone, arcs to the same vertex, several alike, Types of several vertices and of none.
func TestCheckTakes(t *testing.T) {
	taken(t, "nothing", net.Net{})
	taken(t, "nothing in lists", net.Net{Verts: []net.Vert{}, Arcs: []net.Arc{}, Types: []turn.Table{}})
	taken(t, "a vertex alone", net.Net{Verts: []net.Vert{{}}, Types: []turn.Table{{}}})
	taken(t, "vertices at one place, of one Type", net.Net{Verts: []net.Vert{{X: 2, Y: 2}, {X: 2, Y: 2}}, Types: []turn.Table{{}}})
	taken(t, "Types that no vertex is of", net.Net{Types: []turn.Table{{Ins: 16, Outs: 1, Costs: make([]int64, 16)}, {Outs: 3}}})
	taken(t, "made", made())
	taken(t, "an arc to the same vertex", fitted(1, []net.Arc{{}}))
	taken(t, "arcs alike", fitted(2, []net.Arc{{From: 0, To: 1, W: 3}, {From: 0, To: 1, W: 3}, {From: 1, To: 0}, {From: 0, To: 1, W: 3}}))
	taken(t, "nothing begins, nothing ends", fitted(3, []net.Arc{{From: 0, To: 2}, {From: 1, To: 2}}))
}

// The table of limits, P301: at each bound a net is taken.
func TestCheckBounds(t *testing.T) {
	if n := full(); len(n.Verts) != 4096 || len(n.Arcs) != 16384 || len(n.Types) != 256 {
		t.Fatalf("full has %d, %d, %d", len(n.Verts), len(n.Arcs), len(n.Types))
	}
	taken(t, "the most vertices, arcs, Types", full())
	for _, c := range []int{-1 << 20, -1<<20 + 1, -1, 0, 1, 1<<20 - 1, 1 << 20} {
		taken(t, "X", with(func(n *net.Net) { n.Verts[2].X = c }))
		taken(t, "Y", with(func(n *net.Net) { n.Verts[2].Y = c }))
		taken(t, "X and Y", with(func(n *net.Net) { n.Verts[2].X, n.Verts[2].Y = c, -c }))
	}
	for _, w := range []int64{0, 1, 1<<31 - 1, 1 << 31, api.Inf} {
		taken(t, "W", with(func(n *net.Net) { n.Arcs[6].W = w }))
		taken(t, "a turn", with(func(n *net.Net) { n.Types[3].Costs[5] = w }))
	}
	taken(t, "16 arcs to the same vertex", fitted(1, make([]net.Arc, 16)))
	taken(t, "16 arcs from one to the other", fitted(2, slices.Repeat([]net.Arc{{From: 1, To: 0}}, 16)))
}

// The table of limits, P301: one more is refused, of vertices ahead of arcs, of these ahead of Types, and ahead of all else.
func TestCheckCounts(t *testing.T) {
	verts, arcs, types := make([]net.Vert, 4097), make([]net.Arc, 16385), make([]turn.Table, 257)
	for _, c := range []struct {
		what string
		n    net.Net
		at   int
	}{
		{"vertices", net.Net{Verts: verts, Types: make([]turn.Table, 1)}, 0},
		{"vertices of no Type", net.Net{Verts: verts}, 0},
		{"many vertices", net.Net{Verts: make([]net.Vert, 100000)}, 0},
		{"arcs", net.Net{Verts: verts[:1], Arcs: arcs, Types: make([]turn.Table, 1)}, 1},
		{"arcs of no vertex", net.Net{Arcs: arcs}, 1},
		{"Types", net.Net{Types: types}, 2},
		{"wrong Types", net.Net{Types: slices.Repeat([]turn.Table{{Ins: -1}}, 257)}, 2},
		{"vertices and arcs", net.Net{Verts: verts, Arcs: arcs}, 0},
		{"vertices and Types", net.Net{Verts: verts, Types: types}, 0},
		{"arcs and Types", net.Net{Arcs: arcs, Types: types}, 1},
		{"all", net.Net{Verts: verts, Arcs: arcs, Types: types}, 0},
		{"vertices and a wrong Type", net.Net{Verts: verts, Types: []turn.Table{{Ins: -1}}}, 0},
		{"arcs and a wrong Type", net.Net{Arcs: arcs, Types: []turn.Table{{Ins: -1}}}, 1},
		{"arcs and a wrong vertex", net.Net{Verts: []net.Vert{{X: math.MaxInt, Type: -1}}, Arcs: arcs}, 1},
		{"Types and a wrong vertex", net.Net{Verts: []net.Vert{{X: math.MaxInt, Type: -1}}, Types: types}, 2},
		{"Types and a wrong arc", net.Net{Arcs: []net.Arc{{W: -1}}, Types: types}, 2},
	} {
		refused(t, "Check: "+c.what, net.Check(c.n), "net", c.at, api.ErrLong)
	}
	more := full()
	more.Arcs = append(more.Arcs, net.Arc{})
	refused(t, "Check: one more arc than the most", net.Check(more), "net", 1, api.ErrLong)
	more = full()
	more.Types = append(more.Types, turn.Table{})
	refused(t, "Check: one more Type than the most", net.Check(more), "net", 2, api.ErrLong)
	more = full()
	more.Verts = append(more.Verts, net.Vert{})
	refused(t, "Check: one more vertex than the most", net.Check(more), "net", 0, api.ErrLong)
}

// P301: what turn.Check tells of a Type, in a Fault round it; of several wrong ones the first, whether or not a vertex is of it.
func TestCheckTypes(t *testing.T) {
	for i := range made().Types {
		for _, c := range []struct {
			table turn.Table
			at    int
			want  api.Errno
		}{
			{turn.Table{Ins: -1}, 0, api.ErrArg}, {turn.Table{Ins: 17, Outs: -1}, 0, api.ErrArg}, {turn.Table{Outs: 17}, 1, api.ErrArg},
			{turn.Table{Ins: 1, Outs: 1}, 2, api.ErrTurn}, {turn.Table{Costs: []int64{0}}, 2, api.ErrTurn},
			{turn.Table{Ins: 2, Outs: 2, Costs: []int64{0, 0, -1, -1}}, 5, api.ErrRange}, {turn.Table{Ins: 1, Outs: 1, Costs: []int64{1<<31 + 1}}, 3, api.ErrRange},
		} {
			n := made()
			n.Types[i] = c.table
			typeRefused(t, "Check: a Type", net.Check(n), i, c.at, c.want)
			for j := i + 1; j < len(n.Types); j++ {
				n.Types[j] = turn.Table{Ins: 99}
			}
			typeRefused(t, "Check: Types from here on", net.Check(n), i, c.at, c.want)
		}
	}
	last := full()
	last.Types[255] = turn.Table{Ins: 17}
	typeRefused(t, "Check: the last Type", net.Check(last), 255, 0, api.ErrArg)
}

// The table of limits, P9, P301: X, Y and Type of each vertex; of one vertex where it stands ahead of its Type.
func TestCheckVerts(t *testing.T) {
	far := []int{math.MinInt, -1 << 62, -1 << 32, -1 << 21, -1<<20 - 1, 1<<20 + 1, 1 << 21, 1 << 32, 1 << 62, math.MaxInt}
	for v := range made().Verts {
		for _, x := range far {
			refused(t, "Check: X", net.Check(with(func(n *net.Net) { n.Verts[v].X = x })), "vert", v, api.ErrArg)
			refused(t, "Check: Y", net.Check(with(func(n *net.Net) { n.Verts[v].Y = x })), "vert", v, api.ErrArg)
			refused(t, "Check: X and Type", net.Check(with(func(n *net.Net) { n.Verts[v].X, n.Verts[v].Type = x, -1 })), "vert", v, api.ErrArg)
			refused(t, "Check: Y and Type", net.Check(with(func(n *net.Net) { n.Verts[v].Y, n.Verts[v].Type = x, 9 })), "vert", v, api.ErrArg)
			refused(t, "Check: X of this and those behind", net.Check(with(func(n *net.Net) {
				for i := range n.Verts[v:] {
					n.Verts[v+i].X = x
				}
			})), "vert", v, api.ErrArg)
		}
		for _, x := range append(no(), 5, 6, 255, 256) {
			refused(t, "Check: Type", net.Check(with(func(n *net.Net) { n.Verts[v].Type = x })), "vert", v, api.ErrName)
			refused(t, "Check: Type, X of those behind", net.Check(with(func(n *net.Net) {
				n.Verts[v].Type = x
				for i := range n.Verts[v+1:] {
					n.Verts[v+1+i].X = 1 << 21
				}
			})), "vert", v, api.ErrName)
		}
	}
	refused(t, "Check: no Types", net.Check(net.Net{Verts: []net.Vert{{}}}), "vert", 0, api.ErrName)
	last := full()
	last.Verts[4095].Type = 256
	refused(t, "Check: the last vertex", net.Check(last), "vert", 4095, api.ErrName)
}

// The table of limits, P301: From, To and W of each arc; of one arc its ends ahead of its W.
func TestCheckArcs(t *testing.T) {
	for a := range made().Arcs {
		for _, v := range append(no(), 4, 5, 4095, 4096) {
			refused(t, "Check: From", net.Check(with(func(n *net.Net) { n.Arcs[a].From = v })), "arc", a, api.ErrName)
			refused(t, "Check: To", net.Check(with(func(n *net.Net) { n.Arcs[a].To = v })), "arc", a, api.ErrName)
			refused(t, "Check: From and To", net.Check(with(func(n *net.Net) { n.Arcs[a].From, n.Arcs[a].To = v, v })), "arc", a, api.ErrName)
			refused(t, "Check: From and W", net.Check(with(func(n *net.Net) { n.Arcs[a].From, n.Arcs[a].W = v, -1 })), "arc", a, api.ErrName)
			refused(t, "Check: To and W", net.Check(with(func(n *net.Net) { n.Arcs[a].To, n.Arcs[a].W = v, -1 })), "arc", a, api.ErrName)
		}
		for _, w := range noWeights() {
			refused(t, "Check: W", net.Check(with(func(n *net.Net) { n.Arcs[a].W = w })), "arc", a, api.ErrRange)
			refused(t, "Check: W, To of those behind", net.Check(with(func(n *net.Net) {
				n.Arcs[a].W = w
				for i := range n.Arcs[a+1:] {
					n.Arcs[a+1+i].To = -1
				}
			})), "arc", a, api.ErrRange)
		}
	}
	refused(t, "Check: no vertices", net.Check(net.Net{Arcs: []net.Arc{{}}}), "arc", 0, api.ErrName)
	last := full()
	last.Arcs[16383].To = 4096
	refused(t, "Check: the last arc", net.Check(last), "arc", 16383, api.ErrName)
}

// The table of limits, P301: at most 16 arcs end at a vertex, and at most 16 begin there; it is told ahead of a Type that does not fit.
func TestCheckDegrees(t *testing.T) {
	in, out := slices.Repeat([]net.Arc{{From: 0, To: 1}}, 17), slices.Repeat([]net.Arc{{From: 1, To: 0}}, 17)
	types := []turn.Table{{Outs: 16}, {Ins: 16}, {}}
	verts := []net.Vert{{Type: 0}, {Type: 1}, {Type: 2}}
	refused(t, "Check: 17 begin", net.Check(net.Net{Verts: verts, Arcs: in, Types: types}), "vert", 0, api.ErrLong)
	refused(t, "Check: 17 end", net.Check(net.Net{Verts: verts, Arcs: out, Types: []turn.Table{{Ins: 16}, {Outs: 16}, {}}}), "vert", 0, api.ErrLong)
	refused(t, "Check: 17 end and begin", net.Check(net.Net{Verts: verts[:1], Arcs: make([]net.Arc, 17), Types: types}), "vert", 0, api.ErrLong)
	refused(t, "Check: 17 of wrong Types", net.Check(net.Net{Verts: []net.Vert{{}, {}}, Arcs: in, Types: []turn.Table{{}}}), "vert", 0, api.ErrLong)
	apart := []net.Arc{{From: 0, To: 1}}
	for range 16 {
		apart = append(apart, net.Arc{From: 2, To: 1})
	}
	refused(t, "Check: 17 end, from two", net.Check(net.Net{Verts: verts, Arcs: apart, Types: []turn.Table{{Outs: 1}, {Ins: 16}, {Outs: 16}}}), "vert", 1, api.ErrLong)
	for i := range apart {
		apart[i].From, apart[i].To = apart[i].To, apart[i].From
	}
	refused(t, "Check: 17 begin, to two", net.Check(net.Net{Verts: verts, Arcs: apart, Types: []turn.Table{{Ins: 1}, {Outs: 16}, {Ins: 16}}}), "vert", 1, api.ErrLong)
	most := net.Net{Verts: make([]net.Vert, 1), Arcs: make([]net.Arc, 16384), Types: make([]turn.Table, 1)}
	refused(t, "Check: all arcs at one vertex", net.Check(most), "vert", 0, api.ErrLong)
}

// P301: a vertex has just as many Ins and Outs as its Type; P11: vertex by vertex, of each too many arcs ahead of a Type that does not fit.
func TestCheckFits(t *testing.T) {
	for v, typ := range []int{1, 2, 3, 0} {
		own := made().Types[typ]
		for _, d := range []struct{ ins, outs int }{{1, 0}, {0, 1}, {1, 1}, {-1, 0}, {0, -1}, {-1, -1}, {1, -1}, {-1, 1}, {3, 0}, {0, 3}} {
			ins, outs := own.Ins+d.ins, own.Outs+d.outs
			if ins < 0 || outs < 0 {
				continue
			}
			n := made()
			n.Types[typ] = turn.Table{Ins: ins, Outs: outs, Costs: make([]int64, ins*outs)}
			refused(t, "Check: Type", net.Check(n), "vert", v, api.ErrTurn)
		}
	}
	refused(t, "Check: Types changed over", net.Check(with(func(n *net.Net) { n.Verts[1].Type, n.Verts[2].Type = 3, 2 })), "vert", 1, api.ErrTurn)
	refused(t, "Check: of another Type", net.Check(with(func(n *net.Net) { n.Verts[3].Type = 4 })), "vert", 3, api.ErrTurn)
	refused(t, "Check: one arc fewer", net.Check(with(func(n *net.Net) { n.Arcs = n.Arcs[:6] })), "vert", 0, api.ErrTurn)
	refused(t, "Check: one arc more", net.Check(with(func(n *net.Net) { n.Arcs = append(n.Arcs, net.Arc{From: 2, To: 3}) })), "vert", 2, api.ErrTurn)
	refused(t, "Check: an arc the other way", net.Check(with(func(n *net.Net) { n.Arcs[6] = net.Arc{From: 0, To: 2} })), "vert", 0, api.ErrTurn)
	late := fitted(2, append(slices.Repeat([]net.Arc{{From: 1, To: 1}}, 16), net.Arc{From: 0, To: 0}))
	taken(t, "16 at 1", late)
	late.Arcs = append(late.Arcs, net.Arc{From: 1, To: 1})
	refused(t, "Check: 17 at 1", net.Check(late), "vert", 1, api.ErrLong)
	late.Verts[0].Type = 1
	refused(t, "Check: 17 at 1, of 0 the Type", net.Check(late), "vert", 0, api.ErrTurn)
	last := full()
	last.Types[255] = turn.Table{Ins: 4, Outs: 3, Costs: make([]int64, 12)}
	refused(t, "Check: the last Type", net.Check(last), "vert", 255, api.ErrTurn)
}

// P6, P301: Types ahead of vertices, these ahead of arcs, these ahead of how many there are at a vertex and whether its Type fits.
func TestCheckOrder(t *testing.T) {
	n := made()
	n.Types[0].Ins = 1 // fits no more, but turn.Check takes it
	refused(t, "Check: a Type that does not fit", net.Check(n), "vert", 3, api.ErrTurn)
	n.Arcs[6].W = -1
	refused(t, "Check: an arc ahead of it", net.Check(n), "arc", 6, api.ErrRange)
	n.Arcs[5].To = 4
	refused(t, "Check: an arc ahead of that", net.Check(n), "arc", 5, api.ErrName)
	n.Verts[3].Type = 5
	refused(t, "Check: a vertex ahead of the arcs", net.Check(n), "vert", 3, api.ErrName)
	n.Verts[2].Y = 1 << 21
	refused(t, "Check: a vertex ahead of that", net.Check(n), "vert", 2, api.ErrArg)
	n.Types[4].Ins = 17
	typeRefused(t, "Check: a Type ahead of the vertices", net.Check(n), 4, 0, api.ErrArg)
	n.Types[1].Costs[3] = -1
	typeRefused(t, "Check: a Type ahead of that", net.Check(n), 1, 6, api.ErrRange)
	n.Types = append(n.Types, make([]turn.Table, 256)...)
	refused(t, "Check: too many Types ahead of each", net.Check(n), "net", 2, api.ErrLong)

	many := fitted(2, make([]net.Arc, 16))
	many.Arcs = append(many.Arcs, net.Arc{W: 1<<31 + 1})
	refused(t, "Check: W ahead of how many there are", net.Check(many), "arc", 16, api.ErrRange)
	many.Verts[1].X = -1<<20 - 1
	refused(t, "Check: X ahead of it", net.Check(many), "vert", 1, api.ErrArg)
}

// P12: the errors are asked by errors.Is and errors.As, which finds the outermost Fault; P7: each one is new.
func TestFaults(t *testing.T) {
	for _, c := range []struct {
		n    net.Net
		part string
		at   int
		want api.Errno
		text string
	}{
		{net.Net{Arcs: make([]net.Arc, 16385)}, "net", 1, api.ErrLong, "net 1: long"},
		{net.Net{Types: []turn.Table{{}, {Ins: 1, Outs: 1, Costs: []int64{-1}}}}, "type", 1, api.ErrRange, "type 1: turn 3: range"},
		{net.Net{Types: []turn.Table{{Outs: 17}}}, "type", 0, api.ErrArg, "type 0: turn 1: arg"},
		{net.Net{Types: []turn.Table{{Ins: 1, Outs: 1}}}, "type", 0, api.ErrTurn, "type 0: turn 2: turn"},
		{with(func(n *net.Net) { n.Verts[1].X = 1 << 21 }), "vert", 1, api.ErrArg, "vert 1: arg"},
		{with(func(n *net.Net) { n.Verts[2].Type = 5 }), "vert", 2, api.ErrName, "vert 2: name"},
		{with(func(n *net.Net) { n.Arcs[3].To = 4 }), "arc", 3, api.ErrName, "arc 3: name"},
		{with(func(n *net.Net) { n.Arcs[4].W = -1 }), "arc", 4, api.ErrRange, "arc 4: range"},
		{net.Net{Verts: make([]net.Vert, 1), Arcs: make([]net.Arc, 17), Types: make([]turn.Table, 1)}, "vert", 0, api.ErrLong, "vert 0: long"},
		{with(func(n *net.Net) { n.Verts[3].Type = 4 }), "vert", 3, api.ErrTurn, "vert 3: turn"},
	} {
		for range 2 {
			err := net.Check(c.n)
			for e := api.OK; e <= api.ErrFar; e++ {
				if errors.Is(err, e) != (e == c.want) {
					t.Errorf("P12, P301: %s: %v is %v: %v", c.text, err, e, errors.Is(err, e))
				}
			}
			var f *api.Fault
			if !errors.As(err, &f) || f.Part != c.part || f.At != c.at || err.Error() != c.text {
				t.Errorf("P12, P301: %s: %v", c.text, err)
				continue
			}
			if g, ok := f.Err.(*api.Fault); ok {
				g.Part, g.At, g.Err = "within", 8, api.ErrCell
			}
			f.Part, f.At, f.Err = "other", 9, api.ErrSum
		}
	}
}

// P302: by number, those that end there, those that begin there; an arc to the same vertex does both.
func TestInsOuts(t *testing.T) {
	n := made()
	for v, c := range []struct{ ins, outs []int }{
		{[]int{1, 6}, []int{0, 4}}, {[]int{0, 4}, []int{1, 2, 5}}, {[]int{2, 3, 5}, []int{3, 6}}, {nil, nil},
	} {
		if got := net.Ins(n, v); !slices.Equal(got, c.ins) {
			t.Errorf("P302: Ins of %d: %v; want %v", v, got, c.ins)
		}
		if got := net.Outs(n, v); !slices.Equal(got, c.outs) {
			t.Errorf("P302: Outs of %d: %v; want %v", v, got, c.outs)
		}
	}
	most := fitted(2, append(slices.Repeat([]net.Arc{{From: 1, To: 1}}, 8), slices.Repeat([]net.Arc{{From: 1, To: 0}, {From: 0, To: 1}}, 8)...))
	if got := net.Ins(most, 1); !slices.Equal(got, []int{0, 1, 2, 3, 4, 5, 6, 7, 9, 11, 13, 15, 17, 19, 21, 23}) {
		t.Errorf("P302: Ins of 16: %v", got)
	}
	if got := net.Outs(most, 1); !slices.Equal(got, []int{0, 1, 2, 3, 4, 5, 6, 7, 8, 10, 12, 14, 16, 18, 20, 22}) {
		t.Errorf("P302: Outs of 16: %v", got)
	}
	if in, out := net.Ins(full(), 4095), net.Outs(full(), 4095); !slices.Equal(in, []int{16371, 16374, 16377, 16380}) || !slices.Equal(out, []int{16380, 16381, 16382, 16383}) {
		t.Errorf("P302: of the last vertex: %v, %v", in, out)
	}
}

// P302: none, where there is no such vertex.
func TestInsOutsNone(t *testing.T) {
	for _, n := range []net.Net{made(), {}, full()} {
		for _, v := range append(no(), len(n.Verts), len(n.Verts)+1) {
			if in, out := net.Ins(n, v), net.Outs(n, v); len(in) != 0 || len(out) != 0 {
				t.Errorf("P302: of %d: %v, %v", v, in, out)
			}
		}
	}
	astray := with(func(n *net.Net) { n.Arcs[1], n.Arcs[2] = net.Arc{From: 4, To: 4}, net.Arc{From: -1, To: -1} })
	for _, v := range []int{-1, 4} {
		if in, out := net.Ins(astray, v), net.Outs(astray, v); len(in) != 0 || len(out) != 0 {
			t.Errorf("P302: of %d, where arcs lead astray: %v, %v", v, in, out)
		}
	}
}

// P302: the turns that are there, each by its places; Inf from any other arc into any other one.
func TestTurn(t *testing.T) {
	n, want := made(), bends()
	for a := -3; a < 12; a++ {
		for b := -3; b < 12; b++ {
			c, ok := want[[2]int{a, b}]
			if !ok {
				c = api.Inf
			}
			if got := net.Turn(n, a, b); got != c {
				t.Errorf("P302: Turn(%d, %d): %d; want %d", a, b, got, c)
			}
		}
	}
	for _, x := range append(no(), 7, 8) {
		for a := range n.Arcs {
			if p, q := net.Turn(n, x, a), net.Turn(n, a, x); p != api.Inf || q != api.Inf {
				t.Errorf("P302: Turn(%d, %d): %d, the other way %d", x, a, p, q)
			}
		}
		for _, y := range no() {
			if got := net.Turn(n, x, y); got != api.Inf {
				t.Errorf("P302: Turn(%d, %d): %d", x, y, got)
			}
		}
	}
	if got := net.Turn(net.Net{}, 0, 0); got != api.Inf {
		t.Errorf("P302: Turn(0, 0) of nothing: %d", got)
	}
}

// P302: a turn is one of the vertex's Type, whatever number that has, and vertices of one Type turn alike.
func TestTurnIsOfType(t *testing.T) {
	n := net.Net{
		Verts: []net.Vert{{Type: 2}, {Type: 2}, {Type: 0}},
		Arcs:  []net.Arc{{From: 2, To: 2}, {From: 1, To: 1}, {From: 0, To: 0}},
		Types: []turn.Table{{Ins: 1, Outs: 1, Costs: []int64{7}}, {Ins: 1, Outs: 1, Costs: []int64{8}}, {Ins: 1, Outs: 1, Costs: []int64{9}}},
	}
	taken(t, "two of one Type", n)
	if net.Turn(n, 0, 0) != 7 || net.Turn(n, 1, 1) != 9 || net.Turn(n, 2, 2) != 9 {
		t.Errorf("P302: Turn: %d, %d, %d", net.Turn(n, 0, 0), net.Turn(n, 1, 1), net.Turn(n, 2, 2))
	}
	for _, c := range []int64{0, 1 << 31, api.Inf} {
		n.Types[2].Costs[0] = c
		if got := net.Turn(n, 1, 1); got != c {
			t.Errorf("P302: Turn of %d: %d", c, got)
		}
	}
}

// W2, P302: one arc or more, none closed, each turn there and not forbidden; an arc may come again.
func TestWalk(t *testing.T) {
	n := made()
	for _, c := range []struct {
		l    []int
		cost int64
	}{
		{[]int{0}, 0}, {[]int{3}, 0}, {[]int{6}, 0}, {[]int{0, 1}, 4 + 20}, {[]int{0, 2}, 5 + 30}, {[]int{4, 2}, 0 + 30}, {[]int{1, 0}, 1 + 10}, {[]int{1, 4}, 2 + 10},
		{[]int{2, 3}, 8 + 40}, {[]int{2, 6}, 9 + 0}, {[]int{6, 0}, 3 + 10}, {[]int{3, 6}, 100 + 0},
		{[]int{4, 2, 3, 6, 0, 1}, 0 + 30 + 8 + 40 + 100 + 0 + 3 + 10 + 4 + 20}, {[]int{0, 1, 0, 1, 0}, 4 + 20 + 1 + 10 + 4 + 20 + 1 + 10},
		{[]int{1, 4, 2, 6, 0, 1, 4, 2}, 2 + 10 + 0 + 30 + 9 + 0 + 3 + 10 + 4 + 20 + 2 + 10 + 0 + 30},
	} {
		if !net.Walk(n, c.l) || net.Cost(n, c.l) != c.cost {
			t.Errorf("P302: %v: %v, %d; want %d", c.l, net.Walk(n, c.l), net.Cost(n, c.l), c.cost)
		}
	}
}

// W2, P302: what is no walk costs Inf.
func TestNoWalk(t *testing.T) {
	n := made()
	for _, l := range [][]int{
		nil, {}, {5}, {7}, {-1}, // nothing, a closed arc, no arc
		{0, 5}, {4, 5}, {5, 3}, {5, 6}, {1, 0, 5}, {5, 6, 0}, // along a closed arc, though the turn is there
		{4, 1}, {6, 4}, {3, 3}, {2, 3, 3}, {1, 4, 1}, {4, 1, 0}, {4, 1, 4}, // by a forbidden turn, not there alone
		{0, 0}, {0, 3}, {0, 4}, {0, 6}, {2, 0}, {2, 1}, {3, 0}, {6, 6}, {0, 1, 2}, {0, 3, 6}, {2, 1, 0}, // not one behind the other
		{0, 7}, {7, 0}, {0, -1}, {-1, 0}, {0, 1, 7}, {0, 7, 1}, {7, 7}, {-1, -1},
	} {
		if net.Walk(n, l) || net.Cost(n, l) != api.Inf {
			t.Errorf("P302: %v: %v, %d", l, net.Walk(n, l), net.Cost(n, l))
		}
	}
	for _, x := range append(no(), 8) {
		for _, l := range [][]int{{x}, {x, 0}, {0, x}, {0, 1, x}, {0, x, 1}, {x, 0, 1}, {x, x}} {
			if net.Walk(n, l) || net.Cost(n, l) != api.Inf {
				t.Errorf("P302: %v: %v, %d", l, net.Walk(n, l), net.Cost(n, l))
			}
		}
	}
	if net.Walk(net.Net{}, nil) || net.Cost(net.Net{}, nil) != api.Inf || net.Walk(net.Net{}, []int{0}) || net.Cost(net.Net{}, []int{0}) != api.Inf {
		t.Error("P302: a walk in nothing")
	}
}

// W2, P302: costs of 0 and of the most that there may be; the first arc's is not counted, even where it comes again.
func TestCostEdges(t *testing.T) {
	ring := fitted(1, []net.Arc{{W: 1 << 31}})
	ring.Types[0].Costs[0] = 1 << 31
	for n := 1; n <= 1000; n++ {
		if got := net.Cost(ring, make([]int, n)); got != int64(n-1)<<32 {
			t.Errorf("P302: Cost of %d times: %d", n, got)
		}
	}
	free := fitted(1, []net.Arc{{}, {}})
	free.Types[0].Costs = make([]int64, 4)
	if l := []int{0, 1, 1, 0, 0}; !net.Walk(free, l) || net.Cost(free, l) != 0 {
		t.Errorf("P302: Cost of nought: %d", net.Cost(free, l))
	}
	if l := make([]int, 1<<20); !net.Walk(ring, l) || net.Cost(ring, l) != (1<<20-1)<<32 {
		t.Errorf("P302: Cost of a long walk: %d", net.Cost(ring, l))
	}
}

// P302: in the greatest net that there may be walks are told from rows that are none, however long they are.
func TestWalkFull(t *testing.T) {
	n, l := full(), []int{}
	for v := range 200000 {
		l = append(l, v%4096*4+1) // from v to the next one
	}
	if got := net.Cost(n, l); !net.Walk(n, l) || got != 199999<<31 {
		t.Errorf("P302: Cost of a long walk: %d", got)
	}
	l[150000]++
	if net.Walk(n, l) || net.Cost(n, l) != api.Inf {
		t.Errorf("P302: %v, %d, though it leaps over a vertex", net.Walk(n, l), net.Cost(n, l))
	}
}

// plainTurn is what a turn costs, by the chapter's words, from what stands in the net.
func plainTurn(n net.Net, a, b int) int64 {
	if a < 0 || a >= len(n.Arcs) || b < 0 || b >= len(n.Arcs) || n.Arcs[a].To != n.Arcs[b].From {
		return api.Inf
	}
	v, in, out := n.Arcs[a].To, 0, 0
	for i, c := range n.Arcs {
		if i < a && c.To == v {
			in++
		}
		if i < b && c.From == v {
			out++
		}
	}
	table := n.Types[n.Verts[v].Type]
	return table.Costs[in*table.Outs+out]
}

// plainCost is what a row of arcs costs, by the chapter's words.
func plainCost(n net.Net, l []int) int64 {
	if len(l) == 0 {
		return api.Inf
	}
	for _, a := range l {
		if a < 0 || a >= len(n.Arcs) || n.Arcs[a].W == api.Inf {
			return api.Inf
		}
	}
	sum := int64(0)
	for i := 1; i < len(l); i++ {
		c := plainTurn(n, l[i-1], l[i])
		if c == api.Inf {
			return api.Inf
		}
		sum += c + n.Arcs[l[i]].W
	}
	return sum
}

// dice tell numbers below what they are asked for, the same ones each time.
func dice(seed uint64) func(int) int {
	return func(n int) int {
		seed = seed*6364136223846793005 + 1442695040888963407
		return int(seed >> 33 % uint64(n))
	}
}

// thrown is a net that dice made, which Check takes.
func thrown(throw func(int) int) net.Net {
	count := 1 + throw(6)
	arcs := make([]net.Arc, throw(15))
	for i := range arcs {
		arcs[i] = net.Arc{From: throw(count), To: throw(count), W: int64(throw(50))}
		if throw(6) == 0 {
			arcs[i].W = api.Inf
		}
	}
	n := fitted(count, arcs)
	for v := range n.Types {
		for i := range n.Types[v].Costs {
			if throw(4) == 0 {
				n.Types[v].Costs[i] = api.Inf
			}
		}
	}
	return n
}

// P301, P302: of many nets, what is told is what the chapter's words come to.
func TestThrownNets(t *testing.T) {
	throw := dice(3)
	walks := 0
	for i := range 400 {
		n := thrown(throw)
		taken(t, "thrown", n)
		for a := -1; a <= len(n.Arcs); a++ {
			for b := -1; b <= len(n.Arcs); b++ {
				if got, want := net.Turn(n, a, b), plainTurn(n, a, b); got != want {
					t.Errorf("P302: net %d: Turn(%d, %d): %d; want %d", i, a, b, got, want)
				}
			}
		}
		for range 60 {
			l := thrownRow(n, throw)
			want := plainCost(n, l)
			if got := net.Cost(n, l); got != want || net.Walk(n, l) != (want != api.Inf) {
				t.Errorf("P302: net %d: %v: %d, %v; want %d", i, l, got, net.Walk(n, l), want)
			}
			if len(l) > 2 && want != api.Inf {
				walks++
			}
		}
	}
	if walks < 1000 {
		t.Errorf("just %d walks of three arcs or more were thrown", walks)
	}
}

// thrownRow is a row of arcs, most of them behind the one ahead.
func thrownRow(n net.Net, throw func(int) int) []int {
	l := []int{}
	for range throw(6) {
		next := throw(len(n.Arcs)+2) - 1
		if len(l) > 0 && throw(20) > 0 {
			for b := range n.Arcs {
				if plainTurn(n, l[len(l)-1], b) != api.Inf && n.Arcs[b].W != api.Inf {
					next = b
				}
				if throw(2) == 0 && next == b {
					break
				}
			}
		}
		l = append(l, next)
	}
	return l
}

// P10, P302: alike are two nets just if all their vertices, arcs and Types are.
func TestSame(t *testing.T) {
	for _, n := range []net.Net{{}, made(), full()} {
		if !net.Same(n, n) || !net.Same(n, clone(n)) || !net.Same(clone(n), n) {
			t.Error("P302: Same of one net and its like: false")
		}
	}
	for i, change := range []func(n *net.Net){
		func(n *net.Net) { n.Verts[0].X++ }, func(n *net.Net) { n.Verts[1].Y-- }, func(n *net.Net) { n.Verts[3].Type++ },
		func(n *net.Net) { n.Arcs[0].From++ }, func(n *net.Net) { n.Arcs[6].To++ }, func(n *net.Net) { n.Arcs[3].W++ }, func(n *net.Net) { n.Arcs[5].W++ },
		func(n *net.Net) { n.Types[4].Ins++ }, func(n *net.Net) { n.Types[0].Outs++ }, func(n *net.Net) { n.Types[2].Costs[5] = api.Inf }, func(n *net.Net) { n.Types[0].Costs = []int64{0} },
		func(n *net.Net) { n.Verts = n.Verts[:3] }, func(n *net.Net) { n.Arcs = n.Arcs[:6] }, func(n *net.Net) { n.Types = n.Types[:4] },
		func(n *net.Net) { n.Verts = n.Verts[1:] }, func(n *net.Net) { n.Arcs = n.Arcs[1:] }, func(n *net.Net) { n.Types = n.Types[1:] },
		func(n *net.Net) { n.Verts = nil }, func(n *net.Net) { n.Arcs = nil }, func(n *net.Net) { n.Types = nil },
		func(n *net.Net) { n.Verts[0], n.Verts[1] = n.Verts[1], n.Verts[0] }, func(n *net.Net) { n.Arcs[0], n.Arcs[1] = n.Arcs[1], n.Arcs[0] }, func(n *net.Net) { n.Types[0], n.Types[4] = n.Types[4], n.Types[0] },
	} {
		if net.Same(made(), with(change)) || net.Same(with(change), made()) {
			t.Errorf("P302: Same, though otherwise by %d", i)
		}
	}
	if !net.Same(with(func(n *net.Net) { n.Arcs[0], n.Arcs[4] = n.Arcs[4], n.Arcs[0] }), made()) {
		t.Error("P302: not Same, though just arcs that are alike changed over")
	}
}

// P2, P302: no list and an empty one are the same.
func TestSameOfNone(t *testing.T) {
	lists := net.Net{Verts: []net.Vert{}, Arcs: []net.Arc{}, Types: []turn.Table{}}
	if !net.Same(net.Net{}, lists) || !net.Same(lists, net.Net{}) {
		t.Error("P302: Same of no lists and empty ones: false")
	}
	a, b := net.Net{Types: []turn.Table{{Ins: 2}}}, net.Net{Types: []turn.Table{{Ins: 2, Costs: []int64{}}}}
	if !net.Same(a, b) || !net.Same(b, a) {
		t.Error("P302: Same of no Costs and empty ones: false")
	}
}

// P10, P302: Same is asked of nets that Check does not take, too.
func TestSameOfAny(t *testing.T) {
	l := wrong()
	for i, a := range l {
		if net.Check(a) == nil {
			t.Errorf("P301: Check takes the wrong net %d", i)
		}
		for j, b := range l {
			if net.Same(a, clone(b)) != (i == j) {
				t.Errorf("P10, P302: Same of the wrong nets %d, %d: %v", i, j, i != j)
			}
		}
	}
}

// P1, P8: of a net that Check does not take no call panics; P2: it is left as it was.
func TestWrongNets(t *testing.T) {
	for i, n := range wrong() {
		want := clone(n)
		numbers := append(no(), 0, 1, 2, 3, 4, len(n.Verts)-1, len(n.Arcs)-1, len(n.Arcs))
		for _, a := range numbers {
			net.Ins(n, a)
			net.Outs(n, a)
			net.Walk(n, []int{a})
			for _, b := range numbers {
				net.Turn(n, a, b)
				net.Walk(n, []int{a, b})
				net.Cost(n, []int{0, a, b})
			}
		}
		if !net.Same(n, want) {
			t.Errorf("P2: the wrong net %d is left otherwise", i)
		}
	}
}

// roomy is made, with spare room behind each list that is full of other things.
func roomy() net.Net {
	n := made()
	n.Verts = append(n.Verts, net.Vert{X: 9, Y: 9, Type: 9})[:4]
	n.Arcs = append(n.Arcs, net.Arc{From: 8, To: 8, W: 8})[:7]
	n.Types = append(n.Types, turn.Table{Ins: 5, Outs: 5})[:5]
	for i, t := range n.Types {
		n.Types[i].Costs = append(t.Costs, 77, 78)[:len(t.Costs)]
	}
	return n
}

// whole is n with the spare room of its lists, in memory of its own.
func whole(n net.Net) net.Net {
	n.Verts, n.Arcs, n.Types = n.Verts[:cap(n.Verts)], n.Arcs[:cap(n.Arcs)], slices.Clone(n.Types[:cap(n.Types)])
	for i, t := range n.Types {
		n.Types[i].Costs = t.Costs[:cap(t.Costs)]
	}
	return clone(n)
}

// P2: what is handed in stays as it is, its spare room too; P3: asked again, the same is told.
func TestNetStays(t *testing.T) {
	n := roomy()
	want := whole(n)
	rows := []int{4, 2, 3, 6, 99}
	for range 2 {
		if net.Check(n) != nil || net.Turn(n, 3, 6) != 100 || !net.Same(n, made()) || net.Same(n, want) {
			t.Errorf("P3: of %v another thing is told", n)
		}
		if in, out := net.Ins(n, 2), net.Outs(n, 1); !slices.Equal(in, []int{2, 3, 5}) || !slices.Equal(out, []int{1, 2, 5}) {
			t.Errorf("P3, P302: Ins, Outs: %v, %v", in, out)
		}
		if l := rows[:4]; !net.Walk(n, l) || net.Cost(n, l) != 178 {
			t.Errorf("P3, P302: Walk, Cost: %v, %d", net.Walk(n, l), net.Cost(n, l))
		}
		if !net.Same(whole(n), want) || !slices.Equal(rows, []int{4, 2, 3, 6, 99}) {
			t.Fatalf("P2: %v, %v are left", whole(n), rows)
		}
	}
}

// P2, P7: each answer is new memory, its spare room too, which nobody else has.
func TestAnswersAreNew(t *testing.T) {
	n := made()
	for _, call := range []func(net.Net, int) []int{net.Ins, net.Outs} {
		for v := range n.Verts {
			a := call(n, v)
			want := slices.Clone(a)
			b := call(n, v)
			for i := range b[:cap(b)] {
				b[:cap(b)][i] = -5
			}
			if !slices.Equal(a, want) || !slices.Equal(call(n, v), want) {
				t.Errorf("P2, P302: of %d: %v, then %v; want %v", v, a, call(n, v), want)
			}
		}
	}
	if !net.Same(n, made()) {
		t.Errorf("P2, P302: %v is left", n)
	}
}

// P301, P302: what turn.Check and cost.Weight take of a Type and of an arc, Check takes.
func TestCheckIsOfOthers(t *testing.T) {
	for _, w := range append(noWeights(), 0, 1, 1<<31-1, 1<<31, api.Inf) {
		n := fitted(1, []net.Arc{{W: w}})
		if (net.Check(n) == nil) != cost.Weight(w) {
			t.Errorf("P301: Check of W %d: %v", w, net.Check(n))
		}
		n = fitted(1, []net.Arc{{}})
		n.Types[0].Costs[0] = w
		if (net.Check(n) == nil) != (turn.Check(n.Types[0]) == nil) {
			t.Errorf("P301: Check of a turn %d: %v", w, net.Check(n))
		}
	}
}
