package flow_test

import (
	"errors"
	"math"
	"slices"
	"strconv"
	"sync"
	"testing"

	"roundsman/api"
	"roundsman/flow"
)

// task is what Max is asked.
type task struct {
	n        int
	edges    [][2]int
	src, dst []int
}

func (k task) max() (flow.Result, error) {
	return flow.Max(k.n, k.edges, k.src, k.dst)
}

func (k task) proves(r flow.Result) bool {
	return flow.Proves(k.n, k.edges, k.src, k.dst, r)
}

// told is what Max tells of k, which it has to take.
func (k task) told(t *testing.T) flow.Result {
	t.Helper()
	r, err := k.max()
	if err != nil {
		t.Fatalf("P901: Max of %v: %v", k, err)
	}
	return r
}

// made is a net that is held back at two places, each time by two edges.
//
//	0 = 1 by edges 0 and 1, which are alike, 0 - 2 by 2 and 2 - 1 by 3; 3 - 1 by 4 and 2 - 3 by 5; 3 - 4 by 6, 7, 8;
//	4 - 5 by 9 and 6 - 4 by 10; 5 - 7 by 11 and 12, 7 - 6 by 13 and 14; 3 - 3 by 15; 8 - 9 by 16; nothing ends at 10.
func made() task {
	return task{n: 11, edges: [][2]int{
		{0, 1}, {0, 1}, {0, 2}, {2, 1}, {3, 1}, {2, 3}, {3, 4}, {3, 4}, {4, 3},
		{4, 5}, {6, 4}, {5, 7}, {5, 7}, {7, 6}, {7, 6}, {3, 3}, {8, 9},
	}, src: []int{0}, dst: []int{7}}
}

// madeResult is what Max has to tell of made, but for Flow, which is one of several.
func madeResult() flow.Result {
	return flow.Result{
		Value: 2,
		Near:  []bool{true, true, true, false, false, false, false, false, false, false, false},
		Far:   []bool{true, true, true, true, true, false, false, false, true, true, true},
	}
}

// madeFlow is a flow of made of the greatest value.
func madeFlow() []int {
	return []int{1, 0, 1, 0, -1, 1, 1, 0, -1, 1, -1, 1, 0, 0, -1, 0, 0}
}

// has tells of each vertex whether it is in l.
func has(n int, l []int) []bool {
	in := make([]bool, n)
	for v := range in {
		in[v] = slices.Contains(l, v)
	}
	return in
}

// crossed tells how many edges have one end in the set alone.
func crossed(edges [][2]int, in []bool) int {
	sum := 0
	for _, e := range edges {
		if in[e[0]] != in[e[1]] {
			sum++
		}
	}
	return sum
}

// worth is what the chapter's words come to: the value of what goes along the edges, and whether that is a flow.
func worth(k task, along []int) (int, bool) {
	if len(along) != len(k.edges) {
		return 0, false
	}
	goes, comes := make([]int, k.n), make([]int, k.n)
	for i, e := range k.edges {
		switch {
		case along[i] < -1 || along[i] > 1 || along[i] != 0 && e[0] == e[1]:
			return 0, false
		case along[i] == 1:
			goes[e[0]]++
			comes[e[1]]++
		case along[i] == -1:
			goes[e[1]]++
			comes[e[0]]++
		}
	}
	value := 0
	for v := range k.n {
		if slices.Contains(k.src, v) {
			value += goes[v] - comes[v]
		} else if !slices.Contains(k.dst, v) && goes[v] != comes[v] {
			return 0, false
		}
	}
	return value, true
}

// sides is what the chapter's words come to: of each vertex whether it can be reached from src by edges with room, and whether dst can't be from it; bettered till none can be.
func sides(k task, along []int) ([]bool, []bool) {
	near, ends := has(k.n, k.src), has(k.n, k.dst)
	for again := true; again; {
		again = false
		for i, e := range k.edges {
			for _, way := range [][3]int{{e[0], e[1], 1}, {e[1], e[0], -1}} {
				if along[i] == way[2] {
					continue
				}
				if near[way[0]] && !near[way[1]] {
					near[way[1]], again = true, true
				}
				if ends[way[1]] && !ends[way[0]] {
					ends[way[0]], again = true, true
				}
			}
		}
	}
	far := make([]bool, k.n)
	for v := range far {
		far[v] = !ends[v]
	}
	return near, far
}

// least goes through all sets that have all of src and none of dst: the fewest edges that leave one, and the least and the greatest set that so few leave.
func least(k task) flow.Result {
	r := flow.Result{Value: math.MaxInt}
	src, dst := has(k.n, k.src), has(k.n, k.dst)
	for code := range 1 << k.n {
		in, may := make([]bool, k.n), true
		for v := range in {
			in[v] = code>>v&1 > 0
			may = may && !(src[v] && !in[v]) && !(dst[v] && in[v])
		}
		if !may {
			continue
		}
		if c := crossed(k.edges, in); c < r.Value {
			r = flow.Result{Value: c, Near: slices.Clone(in), Far: in}
		} else if c == r.Value {
			for v := range in {
				r.Near[v] = r.Near[v] && in[v]
				r.Far[v] = r.Far[v] || in[v]
			}
		}
	}
	return r
}

// proved is what the chapter's words of Proves come to, where Max takes k.
func proved(k task, r flow.Result) bool {
	value, ok := worth(k, r.Flow)
	if !ok || value != r.Value {
		return false
	}
	near, far := sides(k, r.Flow)
	return slices.Equal(r.Near, near) && slices.Equal(r.Far, far) && !slices.ContainsFunc(k.dst, func(v int) bool { return near[v] })
}

// tells looks at a whole Result of k against the chapter's words, and what Value, Near and Far have to be.
func tells(t *testing.T, what string, k task, r, want flow.Result) {
	t.Helper()
	if r.Value != want.Value {
		t.Errorf("P901: %s: Value %d; want %d", what, r.Value, want.Value)
	}
	if value, ok := worth(k, r.Flow); !ok || value != r.Value {
		t.Errorf("P901: %s: Flow %v is of %d, %v; want %d", what, r.Flow, value, ok, r.Value)
		return
	}
	if near, far := sides(k, r.Flow); !slices.Equal(r.Near, near) || !slices.Equal(r.Far, far) {
		t.Errorf("P902: %s: Near %v, Far %v aren't by Flow: %v, %v", what, r.Near, r.Far, near, far)
	}
	if !slices.Equal(r.Near, want.Near) || !slices.Equal(r.Far, want.Far) {
		t.Errorf("P902: %s: Near %v, Far %v; want %v, %v", what, r.Near, r.Far, want.Near, want.Far)
		return
	}
	if near, far := crossed(k.edges, r.Near), crossed(k.edges, r.Far); near != r.Value || far != r.Value {
		t.Errorf("P902: %s: %d and %d edges go between; want %d", what, near, far, r.Value)
	}
	if !k.proves(r) {
		t.Errorf("P903: %s: %v isn't proved", what, r)
	}
}

// tellsPlain looks at what Max tells of k, which has few vertices, against all sets of these.
func tellsPlain(t *testing.T, what string, k task) flow.Result {
	t.Helper()
	r := k.told(t)
	tells(t, what, k, r, least(k))
	return r
}

// row is the sets of few vertices as a text: a digit each, 1 if it is in.
func row(in []bool) string {
	s := ""
	for _, is := range in {
		if is {
			s += "1"
		} else {
			s += "0"
		}
	}
	return s
}

// fault is what a refusal has to be.
type fault struct {
	part string
	at   int
	is   api.Errno
}

// refused looks at the whole of a refusal by Max: P12's Fault, the Errno right within, and P4's zero values beside it.
func refused(t *testing.T, what string, k task, want fault) {
	t.Helper()
	r, err := k.max()
	f, ok := err.(*api.Fault)
	if !ok || f == nil || *f != (api.Fault{Part: want.part, At: want.at, Err: want.is}) {
		t.Errorf("P901, P12: %s: %v; want %s %d: %v", what, err, want.part, want.at, want.is)
	}
	if r.Value != 0 || len(r.Flow) != 0 || len(r.Near) != 0 || len(r.Far) != 0 {
		t.Errorf("P4: %s: %v beside an error", what, r)
	}
	if k.proves(flow.Result{}) {
		t.Errorf("P903: %s: what Max refuses is proved", what)
	}
}

// no are numbers of which there is never a vertex.
func no() []int {
	return []int{math.MinInt, math.MinInt + 1, -1 << 60, -1 << 32, -1 << 31, -4096, -2, -1, 4096, 4097, 16384, 1 << 31, 1 << 32, 1 << 60, 1 << 62, math.MaxInt - 1, math.MaxInt}
}

// P901, P902: of made each thing that is told, by hand.
func TestMade(t *testing.T) {
	k := made()
	tells(t, "made", k, k.told(t), madeResult())
	if got := least(k); got.Value != 2 || row(got.Near) != row(madeResult().Near) || row(got.Far) != row(madeResult().Far) {
		t.Errorf("the test's own words: %v", got)
	}
}

// P901, P902: small nets by hand: which edges there are, the greatest value, Near and Far.
func TestSmall(t *testing.T) {
	for _, c := range []struct {
		what      string
		k         task
		value     int
		near, far string
	}{
		{"nothing", task{}, 0, "", ""},
		{"a vertex of neither", task{n: 1}, 0, "0", "1"},
		{"a vertex of src", task{n: 1, src: []int{0}}, 0, "1", "1"},
		{"a vertex of dst", task{n: 1, dst: []int{0}}, 0, "0", "0"},
		{"an edge to itself", task{n: 1, edges: [][2]int{{0, 0}}, src: []int{0}}, 0, "1", "1"},
		{"edges to themselves", task{n: 2, edges: [][2]int{{0, 0}, {1, 1}, {0, 1}, {0, 0}}, src: []int{0}, dst: []int{1}}, 1, "10", "10"},
		{"one edge", task{n: 2, edges: [][2]int{{0, 1}}, src: []int{0}, dst: []int{1}}, 1, "10", "10"},
		{"one edge, told the other way", task{n: 2, edges: [][2]int{{0, 1}}, src: []int{1}, dst: []int{0}}, 1, "01", "01"},
		{"edges either way", task{n: 2, edges: [][2]int{{0, 1}, {1, 0}, {0, 1}, {1, 0}, {1, 0}}, src: []int{0}, dst: []int{1}}, 5, "10", "10"},
		{"no edge", task{n: 3, src: []int{0}, dst: []int{2}}, 0, "100", "110"},
		{"no src", task{n: 4, edges: [][2]int{{0, 1}, {1, 2}}, dst: []int{1}}, 0, "0000", "0001"},
		{"no dst", task{n: 4, edges: [][2]int{{0, 1}, {1, 2}}, src: []int{1}}, 0, "1110", "1111"},
		{"neither src nor dst", task{n: 3, edges: [][2]int{{0, 1}, {1, 2}}}, 0, "000", "111"},
		{"no way", task{n: 5, edges: [][2]int{{0, 1}, {2, 3}}, src: []int{0}, dst: []int{3}}, 0, "11000", "11001"},
		{"a row", task{n: 4, edges: [][2]int{{0, 1}, {2, 1}, {2, 3}}, src: []int{0}, dst: []int{3}}, 1, "1000", "1110"},
		{"held back between", task{n: 4, edges: [][2]int{{0, 1}, {0, 1}, {1, 2}, {2, 3}, {3, 2}}, src: []int{0}, dst: []int{3}}, 1, "1100", "1100"},
		{"a ring", task{n: 4, edges: [][2]int{{0, 1}, {1, 2}, {2, 3}, {3, 0}}, src: []int{0}, dst: []int{2}}, 2, "1000", "1101"},
		{"two of src", task{n: 3, edges: [][2]int{{0, 1}, {2, 1}, {0, 2}}, src: []int{0, 2}, dst: []int{1}}, 2, "101", "101"},
		{"two of dst", task{n: 3, edges: [][2]int{{0, 1}, {2, 1}, {0, 2}}, src: []int{1}, dst: []int{0, 2}}, 2, "010", "010"},
		{"all of src", task{n: 3, edges: [][2]int{{0, 1}, {2, 1}, {0, 2}}, src: []int{2, 1, 0}}, 0, "111", "111"},
		{"all of dst", task{n: 3, edges: [][2]int{{0, 1}, {2, 1}, {0, 2}}, dst: []int{2, 1, 0}}, 0, "000", "000"},
		{"src told twice", task{n: 3, edges: [][2]int{{0, 1}, {1, 2}}, src: []int{0, 0, 0}, dst: []int{2}}, 1, "100", "110"},
		{"dst told twice", task{n: 3, edges: [][2]int{{0, 1}, {1, 2}}, src: []int{0}, dst: []int{2, 2, 2}}, 1, "100", "110"},
		{"both told twice, in no order", task{n: 4, edges: [][2]int{{0, 1}, {1, 2}, {2, 3}}, src: []int{3, 0, 3, 0}, dst: []int{2, 1, 2}}, 2, "1001", "1001"},
		{"a way that has to be taken back", task{n: 6, edges: [][2]int{{0, 1}, {0, 2}, {1, 3}, {1, 4}, {2, 3}, {3, 5}, {4, 5}}, src: []int{0}, dst: []int{5}}, 2, "100000", "111110"},
		{"through dst nothing is sent on", task{n: 4, edges: [][2]int{{0, 1}, {1, 2}, {2, 3}, {2, 3}}, src: []int{0}, dst: []int{1, 3}}, 1, "1000", "1000"},
	} {
		r := tellsPlain(t, c.what, c.k)
		if r.Value != c.value || row(r.Near) != c.near || row(r.Far) != c.far {
			t.Errorf("P901, P902: %s: %d, %s, %s; want %d, %s, %s", c.what, r.Value, row(r.Near), row(r.Far), c.value, c.near, c.far)
		}
	}
}

// P901: of an edge 1 is told where one goes from its first to its second vertex, -1 where one goes back, of one to itself 0.
func TestWays(t *testing.T) {
	k := task{n: 4, edges: [][2]int{{0, 1}, {2, 1}, {2, 2}, {2, 3}, {3, 3}}, src: []int{0}, dst: []int{3}}
	if r := k.told(t); !slices.Equal(r.Flow, []int{1, -1, 0, 1, 0}) {
		t.Errorf("P901: Flow of a row: %v", r.Flow)
	}
	k.src, k.dst = k.dst, k.src
	if r := k.told(t); !slices.Equal(r.Flow, []int{-1, 1, 0, -1, 0}) {
		t.Errorf("P901: Flow of a row, the other way: %v", r.Flow)
	}
}

// P901: each refusal, by its Part, its At and its Errno.
func TestRefused(t *testing.T) {
	good := func() task {
		return task{n: 5, edges: [][2]int{{0, 1}, {1, 2}, {2, 3}}, src: []int{0, 1}, dst: []int{3, 2}}
	}
	if _, err := good().max(); err != nil {
		t.Fatalf("P901: %v", err)
	}
	for _, n := range []int{-1, -2, -5, -4096, -1 << 31, -1 << 32, math.MinInt} {
		refused(t, "n "+strconv.Itoa(n), task{n: n}, fault{"flow", 0, api.ErrArg})
	}
	for _, n := range []int{4097, 4098, 16384, 1 << 31, 1 << 32, math.MaxInt} {
		refused(t, "n "+strconv.Itoa(n), task{n: n}, fault{"flow", 0, api.ErrLong})
	}
	for _, m := range []int{16385, 16386, 1 << 20} {
		refused(t, strconv.Itoa(m)+" edges", task{n: 1, edges: make([][2]int, m)}, fault{"flow", 1, api.ErrLong})
	}
	for _, v := range append(no(), 5, 6) {
		for i := range 3 {
			for end := range 2 {
				k := good()
				k.edges[i][end] = v
				refused(t, "an edge", k, fault{"edge", i, api.ErrName})
			}
			k := good()
			k.edges[i] = [2]int{v, v}
			refused(t, "an edge", k, fault{"edge", i, api.ErrName})
		}
		for i := range 2 {
			k := good()
			k.src[i] = v
			refused(t, "src", k, fault{"src", i, api.ErrName})
			k = good()
			k.dst[i] = v
			refused(t, "dst", k, fault{"dst", i, api.ErrName})
		}
		refused(t, "src of nothing", task{src: []int{v}}, fault{"src", 0, api.ErrName})
		refused(t, "dst of nothing", task{dst: []int{v}}, fault{"dst", 0, api.ErrName})
	}
	refused(t, "an edge of nothing", task{edges: [][2]int{{0, 0}}}, fault{"edge", 0, api.ErrName})
	for _, v := range []int{0, 1} {
		for i := range 2 {
			k := good()
			k.dst[i] = v
			refused(t, "a vertex in both", k, fault{"flow", 2, api.ErrTwice})
		}
	}
	refused(t, "the last vertex in both", task{n: 5, src: []int{0, 1, 4}, dst: []int{3, 2, 4}}, fault{"flow", 2, api.ErrTwice})
	refused(t, "the only vertex in both", task{n: 1, src: []int{0}, dst: []int{0}}, fault{"flow", 2, api.ErrTwice})
	refused(t, "told twice, and in both", task{n: 2, src: []int{1, 1}, dst: []int{0, 1, 1}}, fault{"flow", 2, api.ErrTwice})
}

// P6, P901: of several errors the first is told, in the order of the chapter.
func TestOrder(t *testing.T) {
	edges := make([][2]int, 16385)
	edges[7], edges[9] = [2]int{0, 99}, [2]int{-1, 0}
	bad := task{n: 3, edges: edges, src: []int{2, 3, -1}, dst: []int{2, 2, 4, -3}}
	for _, n := range []int{-1, 4097} {
		k, is := bad, api.ErrLong
		if n < 0 {
			is = api.ErrArg
		}
		k.n = n
		refused(t, "all that can be", k, fault{"flow", 0, is})
	}
	refused(t, "edges and all behind", bad, fault{"flow", 1, api.ErrLong})
	bad.edges = edges[:16384]
	refused(t, "an edge and all behind", bad, fault{"edge", 7, api.ErrName})
	edges[7] = [2]int{}
	refused(t, "a later edge and all behind", bad, fault{"edge", 9, api.ErrName})
	edges[9] = [2]int{}
	refused(t, "src and all behind", bad, fault{"src", 1, api.ErrName})
	bad.src = []int{2, 2, -1}
	refused(t, "later in src and all behind", bad, fault{"src", 2, api.ErrName})
	bad.src = []int{2, 2, 1}
	refused(t, "dst, and a vertex in both ahead of it", bad, fault{"dst", 2, api.ErrName})
	bad.dst = []int{2, 2, 0, -3}
	refused(t, "later in dst", bad, fault{"dst", 3, api.ErrName})
	bad.dst = []int{0, 0, 0, 1}
	refused(t, "a vertex in both", bad, fault{"flow", 2, api.ErrTwice})
	bad.dst = []int{0, 0, 0, 0}
	if _, err := bad.max(); err != nil {
		t.Errorf("P901: nothing is wrong any more: %v", err)
	}
}

// P12: the errors are asked by errors.Is and errors.As; P7: each one is new.
func TestFaults(t *testing.T) {
	for _, c := range []struct {
		k    task
		part string
		at   int
		want api.Errno
		text string
	}{
		{task{n: -1}, "flow", 0, api.ErrArg, "flow 0: arg"},
		{task{n: 4097}, "flow", 0, api.ErrLong, "flow 0: long"},
		{task{n: 1, edges: make([][2]int, 16385)}, "flow", 1, api.ErrLong, "flow 1: long"},
		{task{n: 2, edges: [][2]int{{0, 1}, {0, 2}}}, "edge", 1, api.ErrName, "edge 1: name"},
		{task{n: 2, src: []int{0, 2}}, "src", 1, api.ErrName, "src 1: name"},
		{task{n: 2, dst: []int{0, 1, -1}}, "dst", 2, api.ErrName, "dst 2: name"},
		{task{n: 2, src: []int{0}, dst: []int{0}}, "flow", 2, api.ErrTwice, "flow 2: twice"},
	} {
		for range 2 {
			_, err := c.k.max()
			for e := api.ErrArg; e <= api.ErrFar; e++ {
				if errors.Is(err, e) != (e == c.want) {
					t.Errorf("P12, P901: %s: %v is %v: %v", c.text, err, e, errors.Is(err, e))
				}
			}
			var f *api.Fault
			if !errors.As(err, &f) || f.Part != c.part || f.At != c.at || err.Error() != c.text {
				t.Fatalf("P12, P901: %v; want %s", err, c.text)
			}
			// A Fault that is written over changes none that is told then.
			*f = api.Fault{Part: "spoilt", At: -9, Err: api.OK}
		}
	}
}

// P901: the greatest that may be is taken.
func TestBounds(t *testing.T) {
	if r := (task{n: 4096, src: []int{4095}, dst: []int{0}}).told(t); r.Value != 0 || len(r.Flow) != 0 || len(r.Near) != 4096 || len(r.Far) != 4096 || !r.Near[4095] || r.Far[0] {
		t.Errorf("P901: 4096 vertices without an edge: %v", r)
	}
	many := task{n: 2, src: []int{0}, dst: []int{1}}
	for i := range 16384 {
		many.edges = append(many.edges, [2]int{i % 2, 1 - i%2})
	}
	r := many.told(t)
	tells(t, "16384 edges between two", many, r, flow.Result{Value: 16384, Near: []bool{true, false}, Far: []bool{true, false}})
	long := slices.Repeat([]int{0}, 1<<20)
	many.src, many.dst = long, slices.Repeat([]int{1}, 1<<20)
	if again := many.told(t); again.Value != 16384 || !slices.Equal(again.Flow, r.Flow) || !many.proves(r) {
		t.Errorf("P901: a vertex told often: %d", again.Value)
	}
}

// P901, P902: a row of all vertices, four edges between each two: the longest way, and all of it held back.
func TestLongRow(t *testing.T) {
	k := task{n: 4096, src: []int{0}, dst: []int{4095}}
	for v := range 4095 {
		k.edges = append(k.edges, [2]int{v, v + 1}, [2]int{v + 1, v}, [2]int{v, v + 1}, [2]int{v + 1, v})
	}
	want := flow.Result{Value: 4, Near: has(4096, []int{0}), Far: slices.Repeat([]bool{true}, 4096)}
	want.Far[4095] = false
	tells(t, "a long row", k, k.told(t), want)
	// Where one of the four is missing, all is held back there alone.
	k.edges[4*2000+1] = [2]int{7, 7}
	want.Value = 3
	for v := range 4096 {
		want.Near[v], want.Far[v] = v <= 2000, v <= 2000
	}
	tells(t, "a long row, held back once", k, k.told(t), want)
}

// P901, P902: from one side of a board to the other, as many go as there are rows; they are held back nowhere but at the sides, or at a gap.
func TestBoard(t *testing.T) {
	const side = 64
	k := task{n: side * side}
	for v := range k.n {
		if v%side < side-1 {
			k.edges = append(k.edges, [2]int{v, v + 1})
		}
		if v/side < side-1 {
			k.edges = append(k.edges, [2]int{v + side, v})
		}
	}
	for y := range side {
		k.src, k.dst = append(k.src, y*side), append(k.dst, y*side+side-1)
	}
	want := flow.Result{Value: side, Near: has(k.n, k.src), Far: make([]bool, k.n)}
	for v := range k.n {
		want.Far[v] = v%side < side-1
	}
	tells(t, "a board", k, k.told(t), want)
	// Of the edges from column 20 on to the next one but ten are left.
	for i, e := range k.edges {
		if e[0]%side == 20 && e[1] == e[0]+1 && e[0]/side >= 10 {
			k.edges[i] = [2]int{e[0], e[0]}
		}
	}
	want.Value = 10
	for v := range k.n {
		want.Near[v], want.Far[v] = v%side <= 20, v%side <= 20
	}
	tells(t, "a board with a gap", k, k.told(t), want)
	// A corner has but two edges.
	k.src, k.dst = []int{0}, []int{side*side - 1}
	want = flow.Result{Value: 2, Near: has(k.n, []int{0}), Far: slices.Repeat([]bool{true}, k.n)}
	want.Far[k.n-1] = false
	tells(t, "a board from corner to corner", k, k.told(t), want)
}

// digits tells the digits of code below base, the last one first, one with each call.
func digits(code, base int) func() int {
	return func() int {
		d := code % base
		code /= base
		return d
	}
}

// shared is which of n vertices are in src, in dst, in neither, by digits below 3.
func shared(n int, digit func() int) (src, dst []int) {
	for v := range n {
		switch digit() {
		case 1:
			src = append(src, v)
		case 2:
			dst = append(dst, v)
		}
	}
	return src, dst
}

// P901, P902: all nets of three vertices and three edges, and of four vertices and some edges between them, with all src and dst.
func TestAllSmall(t *testing.T) {
	for code := range 729 {
		digit := digits(code, 3)
		k := task{n: 3, edges: [][2]int{{digit(), digit()}, {digit(), digit()}, {digit(), digit()}}}
		for ends := range 27 {
			k.src, k.dst = shared(3, digits(ends, 3))
			tellsPlain(t, "three "+strconv.Itoa(code)+" "+strconv.Itoa(ends), k)
		}
	}
	pairs := [][2]int{{0, 1}, {2, 0}, {0, 3}, {1, 2}, {3, 1}, {2, 3}}
	for code := range 729 {
		digit := digits(code, 3)
		k := task{n: 4}
		for _, e := range pairs {
			k.edges = append(k.edges, slices.Repeat([][2]int{e}, digit())...)
		}
		for _, ends := range []int{1*1 + 2*27, 1*27 + 2*1, 1*1 + 1*3 + 2*27, 1*1 + 2*9 + 2*27, 1*9 + 2*3} {
			k.src, k.dst = shared(4, digits(ends, 3))
			tellsPlain(t, "four "+strconv.Itoa(code)+" "+strconv.Itoa(ends), k)
		}
		if t.Failed() {
			return
		}
	}
}

// dice tell numbers below what they are asked for, the same ones each time.
func dice(seed uint64) func(int) int {
	return func(n int) int {
		seed = seed*6364136223846793005 + 1442695040888963407
		return int(seed >> 33 % uint64(n))
	}
}

// thrown is a net of some vertices and edges; its src and dst are some of them, in no order, some told twice.
func thrown(throw func(int) int, n, edges int) task {
	k := task{n: n}
	for range edges {
		k.edges = append(k.edges, [2]int{throw(n), throw(n)})
	}
	k.src, k.dst = shared(n, func() int { return max(0, throw(8)-5) })
	for range throw(3) {
		if len(k.src) > 0 {
			k.src = append(k.src, k.src[throw(len(k.src))])
		}
		if len(k.dst) > 0 {
			k.dst = append([]int{k.dst[throw(len(k.dst))]}, k.dst...)
		}
	}
	return k
}

// P901, P902: many thrown nets, held against all sets of their vertices.
func TestThrown(t *testing.T) {
	throw := dice(1)
	great, apart := 0, 0
	for i := range 1500 {
		k := thrown(throw, 1+throw(8), throw(32))
		r := tellsPlain(t, "thrown net "+strconv.Itoa(i), k)
		if r.Value > 3 {
			great++
		}
		if !slices.Equal(r.Near, r.Far) {
			apart++
		}
		if t.Failed() {
			return
		}
	}
	if great < 100 || apart < 100 {
		t.Errorf("just %d great ones, %d whose Near isn't Far", great, apart)
	}
}

// P901, P902: greater thrown nets than all sets can be gone through of: a flow that so few edges hold back is the greatest.
func TestThrownGreat(t *testing.T) {
	throw := dice(2)
	for i := range 40 {
		n := 2 + throw(400)
		k := thrown(throw, n, n*(1+throw(6)))
		if i%4 == 0 {
			k.src, k.dst = []int{0}, []int{n - 1}
		}
		r := k.told(t)
		near, far := sides(k, r.Flow)
		tells(t, "great "+strconv.Itoa(i), k, r, flow.Result{Value: crossed(k.edges, near), Near: near, Far: far})
		for _, v := range k.src {
			if !r.Near[v] || !r.Far[v] {
				t.Errorf("P902: great %d: %d of src isn't on its side", i, v)
			}
		}
		for _, v := range k.dst {
			if r.Near[v] || r.Far[v] {
				t.Errorf("P902: great %d: %d of dst is on the side of src", i, v)
			}
		}
	}
}

// P901: the greatest net of all that is thrown is done, in time.
func TestGreatest(t *testing.T) {
	throw := dice(3)
	k := thrown(throw, 4096, 16384)
	r := k.told(t)
	if value, ok := worth(k, r.Flow); !ok || value != r.Value || value == 0 || crossed(k.edges, r.Near) != value || crossed(k.edges, r.Far) != value || !k.proves(r) {
		t.Errorf("P901: %d, %d, %v", r.Value, value, ok)
	}
}

// P902: Near and Far hang on no Flow: whichever way edges and vertices are told, they are the same ones.
func TestOtherOrder(t *testing.T) {
	throw := dice(4)
	for i := range 100 {
		k := thrown(throw, 2+throw(40), throw(120))
		r := k.told(t)
		o := task{n: k.n, edges: slices.Clone(k.edges), src: slices.Clone(k.src), dst: slices.Clone(k.dst)}
		slices.Reverse(o.edges)
		slices.Reverse(o.src)
		slices.Reverse(o.dst)
		for j := range o.edges {
			if throw(2) == 0 {
				o.edges[j][0], o.edges[j][1] = o.edges[j][1], o.edges[j][0]
			}
		}
		tells(t, "told otherwise "+strconv.Itoa(i), o, o.told(t), r)
		// What can't be reached from dst is Near of the other way round, turned over.
		o.src, o.dst = o.dst, o.src
		turned := flow.Result{Value: r.Value}
		for v := range k.n {
			turned.Near, turned.Far = append(turned.Near, !r.Far[v]), append(turned.Far, !r.Near[v])
		}
		tells(t, "the other way round "+strconv.Itoa(i), o, o.told(t), turned)
	}
}

// P903: of made what is proved, and what isn't.
func TestProves(t *testing.T) {
	k := made()
	good := func() flow.Result {
		r := madeResult()
		r.Flow = madeFlow()
		return r
	}
	with := func(do func(r *flow.Result)) flow.Result {
		r := good()
		do(&r)
		return r
	}
	for _, c := range []struct {
		what string
		r    flow.Result
		want bool
	}{
		{"made", good(), true},
		{"another edge of two that are alike", with(func(r *flow.Result) { r.Flow[0], r.Flow[1] = 0, 1 }), true},
		{"another edge, told the other way", with(func(r *flow.Result) { r.Flow[8], r.Flow[7] = 0, 1 }), true},
		{"to 2 by way of 1", with(func(r *flow.Result) { r.Flow[1], r.Flow[3], r.Flow[2] = 1, -1, 0 }), true},
		{"to 2 by way of 1 as well", with(func(r *flow.Result) { r.Flow[1], r.Flow[3] = 1, -1 }), false},
		{"nothing", flow.Result{}, false},
		{"a greater Value", with(func(r *flow.Result) { r.Value = 3 }), false},
		{"a lesser Value", with(func(r *flow.Result) { r.Value = 1 }), false},
		{"a Value below 0", with(func(r *flow.Result) { r.Value = -2 }), false},
		{"any Value", with(func(r *flow.Result) { r.Value = math.MinInt }), false},
		{"no Flow", with(func(r *flow.Result) { r.Flow = nil }), false},
		{"a Flow of too few edges", with(func(r *flow.Result) { r.Flow = r.Flow[:16] }), false},
		{"a Flow of too many edges", with(func(r *flow.Result) { r.Flow = append(r.Flow, 0) }), false},
		{"what comes doesn't go", with(func(r *flow.Result) { r.Flow[9] = 0 }), false},
		{"what goes doesn't come", with(func(r *flow.Result) { r.Flow[7] = 1 }), false},
		{"the wrong way", with(func(r *flow.Result) { r.Flow[10] = 1 }), false},
		{"two along an edge", with(func(r *flow.Result) { r.Flow[6], r.Flow[8] = 2, 0 }), false},
		{"one along an edge to itself", with(func(r *flow.Result) { r.Flow[15] = 1 }), false},
		{"one back along an edge to itself", with(func(r *flow.Result) { r.Flow[15] = -1 }), false},
		{"one where nothing comes", with(func(r *flow.Result) { r.Flow[16] = 1 }), false},
		{"no Near", with(func(r *flow.Result) { r.Near = nil }), false},
		{"no Far", with(func(r *flow.Result) { r.Far = nil }), false},
		{"Near is Far", with(func(r *flow.Result) { r.Near = r.Far }), false},
		{"Far is Near", with(func(r *flow.Result) { r.Far = r.Near }), false},
		{"Near and Far are one another", with(func(r *flow.Result) { r.Near, r.Far = r.Far, r.Near }), false},
		{"a Near of too few vertices", with(func(r *flow.Result) { r.Near = r.Near[:10] }), false},
		{"a Near of too many vertices", with(func(r *flow.Result) { r.Near = append(r.Near, false) }), false},
		{"a Far of too few vertices", with(func(r *flow.Result) { r.Far = r.Far[:10] }), false},
		{"a Far of too many vertices", with(func(r *flow.Result) { r.Far = append(r.Far, false) }), false},
	} {
		if got := k.proves(c.r); got != c.want || got != proved(k, c.r) {
			t.Errorf("P903: %s: %v; want %v", c.what, got, c.want)
		}
	}
	for v := range k.n {
		near, far := good(), good()
		near.Near[v] = !near.Near[v]
		far.Far[v] = !far.Far[v]
		if k.proves(near) || k.proves(far) {
			t.Errorf("P903: vertex %d is on the other side: %v, %v", v, k.proves(near), k.proves(far))
		}
	}
	for i := range k.edges {
		for _, along := range []int{math.MinInt, -3, -2, -1, 0, 1, 2, 3, math.MaxInt} {
			r := good()
			if r.Flow[i] == along {
				continue
			}
			r.Flow[i] = along
			if k.proves(r) {
				t.Errorf("P903: Flow of edge %d is %d", i, along)
			}
		}
	}
}

// P903: what is a flow, but none of the greatest value, isn't proved, whatever is told beside it.
func TestProvesNoLess(t *testing.T) {
	k := made()
	for _, l := range [][]int{make([]int, 17), {1, 0, 0, 0, -1, 0, 1, 0, 0, 1, 0, 1, 0, 0, 0, 0, 0}} {
		value, ok := worth(k, l)
		near, far := sides(k, l)
		if !ok || value >= 2 || !near[7] || far[0] {
			t.Fatalf("the test's own words: %d, %v, %v, %v", value, ok, near, far)
		}
		for _, r := range []flow.Result{{Value: value, Flow: l, Near: near, Far: far}, {Value: value, Flow: l, Near: madeResult().Near, Far: madeResult().Far}, {Value: 2, Flow: l, Near: near, Far: far}} {
			if k.proves(r) {
				t.Errorf("P903: %v is proved", r)
			}
		}
	}
	// One may go within src, within dst, or round, and come back to src or from dst, if just as many go on.
	k = task{n: 6, edges: [][2]int{{0, 1}, {1, 2}, {2, 3}, {3, 2}, {3, 4}, {5, 5}, {4, 5}, {2, 0}, {5, 3}}, src: []int{0, 1}, dst: []int{4, 5}}
	for _, c := range []struct {
		l     []int
		value int
		want  bool
	}{
		{[]int{0, 1, 1, -1, 1, 0, 0, -1, -1}, 2, true},
		{[]int{1, 1, 1, -1, 1, 0, 1, -1, -1}, 2, true},
		{[]int{-1, 1, 1, -1, 1, 0, -1, -1, -1}, 2, true},
		{[]int{0, 1, 1, 1, 0, 0, 0, 1, 0}, 0, false},     // from 1 to 2 and back to 0; round between 2 and 3
		{[]int{0, 0, 1, 1, 1, 0, 0, 0, 1}, 0, false},     // from 5 to 3 and back to 4
		{[]int{0, -1, -1, 1, -1, 0, 0, 1, 1}, -2, false}, // all of it back
		{[]int{0, 1, 1, -1, 1, 0, 0, 1, -1}, 2, false},
	} {
		near, far := sides(k, c.l)
		r := flow.Result{Value: c.value, Flow: c.l, Near: near, Far: far}
		if got := k.proves(r); got != c.want || got != proved(k, r) {
			t.Errorf("P903: %v: %v; want %v", r, got, c.want)
		}
	}
}

// P903: Proves is asked of anything: what Max refuses is never proved, whatever is told of it.
func TestProvesRefused(t *testing.T) {
	r := flow.Result{Value: 1, Flow: []int{1}, Near: []bool{true, false}, Far: []bool{true, false}}
	k := task{n: 2, edges: [][2]int{{0, 1}}, src: []int{0}, dst: []int{1}}
	if !k.proves(r) {
		t.Error("P903: one edge isn't proved")
	}
	for _, c := range []struct {
		what string
		k    task
		r    flow.Result
	}{
		{"n below 0", task{n: -1}, flow.Result{}},
		{"n above the most", task{n: 4097}, flow.Result{Near: make([]bool, 4097), Far: slices.Repeat([]bool{true}, 4097)}},
		{"too many edges", task{n: 1, edges: make([][2]int, 16385)}, flow.Result{Flow: make([]int, 16385), Near: []bool{false}, Far: []bool{true}}},
		{"an edge that leads nowhere", task{n: 2, edges: [][2]int{{0, 2}}, src: k.src, dst: k.dst}, r},
		{"src that is none", task{n: 2, edges: k.edges, src: []int{0, 2}, dst: k.dst}, r},
		{"dst that is none", task{n: 2, edges: k.edges, src: k.src, dst: []int{1, -1}}, r},
		{"dst of nothing", task{dst: []int{0}}, flow.Result{}},
		{"a vertex in both", task{n: 2, edges: k.edges, src: []int{0}, dst: []int{1, 0}}, r},
		{"a vertex in both, alone", task{n: 1, src: []int{0}, dst: []int{0}}, flow.Result{Near: []bool{true}, Far: []bool{false}}},
	} {
		if c.k.proves(c.r) {
			t.Errorf("P903: %s: it is proved", c.what)
		}
	}
	for _, v := range no() {
		for _, bad := range []task{
			{n: v}, {n: v, edges: k.edges, src: k.src, dst: k.dst}, {n: 2, edges: [][2]int{{v, 1}}, src: k.src, dst: k.dst},
			{n: 2, edges: k.edges, src: []int{v}, dst: k.dst}, {n: 2, edges: k.edges, src: k.src, dst: []int{v}},
		} {
			for _, told := range []flow.Result{r, {}, {Value: v, Flow: []int{v}, Near: r.Near, Far: r.Far}} {
				if got := bad.proves(told); got && v != 4096 {
					t.Errorf("P903: %v of %v is proved", told, bad)
				}
			}
		}
	}
}

// around is what might be told with a Flow of three vertices: any Near and Far with its value, and any value with its Near and Far.
func around(k task, l []int) []flow.Result {
	value, _ := worth(k, l)
	near, far := sides(k, l)
	var all []flow.Result
	for marks := range 64 {
		digit := digits(marks, 2)
		r := flow.Result{Value: value, Flow: l}
		for v := range 3 {
			r.Near = append(r.Near, near[v] != (digit() > 0))
			r.Far = append(r.Far, far[v] != (digit() > 0))
		}
		all = append(all, r)
	}
	for v := -3; v <= 3; v++ {
		all = append(all, flow.Result{Value: v, Flow: l, Near: near, Far: far})
	}
	return all
}

// P903: all Flows, and what might be told with them, of all small nets of a kind, held against the chapter's words.
func TestProvesAll(t *testing.T) {
	yes := 0
	for code := range 81 * 9 {
		digit := digits(code/9, 3)
		k := task{n: 3, edges: [][2]int{{digit(), digit()}, {digit(), digit()}, {0, 1}}}
		k.src, k.dst = [][]int{{0}, {2}, {0, 1}}[code%3], [][]int{{}, {2}, {1}}[code/3%3]
		if _, err := k.max(); err != nil {
			continue
		}
		for flows := range 64 {
			digit := digits(flows, 4)
			l := []int{digit() - 1, digit() - 1, digit() - 1}
			for _, r := range around(k, l) {
				got := k.proves(r)
				if got != proved(k, r) {
					t.Fatalf("P903: %v of %v: %v", r, k, got)
				}
				if got {
					yes++
				}
			}
		}
	}
	if yes < 500 {
		t.Errorf("just %d are proved", yes)
	}
}

// P903: thrown Flows of thrown nets, mended till they are flows or nearly so, held against the chapter's words.
func TestProvesThrown(t *testing.T) {
	throw := dice(5)
	yes, not := 0, 0
	for range 3000 {
		k := thrown(throw, 2+throw(5), throw(8))
		r := k.told(t)
		for range throw(3) {
			if len(r.Flow) > 0 {
				r.Flow[throw(len(r.Flow))] = throw(3) - 1
			}
		}
		r.Near, r.Far = sides(k, r.Flow)
		if value, ok := worth(k, r.Flow); ok {
			r.Value = value
		}
		got := k.proves(r)
		if got != proved(k, r) {
			t.Fatalf("P903: %v of %v: %v", r, k, got)
		}
		if got {
			yes++
		} else {
			not++
		}
	}
	if yes < 500 || not < 500 {
		t.Errorf("%d are proved, %d not", yes, not)
	}
}

// spare is l with some spare room that has something in it.
func spare[T any](l []T, with ...T) []T {
	return append(slices.Clone(l), with...)[:len(l)]
}

// spoil writes over a list, its spare room too.
func spoil[T any](l []T, with T) {
	l = l[:cap(l)]
	for i := range l {
		l[i] = with
	}
}

// P2: what is handed in, its spare room too, is not changed.
func TestHandedIn(t *testing.T) {
	k := made()
	k.edges, k.src, k.dst = spare(k.edges, [2]int{77, -1}, [2]int{0, 7}), spare(k.src, 7, 7), spare(k.dst, 0, -5)
	r := madeResult()
	r.Flow, r.Near, r.Far = spare(madeFlow(), 9, 8), spare(r.Near, true, true), spare(r.Far, true, true)
	tells(t, "with spare room", k, k.told(t), r)
	if !k.proves(r) {
		t.Error("P903: with spare room made isn't proved")
	}
	bad := task{n: 3, edges: k.edges, src: k.src, dst: k.dst}
	refused(t, "with spare room", bad, fault{"edge", 4, api.ErrName})
	if !slices.Equal(k.edges[:19], append(made().edges, [2]int{77, -1}, [2]int{0, 7})) || !slices.Equal(k.src[:3], []int{0, 7, 7}) || !slices.Equal(k.dst[:3], []int{7, 0, -5}) {
		t.Errorf("P2: what was handed in is %v", k)
	}
	want := madeResult()
	if r.Value != 2 || !slices.Equal(r.Flow[:19], append(madeFlow(), 9, 8)) || !slices.Equal(r.Near[:13], append(want.Near, true, true)) || !slices.Equal(r.Far[:13], append(want.Far, true, true)) {
		t.Errorf("P2: what was handed in is %v", r)
	}
}

// P2, P3: what is told is new memory each time, shared by no two lists; and the same calls tell the same.
func TestMemory(t *testing.T) {
	k := made()
	first := k.told(t)
	flows, near, far := slices.Clone(first.Flow), slices.Clone(first.Near), slices.Clone(first.Far)
	for range 3 {
		r := k.told(t)
		if !slices.Equal(r.Flow, flows) || !slices.Equal(r.Near, near) || !slices.Equal(r.Far, far) {
			t.Errorf("P3: %v; it was %v, %v, %v", r, flows, near, far)
		}
		spoil(r.Near, true)
		if !slices.Equal(r.Far, far) || !slices.Equal(r.Flow, flows) {
			t.Error("P2: two lists of one answer share memory")
		}
		spoil(r.Far, false)
		if slices.Contains(r.Near, false) {
			t.Error("P2: two lists of one answer share memory")
		}
		spoil(r.Flow, 5)
		spoil(r.Near, false)
	}
	if !slices.Equal(first.Flow, flows) || !slices.Equal(first.Near, near) || !slices.Equal(first.Far, far) {
		t.Error("P2: two answers share memory")
	}
	if got := made(); !slices.Equal(k.edges, got.edges) || !slices.Equal(k.src, got.src) || !slices.Equal(k.dst, got.dst) {
		t.Error("P2: an answer shares memory with what was handed in")
	}
}

// P2: no list and an empty one are the same.
func TestEmpty(t *testing.T) {
	for n := range 3 {
		a := (task{n: n}).told(t)
		b := (task{n: n, edges: [][2]int{}, src: []int{}, dst: []int{}}).told(t)
		if a.Value != b.Value || !slices.Equal(a.Flow, b.Flow) || !slices.Equal(a.Near, b.Near) || !slices.Equal(a.Far, b.Far) {
			t.Errorf("P2: of %d vertices %v, %v", n, a, b)
		}
	}
	for _, r := range []flow.Result{{}, {Flow: []int{}, Near: []bool{}, Far: []bool{}}} {
		if !(task{}).proves(r) || !(task{edges: [][2]int{}, src: []int{}, dst: []int{}}).proves(r) {
			t.Errorf("P903: of nothing %v isn't proved", r)
		}
	}
}

// P3: the same is told of a net whichever calls were ahead, also of several at once.
func TestAtOnce(t *testing.T) {
	throw := dice(6)
	k := thrown(throw, 300, 1500)
	first := k.told(t)
	var all sync.WaitGroup
	for range 4 {
		all.Go(func() {
			for range 5 {
				r, err := k.max()
				if err != nil || r.Value != first.Value || !slices.Equal(r.Flow, first.Flow) || !slices.Equal(r.Near, first.Near) || !slices.Equal(r.Far, first.Far) || !k.proves(r) {
					t.Errorf("P3: %v, %v; it was %v", r, err, first)
				}
			}
		})
	}
	all.Wait()
}
