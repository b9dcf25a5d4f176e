package cut_test

import (
	"errors"
	"math"
	"slices"
	"strconv"
	"sync"
	"testing"

	"roundsman/api"
	"roundsman/cut"
	"roundsman/flow"
)

// far is the farthest that a point may stand along x or y.
const far = api.MaxCoord

// task is what is to be cut.
type task struct {
	pts, edges [][2]int
}

// all is what All tells of k, which it has to take.
func (k task) all(t *testing.T) []cut.Split {
	t.Helper()
	l, err := cut.All(k.pts, k.edges)
	if err != nil {
		t.Fatalf("P1102: All of %v: %v", k, err)
	}
	return l
}

// best is what Best tells of k, which it has to take.
func (k task) best(t *testing.T) cut.Split {
	t.Helper()
	s, err := cut.Best(k.pts, k.edges)
	if err != nil {
		t.Fatalf("P1102: Best of %v: %v", k, err)
	}
	return s
}

// clone is k in memory of its own.
func (k task) clone() task {
	return task{slices.Clone(k.pts), slices.Clone(k.edges)}
}

// text is a Split: a mark a point, x where Side has it, then Cross, Dir and Kind.
func text(s cut.Split) string {
	row := make([]byte, len(s.Side))
	for i, is := range s.Side {
		row[i] = '.'
		if is {
			row[i] = 'x'
		}
	}
	return string(row) + " " + strconv.Itoa(s.Cross) + " " + strconv.Itoa(s.Dir) + " " + strconv.Itoa(s.Kind)
}

// texts is many Splits.
func texts(l []cut.Split) []string {
	var all []string
	for _, s := range l {
		all = append(all, text(s))
	}
	return all
}

// side is a row of marks: those of x are true.
func side(s string) []bool {
	l := make([]bool, len(s))
	for i := range s {
		l[i] = s[i] == 'x'
	}
	return l
}

// marked is the marks of n points that have those of l alone.
func marked(n int, l []int) []bool {
	in := make([]bool, n)
	for i := range in {
		in[i] = slices.Contains(l, i)
	}
	return in
}

// crossed is what the chapter's words of Cross come to.
func crossed(in []bool, edges [][2]int) int {
	sum := 0
	for _, e := range edges {
		ends := 0
		for _, v := range e {
			if v >= 0 && v < len(in) && in[v] {
				ends++
			}
		}
		if ends == 1 {
			sum++
		}
	}
	return sum
}

// key is how far along a direction a point stands.
func key(p [2]int, dir int) int {
	return [4]int{p[0], p[1], p[0] + p[1], p[0] - p[1]}[dir]
}

// ordered is the places of all points along a direction: each is behind as many as stand ahead of it.
func ordered(pts [][2]int, dir int) []int {
	order := make([]int, len(pts))
	for i, p := range pts {
		ahead := 0
		for j, q := range pts {
			if key(q, dir) < key(p, dir) || key(q, dir) == key(p, dir) && j < i {
				ahead++
			}
		}
		order[ahead] = i
	}
	return order
}

// sidesOf tells which points of few are on the near side and on the far side of what holds src back from dst.
type sidesOf func(k task, src, dst []int) (near, far []bool)

// least goes through all sets that have all of src and none of dst: of those that the fewest edges leave what all have, and what one has.
func least(k task, src, dst []int) (near, far []bool) {
	n, fewest := len(k.pts), math.MaxInt
	for code := range 1 << n {
		in := make([]bool, n)
		for i := range in {
			in[i] = code>>i&1 > 0
		}
		if slices.ContainsFunc(src, func(i int) bool { return !in[i] }) || slices.ContainsFunc(dst, func(i int) bool { return in[i] }) {
			continue
		}
		if c := crossed(in, k.edges); c < fewest {
			fewest, near, far = c, slices.Clone(in), slices.Clone(in)
		} else if c == fewest {
			for i := range in {
				near[i] = near[i] && in[i]
				far[i] = far[i] || in[i]
			}
		}
	}
	return near, far
}

// flown is what flow.Max tells, for more points than all sets can be gone through of.
func flown(k task, src, dst []int) (near, far []bool) {
	r, err := flow.Max(len(k.pts), k.edges, src, dst)
	if err != nil {
		panic(err)
	}
	return r.Near, r.Far
}

// wanted is what the chapter's words of All come to.
func wanted(k task, sides sidesOf) []cut.Split {
	var all []cut.Split
	n := len(k.pts)
	for dir := range 4 {
		order := ordered(k.pts, dir)
		end := (n + 3) / 4
		near, far := sides(k, order[:end], order[n-end:])
		for kind, in := range [][]bool{near, far, marked(n, order[:(n+1)/2])} {
			all = append(all, cut.Split{Side: in, Cross: crossed(in, k.edges), Dir: dir, Kind: kind})
		}
	}
	return all
}

// uneven is the amount of twice how many points are marked less how many there are.
func uneven(in []bool) int {
	sum := -len(in)
	for _, is := range in {
		if is {
			sum += 2
		}
	}
	if sum < 0 {
		return -sum
	}
	return sum
}

// better is what the chapter's words of Best come to, of all: those of the least Cross, of these the nearest to half, of these the first.
func better(all []cut.Split) cut.Split {
	cross, off := math.MaxInt, math.MaxInt
	for _, s := range all {
		cross = min(cross, s.Cross)
	}
	for _, s := range all {
		if s.Cross == cross {
			off = min(off, uneven(s.Side))
		}
	}
	for _, s := range all {
		if s.Cross == cross && uneven(s.Side) == off {
			return s
		}
	}
	return cut.Split{}
}

// tells looks at all that is told of k against the chapter's words.
func tells(t *testing.T, what string, k task, sides sidesOf) (all []cut.Split, best cut.Split) {
	t.Helper()
	if err := cut.Check(k.pts, k.edges); err != nil {
		t.Fatalf("P1101: %s: Check: %v", what, err)
	}
	all, best = k.all(t), k.best(t)
	want := wanted(k, sides)
	if !slices.Equal(texts(all), texts(want)) {
		t.Errorf("P1102: %s: All of %v:\n%v; want\n%v", what, k, texts(all), texts(want))
	}
	if text(best) != text(better(want)) {
		t.Errorf("P1102: %s: Best of %v: %s; want %s", what, k, text(best), text(better(want)))
	}
	for _, s := range all {
		if got := cut.Cross(s.Side, k.edges); got != crossed(s.Side, k.edges) {
			t.Errorf("P1101: %s: Cross of %s: %d", what, text(s), got)
		}
	}
	return all, best
}

// row is n points along x, where many[i] edges go between point i and the next one, told either way.
func row(many ...int) task {
	k := task{pts: [][2]int{{0, 0}}}
	for i, m := range many {
		k.pts = append(k.pts, [2]int{i + 1, 0})
		for j := range m {
			k.edges = append(k.edges, [2]int{i + j%2, i + 1 - j%2})
		}
	}
	return k
}

// made is two rings of three points, which touch in one, and a point behind them.
//
//	0 - 1, 1 - 2, 0 - 2; 2 - 3, 3 - 4, 2 - 4; 4 - 5; and 3 - 3.
func made() task {
	return task{
		pts:   [][2]int{{0, 0}, {1, 3}, {2, -2}, {4, 1}, {5, -4}, {7, 2}},
		edges: [][2]int{{0, 1}, {1, 2}, {3, 2}, {3, 4}, {5, 4}, {2, 4}, {3, 3}, {0, 2}},
	}
}

// P1102: of made each of twelve Splits, by hand.
func TestMade(t *testing.T) {
	want := []string{
		"xx.... 2 0 0", "xxxx.. 2 0 1", "xxx... 2 0 2",
		"..xxx. 3 1 0", "x.xxx. 3 1 1", "x.x.x. 5 1 2",
		"xxx... 2 2 0", "xxx... 2 2 1", "x.x.x. 5 2 2",
		"xx.... 2 3 0", "xxxx.. 2 3 1", "xx.x.. 4 3 2",
	}
	all, best := tells(t, "made", made(), least)
	if got := texts(all); !slices.Equal(got, want) {
		t.Errorf("P1102: All of made:\n%v; want\n%v", got, want)
	}
	if text(best) != want[2] {
		t.Errorf("P1102: Best of made: %s; want %s", text(best), want[2])
	}
	// Dir and Kind count up, each in its order.
	if cut.Near != 0 || cut.Far != 1 || cut.Half != 2 {
		t.Errorf("P1102: Near, Far, Half are %d, %d, %d", cut.Near, cut.Far, cut.Half)
	}
}

// P1102: All of the fewest points, by hand.
func TestFew(t *testing.T) {
	for _, c := range []struct {
		what string
		k    task
		want [12]string
	}{
		{"two points", task{pts: [][2]int{{5, -5}, {5, 5}}}, [12]string{
			"x. 0 0 0", "x. 0 0 1", "x. 0 0 2", "x. 0 1 0", "x. 0 1 1", "x. 0 1 2",
			"x. 0 2 0", "x. 0 2 1", "x. 0 2 2", ".x 0 3 0", ".x 0 3 1", ".x 0 3 2",
		}},
		{"a point twice, and edges", task{pts: [][2]int{{3, 4}, {3, 4}}, edges: [][2]int{{0, 1}, {1, 0}, {1, 1}, {0, 0}}}, [12]string{
			"x. 2 0 0", "x. 2 0 1", "x. 2 0 2", "x. 2 1 0", "x. 2 1 1", "x. 2 1 2",
			"x. 2 2 0", "x. 2 2 1", "x. 2 2 2", "x. 2 3 0", "x. 2 3 1", "x. 2 3 2",
		}},
		{"three points without an edge", task{pts: [][2]int{{2, 0}, {1, 7}, {0, 1}}}, [12]string{
			"..x 0 0 0", ".xx 0 0 1", ".xx 0 0 2", "x.. 0 1 0", "x.x 0 1 1", "x.x 0 1 2",
			"..x 0 2 0", "x.x 0 2 1", "x.x 0 2 2", ".x. 0 3 0", ".xx 0 3 1", ".xx 0 3 2",
		}},
		{"five in a row", row(1, 1, 2, 3), [12]string{
			"xx... 1 0 0", "xx... 1 0 1", "xxx.. 2 0 2", "xx... 1 1 0", "xx... 1 1 1", "xxx.. 2 1 2",
			"xx... 1 2 0", "xx... 1 2 1", "xxx.. 2 2 2", "xx... 1 3 0", "xx... 1 3 1", "xxx.. 2 3 2",
		}},
	} {
		all, _ := tells(t, c.what, c.k, least)
		if got := texts(all); !slices.Equal(got, c.want[:]) {
			t.Errorf("P1102: All of %s:\n%v; want\n%v", c.what, got, c.want)
		}
	}
}

// zigzag is eight points, at places in no order, that stand in a row along dir; an edge goes between each two that are next there. Along others the ends of the row are mixed, so that many edges cross.
func zigzag(dir int) task {
	at, aside := []int{3, 6, 0, 5, 1, 7, 4, 2}, []int{0, 300, 600, 200, 400, 100, 500, 700}
	k := task{pts: make([][2]int, 8)}
	for i, v := range at {
		off := aside[i]
		k.pts[v] = [][2]int{{i, off}, {off, i}, {i + off, i - off}, {i + off, off - i}}[dir]
		if i > 0 {
			k.edges = append(k.edges, [2]int{at[i-1], v})
		}
	}
	return k
}

// P1102: Best by hand: the least Cross; of these the nearest to half; of these the first.
func TestBest(t *testing.T) {
	for _, c := range []struct {
		what string
		k    task
		want string
	}{
		{"two points", task{pts: [][2]int{{1, 0}, {0, 0}}}, ".x 0 0 0"},
		{"a lesser Cross that is less even", row(2, 1, 2, 2, 2), "xx.... 1 0 0"},
		{"Near is as even as Half", row(2, 2, 1, 2, 2), "xxx... 1 0 0"},
		{"Half is more even", row(1, 1, 1, 1, 1, 1, 1), "xxxx.... 1 0 2"},
		{"Far is more even than Near", row(2, 1, 2, 2, 1, 2, 2), "xxxxx... 1 0 1"},
		{"Near is more even than Far", row(2, 2, 1, 2, 2, 1, 2), "xxx..... 1 0 0"},
		{"Far is as even as Near", row(2, 1, 2, 2, 2, 1, 2), "xx...... 1 0 0"},
		{"Far is as even as Near, below half and above", row(2, 2, 1, 1, 2, 2), "xxx.... 1 0 0"},
		{"Far is Half", row(2, 1, 2, 1, 2, 2, 2), "xxxx.... 1 0 1"},
		{"nothing crosses", task{pts: row(0, 0, 0, 0, 0).pts}, "xxx... 0 0 2"},
		{"nothing crosses Near", row(2, 0, 2, 2, 2), "xx.... 0 0 0"},
		{"a row along x alone", zigzag(0), "x..x.xx. 1 0 2"},
		{"a row along y alone", zigzag(1), "x..x.xx. 1 1 2"},
		{"a row along both alone", zigzag(2), "x..x.xx. 1 2 2"},
		{"a row along x less y alone", zigzag(3), "x..x.xx. 1 3 2"},
	} {
		if _, best := tells(t, c.what, c.k, least); text(best) != c.want {
			t.Errorf("P1102: Best of %s: %s; want %s", c.what, text(best), c.want)
		}
	}
}

// P1101: Cross by hand, of any side and edges.
func TestCross(t *testing.T) {
	for _, c := range []struct {
		side  string
		edges [][2]int
		want  int
	}{
		{"", nil, 0},
		{"", [][2]int{{0, 1}, {0, 0}, {-1, 7}}, 0},
		{"x.", nil, 0},
		{"x.", [][2]int{{0, 1}}, 1},
		{"x.", [][2]int{{1, 0}}, 1},
		{".x", [][2]int{{0, 1}}, 1},
		{"xx", [][2]int{{0, 1}, {1, 0}}, 0},
		{"..", [][2]int{{0, 1}, {1, 0}}, 0},
		{"x.", [][2]int{{0, 0}, {1, 1}}, 0},
		{"x.", [][2]int{{0, 1}, {0, 1}, {1, 0}}, 3},
		{"xx.x", [][2]int{{0, 1}, {1, 2}, {2, 3}, {3, 0}, {2, 2}, {0, 2}}, 3},
		{"xx", [][2]int{{0, 2}, {2, 0}, {1, -1}, {-1, 1}, {2, 3}, {-1, -2}, {-1, 2}, {2, 2}}, 4},
		{"x", [][2]int{{0, math.MaxInt}, {math.MinInt, 0}, {0, 1 << 32}, {1 << 62, 0}, {math.MinInt, math.MaxInt}}, 4},
		{".", [][2]int{{0, 1}, {0, -1}, {1, 2}}, 0},
		{"x", [][2]int{{1 << 32, 1}, {-1 << 32, -1}, {1 << 32, 1 << 33}}, 0},
	} {
		if got := cut.Cross(side(c.side), c.edges); got != c.want || crossed(side(c.side), c.edges) != c.want {
			t.Errorf("P1101: Cross of %s, %v: %d; want %d", c.side, c.edges, got, c.want)
		}
	}
	if got := cut.Cross(nil, [][2]int{{0, 0}, {0, 1}}); got != 0 {
		t.Errorf("P1101: Cross of no side: %d", got)
	}
	// There may be more than a net has.
	long := make([]bool, 20000)
	long[19999] = true
	if got := cut.Cross(long, slices.Repeat([][2]int{{19999, 0}, {19998, 19997}, {-1, 20000}}, 50000)); got != 50000 {
		t.Errorf("P1101: Cross of many: %d; want 50000", got)
	}
}

// P1101: Cross of all sides of four and all edges within and beside them.
func TestCrossAll(t *testing.T) {
	var edges [][2]int
	for a := -2; a < 7; a++ {
		for b := -2; b < 7; b++ {
			edges = append(edges, [2]int{a, b})
		}
	}
	for n := range 5 {
		for code := range 1 << n {
			in := make([]bool, n)
			for i := range in {
				in[i] = code>>i&1 > 0
			}
			for i := range edges {
				if got, want := cut.Cross(in, edges[i:i+1]), crossed(in, edges[i:i+1]); got != want {
					t.Fatalf("P1101: Cross of %v, %v: %d; want %d", in, edges[i], got, want)
				}
			}
			if got, want := cut.Cross(in, edges), crossed(in, edges); got != want {
				t.Fatalf("P1101: Cross of %v, all: %d; want %d", in, got, want)
			}
		}
	}
}

// fault is what a refusal has to be.
type fault struct {
	part string
	at   int
	is   api.Errno
}

// refused looks at the whole of a refusal by each face: P12's Fault, the Errno right within, and P4's zero values beside it.
func refused(t *testing.T, what string, k task, want fault) {
	t.Helper()
	all, allErr := cut.All(k.pts, k.edges)
	best, bestErr := cut.Best(k.pts, k.edges)
	for face, err := range map[string]error{"Check": cut.Check(k.pts, k.edges), "All": allErr, "Best": bestErr} {
		f, ok := err.(*api.Fault)
		if !ok || f == nil || *f != (api.Fault{Part: want.part, At: want.at, Err: want.is}) {
			t.Errorf("P1101, P1102, P12: %s: %s: %v; want %s %d: %v", what, face, err, want.part, want.at, want.is)
		}
	}
	if len(all) != 0 || len(best.Side) != 0 || best.Cross != 0 || best.Dir != 0 || best.Kind != 0 {
		t.Errorf("P4: %s: %v, %v beside an error", what, all, best)
	}
}

// P1101: each refusal, by its Part, its At and its Errno.
func TestRefused(t *testing.T) {
	refused(t, "no point", task{}, fault{"cut", 0, api.ErrArg})
	refused(t, "an empty list", task{pts: [][2]int{}, edges: [][2]int{}}, fault{"cut", 0, api.ErrArg})
	refused(t, "one point", task{pts: [][2]int{{0, 0}}}, fault{"cut", 0, api.ErrArg})
	refused(t, "one point and an edge", task{pts: [][2]int{{0, 0}}, edges: [][2]int{{0, 0}}}, fault{"cut", 0, api.ErrArg})
	for _, n := range []int{4097, 4098, 16384, 100000} {
		refused(t, strconv.Itoa(n)+" points", task{pts: make([][2]int, n)}, fault{"cut", 0, api.ErrLong})
	}
	for _, m := range []int{16385, 16386, 100000} {
		refused(t, strconv.Itoa(m)+" edges", task{pts: make([][2]int, 2), edges: make([][2]int, m)}, fault{"cut", 1, api.ErrLong})
	}
	for _, c := range []int{math.MinInt, math.MinInt + 1, -1 << 60, -1 << 32, -1 << 31, -far - 2, -far - 1, far + 1, far + 2, 1 << 31, 1 << 32, 1 << 60, math.MaxInt - 1, math.MaxInt} {
		for i := range made().pts {
			for xy := range 2 {
				k := made()
				k.pts[i][xy] = c
				refused(t, "a point at "+strconv.Itoa(c), k, fault{"point", i, api.ErrArg})
			}
			k := made()
			k.pts[i] = [2]int{c, c}
			refused(t, "a point at twice "+strconv.Itoa(c), k, fault{"point", i, api.ErrArg})
		}
	}
	for _, v := range []int{math.MinInt, math.MinInt + 1, -1 << 60, -1 << 32, -1 << 31, -6, -2, -1, 6, 7, 4095, 4096, 1 << 31, 1 << 32, 1 << 60, math.MaxInt - 1, math.MaxInt} {
		for i := range made().edges {
			for end := range 2 {
				k := made()
				k.edges[i][end] = v
				refused(t, "an edge at "+strconv.Itoa(v), k, fault{"edge", i, api.ErrName})
			}
			k := made()
			k.edges[i] = [2]int{v, v}
			refused(t, "an edge at twice "+strconv.Itoa(v), k, fault{"edge", i, api.ErrName})
		}
	}
}

// P6, P11, P1101: of several errors the first is told, in the order of the chapter.
func TestOrder(t *testing.T) {
	bad := task{pts: make([][2]int, 4097), edges: make([][2]int, 16385)}
	bad.pts[0], bad.pts[3] = [2]int{0, far + 1}, [2]int{-far - 1, 0}
	bad.edges[0], bad.edges[9] = [2]int{0, 4097}, [2]int{-1, 0}
	all := bad.pts
	refused(t, "too many points and all behind", bad, fault{"cut", 0, api.ErrLong})
	for n := range 2 {
		bad.pts = all[:n]
		refused(t, "too few points and all behind", bad, fault{"cut", 0, api.ErrArg})
	}
	bad.pts = all[:4096]
	refused(t, "too many edges and all behind", bad, fault{"cut", 1, api.ErrLong})
	bad.edges = bad.edges[:16384]
	refused(t, "a point and all behind", bad, fault{"point", 0, api.ErrArg})
	bad.pts[0] = [2]int{0, far}
	refused(t, "a later point and all behind", bad, fault{"point", 3, api.ErrArg})
	bad.pts[3] = [2]int{-far, 0}
	refused(t, "an edge and a later one", bad, fault{"edge", 0, api.ErrName})
	bad.edges[0] = [2]int{0, 4095}
	refused(t, "a later edge", bad, fault{"edge", 9, api.ErrName})
	bad.edges[9] = [2]int{4095, 0}
	if err := cut.Check(bad.pts, bad.edges); err != nil {
		t.Errorf("P1101: nothing is wrong any more: %v", err)
	}
}

// P12: the errors are asked by errors.Is and errors.As; P7: each one is new.
func TestFaults(t *testing.T) {
	two := [][2]int{{0, 0}, {1, 0}}
	for _, c := range []struct {
		k    task
		part string
		at   int
		want api.Errno
		text string
	}{
		{task{}, "cut", 0, api.ErrArg, "cut 0: arg"},
		{task{pts: make([][2]int, 4097)}, "cut", 0, api.ErrLong, "cut 0: long"},
		{task{pts: two, edges: make([][2]int, 16385)}, "cut", 1, api.ErrLong, "cut 1: long"},
		{task{pts: [][2]int{{0, 0}, {0, far + 1}}}, "point", 1, api.ErrArg, "point 1: arg"},
		{task{pts: two, edges: [][2]int{{0, 1}, {1, 0}, {2, 0}}}, "edge", 2, api.ErrName, "edge 2: name"},
	} {
		for _, face := range []func() error{
			func() error { return cut.Check(c.k.pts, c.k.edges) },
			func() error { _, err := cut.All(c.k.pts, c.k.edges); return err },
			func() error { _, err := cut.Best(c.k.pts, c.k.edges); return err },
			func() error { return cut.Check(c.k.pts, c.k.edges) },
		} {
			err := face()
			for e := api.ErrArg; e <= api.ErrFar; e++ {
				if errors.Is(err, e) != (e == c.want) {
					t.Errorf("P12, P1101: %s: %v is %v: %v", c.text, err, e, errors.Is(err, e))
				}
			}
			var f *api.Fault
			if !errors.As(err, &f) || f.Part != c.part || f.At != c.at || err.Error() != c.text {
				t.Fatalf("P12, P1101: %v; want %s", err, c.text)
			}
			// A Fault that is written over changes none that is told then.
			*f = api.Fault{Part: "spoilt", At: -9, Err: api.OK}
		}
	}
}

// P7: no two errors are one, and each stays as it was told.
func TestFaultsStay(t *testing.T) {
	var told []error
	var want []string
	for range 2 {
		for i := range 3 {
			k := made()
			k.edges[i][1] = 6
			_, errAll := cut.All(k.pts, k.edges)
			_, errBest := cut.Best(k.pts, k.edges)
			told = append(told, cut.Check(k.pts, k.edges), errAll, errBest, cut.Check(nil, nil))
			edge := "edge " + strconv.Itoa(i) + ": name"
			want = append(want, edge, edge, edge, "cut 0: arg")
		}
	}
	for i, err := range told {
		if err.Error() != want[i] || slices.Index(told, err) != i {
			t.Errorf("P7: error %d: %v; want %s, and another one than those ahead", i, err, want[i])
		}
	}
}

// P1101: what is just within its bounds is taken.
func TestBounds(t *testing.T) {
	k := task{pts: [][2]int{{far, far}, {-far, far}, {far, -far}, {-far, -far}, {0, 0}}, edges: [][2]int{{0, 4}, {4, 0}, {1, 2}, {4, 4}}}
	tells(t, "the farthest points", k, least)
	for _, n := range []int{2, 3} {
		tells(t, strconv.Itoa(n)+" points", task{pts: slices.Repeat([][2]int{{far, -far}}, n), edges: [][2]int{{0, n - 1}, {n - 1, 0}, {n - 1, n - 1}}}, least)
	}
	many := task{pts: [][2]int{{1, 0}, {0, 0}}}
	for i := range 16384 {
		many.edges = append(many.edges, [2]int{i % 2, 1 - i%2})
	}
	_, best := tells(t, "16384 edges", many, least)
	if text(best) != ".x 16384 0 0" {
		t.Errorf("P1102: Best of 16384 edges between two: %s", text(best))
	}
}

// dice tell numbers below what they are asked for, the same ones each time.
func dice(seed uint64) func(int) int {
	return func(n int) int {
		seed = seed*6364136223846793005 + 1442695040888963407
		return int(seed >> 33 % uint64(n))
	}
}

// thrown is a net of some points, no farther from the middle than reach, and edges.
func thrown(throw func(int) int, n, edges, reach int) task {
	var k task
	for range n {
		k.pts = append(k.pts, [2]int{throw(2*reach+1) - reach, throw(2*reach+1) - reach})
	}
	for range edges {
		k.edges = append(k.edges, [2]int{throw(n), throw(n)})
	}
	return k
}

// P1102: all rows of two or three points of four, and some edges between them.
func TestAllSmall(t *testing.T) {
	for code := range 64 * 27 {
		corner := func(i int) [2]int { return [2]int{code >> (2 * i) & 1, code >> (2*i + 1) & 1} }
		three := task{pts: [][2]int{corner(0), corner(1), corner(2)}}
		rest := code / 64
		for _, e := range [][2]int{{0, 1}, {2, 1}, {0, 2}} {
			three.edges = append(three.edges, slices.Repeat([][2]int{e}, rest%3)...)
			rest /= 3
		}
		tells(t, "three points "+strconv.Itoa(code), three, least)
		two := task{pts: three.pts[:2], edges: slices.Repeat([][2]int{{1, 0}}, code%3)}
		tells(t, "two points "+strconv.Itoa(code), two, least)
		if t.Failed() {
			return
		}
	}
}

// P1101, P1102: many thrown nets, held against all sets of their points.
func TestThrown(t *testing.T) {
	throw := dice(1)
	dirs, kinds, apart := [4]int{}, [3]int{}, 0
	for i := range 1200 {
		n := 2 + throw(8)
		k := thrown(throw, n, throw(3*n), []int{0, 1, 2, 6, far}[i%5])
		all, best := tells(t, "thrown net "+strconv.Itoa(i), k, least)
		dirs[best.Dir]++
		kinds[best.Kind]++
		for dir := range 4 {
			if !slices.Equal(all[3*dir].Side, all[3*dir+1].Side) {
				apart++
			}
		}
		if t.Failed() {
			return
		}
	}
	if slices.Min(dirs[:]) < 50 || slices.Min(kinds[:]) < 50 || apart < 500 {
		t.Errorf("Best is of each Dir %v, of each Kind %v; Near isn't Far %d times", dirs, kinds, apart)
	}
}

// near is a net of which edges go between points that are near one another alone, as roads do.
func near(throw func(int) int, n, edges, reach int) task {
	k := thrown(throw, n, 0, reach)
	for len(k.edges) < edges {
		a, b := throw(n), throw(n)
		for range 6 {
			c := throw(n)
			if off(k.pts[a], k.pts[c]) < off(k.pts[a], k.pts[b]) {
				b = c
			}
		}
		k.edges = append(k.edges, [2]int{a, b})
	}
	return k
}

// off is how far two points are from one another, along x and along y.
func off(p, q [2]int) int {
	dx, dy := p[0]-q[0], p[1]-q[1]
	return max(dx, -dx) + max(dy, -dy)
}

// P1102: greater thrown nets, held against the chapter's words with flow.Max.
func TestThrownGreat(t *testing.T) {
	throw := dice(2)
	for i := range 60 {
		n := 10 + throw(200)
		k := near(throw, n, throw(4*n), []int{3, 40, far}[i%3])
		all, _ := tells(t, "great "+strconv.Itoa(i), k, flown)
		for j, s := range all {
			if s.Dir != j/3 || s.Kind != j%3 {
				t.Errorf("P1102: great %d: Split %d is of Dir %d, Kind %d", i, j, s.Dir, s.Kind)
			}
		}
		if t.Failed() {
			return
		}
	}
}

// board is points in rows, one behind the other, edges between neighbours; of them none across column gap - 1 and gap but in the first row.
func board(side, gap int) task {
	var k task
	for v := range side * side {
		x, y := v%side, v/side
		k.pts = append(k.pts, [2]int{x, y})
		if x > 0 && (x != gap || y == 0) {
			k.edges = append(k.edges, [2]int{v, v - 1})
		}
		if y > 0 {
			k.edges = append(k.edges, [2]int{v - side, v})
		}
	}
	return k
}

// P1102: a board is cut where it nearly falls apart, or in halves.
func TestBoard(t *testing.T) {
	for _, c := range []struct{ side, gap, cross int }{{8, 3, 1}, {8, 4, 1}, {12, 3, 1}, {12, 8, 1}, {16, 0, 16}, {16, 2, 16}, {16, 15, 16}, {64, 24, 1}} {
		k := board(c.side, c.gap)
		_, best := tells(t, "board", k, flown)
		for v, is := range best.Side {
			edge := c.gap
			if c.cross > 1 {
				edge = c.side / 2
			}
			if is != (v%c.side < edge) {
				t.Fatalf("P1102: a board of %d, gap at %d: %d is %v", c.side, c.gap, v, is)
			}
		}
		if best.Cross != c.cross || best.Dir != 0 {
			t.Errorf("P1102: a board of %d, gap at %d: %d edges cross, Dir %d", c.side, c.gap, best.Cross, best.Dir)
		}
	}
}

// P1102: the greatest nets are cut, in time.
func TestGreatest(t *testing.T) {
	throw := dice(3)
	tells(t, "the greatest net of all", thrown(throw, 4096, 16384, far), flown)
	tells(t, "the greatest net of roads", near(throw, 4096, 16384, far), flown)
	tells(t, "the most points at one place", thrown(throw, 4096, 16384, 0), flown)
	tells(t, "the longest row", row(slices.Repeat([]int{4}, 4095)...), flown)
}

// spare is l with some spare room that has something in it.
func spare[T any](l []T, with ...T) []T {
	return append(slices.Clone(l), with...)[:len(l)]
}

// spoil writes over a list, its spare room too.
func spoil[T any](l []T, with T) {
	l = l[:cap(l)]
	for i := range l {
		l[i] = with
	}
}

// P2: what is handed in, its spare room too, is not changed, and counts for nothing.
func TestHandedIn(t *testing.T) {
	throw := dice(4)
	for i := range 40 {
		plain := thrown(throw, 2+throw(6), throw(12), 3)
		n, m := len(plain.pts), len(plain.edges)
		k := task{spare(plain.pts, [2]int{far + 1, 0}, [2]int{0, 0}), spare(plain.edges, [2]int{-1, 0}, [2]int{0, 1})}
		was := task{slices.Clone(k.pts[:n+2]), slices.Clone(k.edges[:m+2])}
		all, best := tells(t, "with spare room "+strconv.Itoa(i), k, least)
		in := spare(best.Side, true, false, true)
		marks := slices.Clone(in[:n+3])
		if got := cut.Cross(in, append(slices.Clone(k.edges), [2]int{n, n + 1})); got != best.Cross {
			t.Errorf("P2: Cross with spare room: %d; want %d", got, best.Cross)
		}
		// Nor is it when an answer is written over.
		for _, s := range append(all, best) {
			spoil(s.Side, true)
		}
		if !slices.Equal(k.pts[:n+2], was.pts) || !slices.Equal(k.edges[:m+2], was.edges) || !slices.Equal(in[:n+3], marks) {
			t.Errorf("P2: what was handed in is %v, %v, %v", k.pts[:n+2], k.edges[:m+2], in[:n+3])
		}
	}
}

// P2, P3: what is told is new memory each time, shared by no two lists; and the same calls tell the same.
func TestMemory(t *testing.T) {
	for _, k := range []task{made(), row(1), row(0, 0), row(2, 2, 1, 2, 2), {pts: make([][2]int, 4)}} {
		plain := k.clone()
		first, best := k.all(t), k.best(t)
		all, one := texts(first), text(best)
		for i := range first {
			for _, with := range []bool{true, false} {
				l := k.all(t)
				if !slices.Equal(texts(l), all) {
					t.Errorf("P3: %v; it was %v", texts(l), all)
				}
				spoil(l[i].Side, with)
				for j := range l {
					if j != i && text(l[j]) != all[j] {
						t.Errorf("P2: Sides %d and %d share memory", i, j)
					}
				}
				s := k.best(t)
				if text(s) != one {
					t.Errorf("P3: %s; it was %s", text(s), one)
				}
				spoil(s.Side, with)
				spoil(l, cut.Split{})
			}
		}
		// What was handed in is not kept: it is written over, and the answers stay.
		spoil(k.pts, [2]int{-1, -1})
		spoil(k.edges, [2]int{0, 1})
		if !slices.Equal(texts(first), all) || text(best) != one {
			t.Error("P2: two answers share memory, or one with what was handed in")
		}
		if !slices.Equal(texts(plain.all(t)), all) || text(plain.best(t)) != one {
			t.Error("P3: the same net tells otherwise")
		}
	}
}

// P2: no list of edges and an empty one are the same. P5: a refusal changes nothing of what is told later.
func TestEmpty(t *testing.T) {
	pts := made().pts
	a, b := task{pts: pts}, task{pts: pts, edges: [][2]int{}}
	if !slices.Equal(texts(a.all(t)), texts(b.all(t))) || text(a.best(t)) != text(b.best(t)) {
		t.Errorf("P2: %v, %v", texts(a.all(t)), texts(b.all(t)))
	}
	if cut.Cross(nil, nil) != 0 || cut.Cross([]bool{}, [][2]int{}) != 0 || cut.Cross([]bool{true}, nil) != 0 {
		t.Error("P1101: Cross of nothing")
	}
	want := texts(made().all(t))
	refused(t, "nothing", task{}, fault{"cut", 0, api.ErrArg})
	refused(t, "an edge", task{pts, [][2]int{{0, 6}}}, fault{"edge", 0, api.ErrName})
	if got := texts(made().all(t)); !slices.Equal(got, want) {
		t.Errorf("P5: behind a refusal %v; it was %v", got, want)
	}
}

// P3: the same is told whichever calls were ahead, also of several at once.
func TestAtOnce(t *testing.T) {
	k := near(dice(5), 400, 1200, 500)
	all, best := texts(k.all(t)), text(k.best(t))
	var each sync.WaitGroup
	for range 4 {
		each.Go(func() {
			for range 3 {
				l, err := cut.All(k.pts, k.edges)
				s, errBest := cut.Best(k.pts, k.edges)
				if err != nil || errBest != nil || !slices.Equal(texts(l), all) || text(s) != best || cut.Check(k.pts, k.edges) != nil {
					t.Errorf("P3: %v, %v", err, errBest)
				}
			}
		})
	}
	each.Wait()
}
