package line_test

import (
	"math"
	"slices"
	"strconv"
	"sync"
	"testing"

	"roundsman/api"
	"roundsman/line"
)

// far is the farthest that a point may stand along x or y.
const far = api.MaxCoord

// other are directions that are none.
func other() []int {
	return []int{math.MinInt, math.MinInt + 1, math.MinInt + 3, -1 << 32, -1 << 31, -4, -3, -2, -1, 4, 5, 6, 7, 8, 256, 257, 1 << 31, 1 << 32, 1<<32 + 1, 1<<32 + 3, math.MaxInt - 1, math.MaxInt}
}

// dirs are all directions, and some that are none.
func dirs() []int {
	return append([]int{0, 1, 2, 3}, other()...)
}

// key is what the chapter's words of Key come to.
func key(p [2]int, dir int) int {
	if dir == 0 {
		return p[0]
	}
	if dir == 1 {
		return p[1]
	}
	if dir == 2 {
		return p[0] + p[1]
	}
	if dir == 3 {
		return p[0] - p[1]
	}
	return 0
}

// ordered is what the chapter's words of Order come to: again and again the first place of the least Key that is not told yet.
func ordered(pts [][2]int, dir int) []int {
	var order []int
	told := make([]bool, len(pts))
	for range pts {
		next := -1
		for i, p := range pts {
			if !told[i] && (next < 0 || key(p, dir) < key(pts[next], dir)) {
				next = i
			}
		}
		told[next] = true
		order = append(order, next)
	}
	return order
}

// quarter is how many the first of Ends has of n.
func quarter(n int) int {
	if n < 2 {
		return 0
	}
	return (n + 3) / 4
}

// numbers tells n numbers no two of which are the same, in no order.
func numbers(n int) []int {
	var l []int
	for i := range n {
		l = append(l, (i*7919+5)%10007-5000)
	}
	return l
}

// dice tell numbers below what they are asked for, the same ones each time.
func dice(seed uint64) func(int) int {
	return func(n int) int {
		seed = seed*6364136223846793005 + 1442695040888963407
		return int(seed >> 33 % uint64(n))
	}
}

// thrown is n points that stand no farther from the middle than reach, along x and along y.
func thrown(throw func(int) int, n, reach int) [][2]int {
	var pts [][2]int
	for range n {
		pts = append(pts, [2]int{throw(2*reach+1) - reach, throw(2*reach+1) - reach})
	}
	return pts
}

// same looks at a list that is told.
func same(t *testing.T, what string, got, want []int) {
	t.Helper()
	if !slices.Equal(got, want) {
		t.Errorf("P1001: %s: %v; want %v", what, got, want)
	}
}

// rises looks at whether order has all places of pts, rising by Key, of one Key by place.
func rises(t *testing.T, what string, pts [][2]int, dir int, order []int) {
	t.Helper()
	told := make([]bool, len(pts))
	for i, at := range order {
		if at < 0 || at >= len(pts) || told[at] {
			t.Fatalf("P1001: %s: place %d is none or is there twice", what, at)
		}
		told[at] = true
		if i == 0 {
			continue
		}
		was := order[i-1]
		if a, b := key(pts[was], dir), key(pts[at], dir); a > b || a == b && was > at {
			t.Fatalf("P1001: %s: %d, of Key %d, is ahead of %d, of Key %d", what, was, a, at, b)
		}
	}
	if len(order) != len(pts) {
		t.Errorf("P1001: %s: %d places; want %d", what, len(order), len(pts))
	}
}

// P1001: Key by hand: of each direction, at ordinary points and the farthest ones.
func TestKey(t *testing.T) {
	for _, c := range []struct {
		p    [2]int
		want [4]int
	}{
		{[2]int{0, 0}, [4]int{0, 0, 0, 0}},
		{[2]int{7, 3}, [4]int{7, 3, 10, 4}},
		{[2]int{3, 7}, [4]int{3, 7, 10, -4}},
		{[2]int{-7, 3}, [4]int{-7, 3, -4, -10}},
		{[2]int{7, -3}, [4]int{7, -3, 4, 10}},
		{[2]int{-7, -3}, [4]int{-7, -3, -10, -4}},
		{[2]int{0, 1}, [4]int{0, 1, 1, -1}},
		{[2]int{1, 0}, [4]int{1, 0, 1, 1}},
		{[2]int{far, far}, [4]int{far, far, 2 * far, 0}},
		{[2]int{far, -far}, [4]int{far, -far, 0, 2 * far}},
		{[2]int{-far, far}, [4]int{-far, far, 0, -2 * far}},
		{[2]int{-far, -far}, [4]int{-far, -far, -2 * far, 0}},
		{[2]int{far, 1}, [4]int{far, 1, far + 1, far - 1}},
		{[2]int{1, -far}, [4]int{1, -far, 1 - far, 1 + far}},
	} {
		for dir, want := range c.want {
			if got := line.Key(c.p, dir); got != want || key(c.p, dir) != want {
				t.Errorf("P1001: Key of %v, %d: %d; want %d", c.p, dir, got, want)
			}
		}
		for _, dir := range other() {
			if got := line.Key(c.p, dir); got != 0 {
				t.Errorf("P1001: Key of %v, %d: %d; want 0", c.p, dir, got)
			}
		}
	}
}

// P1001: Key of all points round the middle, and of thrown ones, held against the chapter's words.
func TestKeyAll(t *testing.T) {
	throw := dice(1)
	pts := append(thrown(throw, 1000, far), thrown(throw, 1000, 100)...)
	for x := -9; x <= 9; x++ {
		for y := -9; y <= 9; y++ {
			pts = append(pts, [2]int{x, y})
		}
	}
	for _, p := range pts {
		for dir := -5; dir <= 9; dir++ {
			if got := line.Key(p, dir); got != key(p, dir) {
				t.Fatalf("P1001: Key of %v, %d: %d; want %d", p, dir, got, key(p, dir))
			}
		}
	}
}

// P1001: Order by hand.
func TestOrder(t *testing.T) {
	for _, c := range []struct {
		what string
		pts  [][2]int
		want [4][]int
	}{
		{"no point", nil, [4][]int{}},
		{"one point", [][2]int{{-4, 9}}, [4][]int{{0}, {0}, {0}, {0}}},
		{"two points", [][2]int{{3, -1}, {1, 2}}, [4][]int{{1, 0}, {0, 1}, {0, 1}, {1, 0}}},
		{"one point twice", [][2]int{{3, -1}, {3, -1}}, [4][]int{{0, 1}, {0, 1}, {0, 1}, {0, 1}}},
		{"one Key each", [][2]int{{5, 5}, {5, -5}, {-5, 5}, {-5, -5}}, [4][]int{{2, 3, 0, 1}, {1, 3, 0, 2}, {3, 1, 2, 0}, {2, 0, 3, 1}}},
		{"a row along x", [][2]int{{2, 0}, {1, 0}, {0, 0}, {-1, 0}}, [4][]int{{3, 2, 1, 0}, {0, 1, 2, 3}, {3, 2, 1, 0}, {3, 2, 1, 0}}},
		{"a row along y", [][2]int{{0, 2}, {0, 1}, {0, 0}, {0, -1}}, [4][]int{{0, 1, 2, 3}, {3, 2, 1, 0}, {3, 2, 1, 0}, {0, 1, 2, 3}}},
		{"a row slantwise", [][2]int{{2, -2}, {1, -1}, {0, 0}, {-1, 1}}, [4][]int{{3, 2, 1, 0}, {0, 1, 2, 3}, {0, 1, 2, 3}, {3, 2, 1, 0}}},
		{"a row slantwise, the other way", [][2]int{{2, 2}, {1, 1}, {0, 0}, {-1, -1}}, [4][]int{{3, 2, 1, 0}, {3, 2, 1, 0}, {3, 2, 1, 0}, {0, 1, 2, 3}}},
		{"the farthest", [][2]int{{far, far}, {-far, -far}, {far, -far}, {-far, far}, {0, 0}}, [4][]int{{1, 3, 4, 0, 2}, {1, 2, 4, 0, 3}, {1, 2, 3, 4, 0}, {3, 0, 1, 4, 2}}},
	} {
		for dir, want := range c.want {
			same(t, "Order of "+c.what+", "+strconv.Itoa(dir), line.Order(c.pts, dir), want)
			same(t, "the test's own words of "+c.what, ordered(c.pts, dir), want)
		}
	}
}

// P1001: along a direction that is none all points are of one Key, so that they stand by place.
func TestOrderNowhere(t *testing.T) {
	pts := thrown(dice(2), 50, far)
	var places []int
	for i := range pts {
		places = append(places, i)
	}
	for _, dir := range other() {
		same(t, "Order along "+strconv.Itoa(dir), line.Order(pts, dir), places)
	}
}

// P1001: Order of all rows of up to four points of nine.
func TestOrderAll(t *testing.T) {
	for n := range 5 {
		codes := 1
		for range n {
			codes *= 9
		}
		for code := range codes {
			var pts [][2]int
			for rest := code; len(pts) < n; rest /= 9 {
				pts = append(pts, [2]int{rest%9/3 - 1, rest%3 - 1})
			}
			for dir := range 5 {
				if got, want := line.Order(pts, dir), ordered(pts, dir); !slices.Equal(got, want) {
					t.Fatalf("P1001: Order of %v, %d: %v; want %v", pts, dir, got, want)
				}
			}
		}
	}
}

// P1001: Order of thrown points, few of one Key and many, held against the chapter's words.
func TestOrderThrown(t *testing.T) {
	throw := dice(3)
	for i := range 300 {
		pts := thrown(throw, throw(120), []int{0, 1, 3, 20, far}[i%5])
		for _, dir := range dirs() {
			same(t, "Order of thrown points "+strconv.Itoa(i)+", "+strconv.Itoa(dir), line.Order(pts, dir), ordered(pts, dir))
		}
		if t.Failed() {
			return
		}
	}
}

// P1001: Order of as many points as a net has vertices, and of many more, in time; whatever order they are in already.
func TestOrderGreat(t *testing.T) {
	throw := dice(4)
	for _, n := range []int{api.MaxVerts, 200000} {
		for _, reach := range []int{0, 1, 40, far} {
			pts := thrown(throw, n, reach)
			for dir := range 5 {
				rises(t, "thrown", pts, dir, line.Order(pts, dir))
				for _, turned := range []bool{false, true} {
					row := slices.Clone(pts)
					slices.SortFunc(row, func(a, b [2]int) int { return key(a, dir) - key(b, dir) })
					if turned {
						slices.Reverse(row)
					}
					rises(t, "in order", row, dir, line.Order(row, dir))
				}
			}
		}
	}
}

// P1001: Ends by hand: how many of few there are.
func TestEnds(t *testing.T) {
	for _, c := range []struct{ order, first, last []int }{
		{nil, nil, nil},
		{[]int{8}, nil, nil},
		{[]int{8, 2}, []int{8}, []int{2}},
		{[]int{8, 2, 5}, []int{8}, []int{5}},
		{[]int{8, 2, 5, 1}, []int{8}, []int{1}},
		{[]int{8, 2, 5, 1, 9}, []int{8, 2}, []int{1, 9}},
		{[]int{8, 2, 5, 1, 9, 0}, []int{8, 2}, []int{9, 0}},
		{[]int{8, 2, 5, 1, 9, 0, 7}, []int{8, 2}, []int{0, 7}},
		{[]int{8, 2, 5, 1, 9, 0, 7, 3}, []int{8, 2}, []int{7, 3}},
		{[]int{8, 2, 5, 1, 9, 0, 7, 3, 6}, []int{8, 2, 5}, []int{7, 3, 6}},
		{[]int{8, 2, 5, 1, 9, 0, 7, 3, 6, 4, 11, 10, 12}, []int{8, 2, 5, 1}, []int{4, 11, 10, 12}},
		{[]int{3, 3, 3, 3, 3}, []int{3, 3}, []int{3, 3}},
		{[]int{-1, math.MinInt, 0, math.MaxInt, -1}, []int{-1, math.MinInt}, []int{math.MaxInt, -1}},
	} {
		first, last := line.Ends(c.order)
		what := "of " + strconv.Itoa(len(c.order)) + " numbers"
		same(t, "the first of Ends "+what, first, c.first)
		same(t, "the last of Ends "+what, last, c.last)
	}
}

// P1001: Half by hand: how many of few there are.
func TestHalf(t *testing.T) {
	for _, c := range []struct{ order, want []int }{
		{nil, nil},
		{[]int{8}, []int{8}},
		{[]int{8, 2}, []int{8}},
		{[]int{8, 2, 5}, []int{8, 2}},
		{[]int{8, 2, 5, 1}, []int{8, 2}},
		{[]int{8, 2, 5, 1, 9}, []int{8, 2, 5}},
		{[]int{3, 3, 3}, []int{3, 3}},
		{[]int{-1, math.MinInt, math.MaxInt, 4}, []int{-1, math.MinInt}},
	} {
		same(t, "Half of "+strconv.Itoa(len(c.order))+" numbers", line.Half(c.order), c.want)
	}
}

// P1001: Ends and Half of each count up to a few hundred, and of some great ones.
func TestCounts(t *testing.T) {
	counts := []int{api.MaxVerts - 1, api.MaxVerts, api.MaxVerts + 1, 1 << 20}
	for n := range 300 {
		counts = append(counts, n)
	}
	for _, n := range counts {
		order := numbers(n)
		first, last := line.Ends(order)
		k := quarter(n)
		what := " of " + strconv.Itoa(n)
		if !slices.Equal(first, order[:k]) || !slices.Equal(last, order[n-k:]) {
			t.Errorf("P1001: Ends%s: %d and %d; want the first and last %d", what, len(first), len(last), k)
		}
		if n > 1 && (4*len(first) < n || 4*(len(first)-1) >= n || len(first) != len(last)) {
			t.Errorf("P1001: Ends%s: %d and %d are no fourth part", what, len(first), len(last))
		}
		half := line.Half(order)
		if !slices.Equal(half, order[:(n+1)/2]) || 2*len(half) != n && 2*len(half) != n+1 {
			t.Errorf("P1001: Half%s: %d", what, len(half))
		}
	}
}

// sided is a side of n, as many of which are true as marked, from place at on and round.
func sided(n, marked, at int) []bool {
	side := make([]bool, n)
	for i := range marked {
		side[(at+i)%n] = true
	}
	return side
}

// P1001: Fair by hand, at its edges.
func TestFair(t *testing.T) {
	for _, c := range []struct {
		n           int
		least, most int // from how many to how many that are true it is fair
	}{
		{0, 1, 0}, {1, 1, 0}, {2, 1, 1}, {3, 1, 2}, {4, 1, 3}, {5, 2, 3}, {6, 2, 4}, {7, 2, 5}, {8, 2, 6}, {9, 3, 6}, {12, 3, 9}, {13, 4, 9},
		{4096, 1024, 3072}, {4097, 1025, 3072}, {4093, 1024, 3069}, {4092, 1023, 3069},
	} {
		for marked := range c.n + 1 {
			want := c.least <= marked && marked <= c.most
			for _, at := range []int{0, c.n / 3, c.n - marked} {
				if got := line.Fair(sided(c.n, marked, at)); got != want {
					t.Fatalf("P1001: Fair of %d of %d, from %d on: %v", marked, c.n, at, got)
				}
			}
		}
	}
}

// P1001: Fair of more than a net has vertices.
func TestFairGreat(t *testing.T) {
	for _, n := range []int{1 << 14, 1<<20 + 1} {
		k := quarter(n)
		for _, marked := range []int{0, 1, k - 1, k, k + 1, n / 2, n - k - 1, n - k, n - k + 1, n - 1, n} {
			if got := line.Fair(sided(n, marked, 5)); got != (k <= marked && marked <= n-k) {
				t.Errorf("P1001: Fair of %d of %d: %v", marked, n, got)
			}
		}
	}
}

// P1001: Fair of all sides of few.
func TestFairAll(t *testing.T) {
	for n := range 13 {
		for code := range 1 << n {
			side, count := make([]bool, n), [2]int{}
			for i := range side {
				side[i] = code>>i&1 > 0
				count[code>>i&1]++
			}
			want := n >= 2 && count[0] >= quarter(n) && count[1] >= quarter(n)
			if got := line.Fair(side); got != want {
				t.Fatalf("P1001: Fair of %v: %v", side, got)
			}
		}
	}
}

// P1001: what stands at the first end, and Half, are fair against the rest, as soon as there are two.
func TestTogether(t *testing.T) {
	throw := dice(5)
	for n := range 60 {
		pts := thrown(throw, n, 1+throw(30))
		for dir := range 4 {
			order := line.Order(pts, dir)
			first, last := line.Ends(order)
			for i, set := range [][]int{first, last, line.Half(order)} {
				side := make([]bool, n)
				for _, at := range set {
					side[at] = true
				}
				if got := line.Fair(side); got != (n >= 2) {
					t.Errorf("P1001: Fair of %d of %d points: %v", i, n, got)
				}
				if n < 2 {
					continue
				}
				side[set[0]] = false
				if got := line.Fair(side); got && i < 2 {
					t.Errorf("P1001: Fair of one less than an end has, of %d", n)
				}
			}
		}
	}
}

// P1, P8: of points that may not be each call ends and doesn't panic, and changes nothing.
func TestNoPoints(t *testing.T) {
	far := []int{math.MinInt, math.MinInt + 1, -1 << 62, -1 << 32, -api.MaxCoord - 1, -1, 0, 1, api.MaxCoord + 1, 1 << 32, 1 << 62, math.MaxInt - 1, math.MaxInt}
	var pts [][2]int
	for _, x := range far {
		for _, y := range far {
			pts = append(pts, [2]int{x, y})
		}
	}
	was := slices.Clone(pts)
	for _, dir := range dirs() {
		for _, p := range pts {
			line.Key(p, dir)
		}
		line.Order(pts, dir)
		line.Order(pts[:1], dir)
	}
	if !slices.Equal(pts, was) {
		t.Error("P2: what was handed in is changed")
	}
}

// spare is l with some spare room that has something in it.
func spare[T any](l []T, with ...T) []T {
	return append(slices.Clone(l), with...)[:len(l)]
}

// spoil writes over a list, its spare room too.
func spoil[T any](l []T, with T) {
	l = l[:cap(l)]
	for i := range l {
		l[i] = with
	}
}

// P2: what is handed in, its spare room too, is not changed, and counts for nothing.
func TestHandedIn(t *testing.T) {
	for n := range 20 {
		pts := spare(thrown(dice(6), n, 5), [2]int{-far, -far}, [2]int{far, far}, [2]int{0, 0})
		order := spare(numbers(n), 77, -77, 0)
		side := spare(sided(max(n, 1), n/3, 0)[:n], true, false, true)
		allPts, allOrder, allSide := slices.Clone(pts[:n+3]), slices.Clone(order[:n+3]), slices.Clone(side[:n+3])
		what := " of " + strconv.Itoa(n) + " with spare room"
		for dir := range 5 {
			same(t, "Order"+what, line.Order(pts, dir), ordered(pts, dir))
		}
		first, last := line.Ends(order)
		same(t, "the first of Ends"+what, first, order[:quarter(n)])
		same(t, "the last of Ends"+what, last, order[n-quarter(n):])
		same(t, "Half"+what, line.Half(order), order[:(n+1)/2])
		if got := line.Fair(side); got != (n >= 2 && n/3 >= quarter(n)) {
			t.Errorf("P1001: Fair%s: %v", what, got)
		}
		// Nor is it when an answer is written over, or added to.
		for _, l := range [][]int{line.Order(pts, 2), first, last, line.Half(order)} {
			spoil(l, -9)
			l = append(l, -8, -7)
			spoil(l, -6)
		}
		if !slices.Equal(pts[:n+3], allPts) || !slices.Equal(order[:n+3], allOrder) || !slices.Equal(side[:n+3], allSide) {
			t.Errorf("P2: what was handed in, %d of each, is %v, %v, %v", n, pts[:n+3], order[:n+3], side[:n+3])
		}
	}
}

// P2, P3: what is told is new memory each time, shared by no two lists; and the same calls tell the same.
func TestMemory(t *testing.T) {
	for n := range 20 {
		pts, order := thrown(dice(7), n, 3), numbers(n)
		k, h := quarter(n), (n+1)/2
		for dir := range 5 {
			row := line.Order(pts, dir)
			want := slices.Clone(row)
			spoil(line.Order(pts, dir), -1)
			same(t, "P2: Order, where another is spoilt", row, want)
			same(t, "P3: Order again", line.Order(pts, dir), want)
		}
		for range 3 {
			first, last := line.Ends(order)
			half := line.Half(order)
			same(t, "P3: the first of Ends again", first, numbers(n)[:k])
			same(t, "P3: the last of Ends again", last, numbers(n)[n-k:])
			same(t, "P3: Half again", half, numbers(n)[:h])
			spoil(first, -1)
			same(t, "P2: the last of Ends, where the first is spoilt", last, numbers(n)[n-k:])
			same(t, "P2: Half, where the first of Ends is spoilt", half, numbers(n)[:h])
			spoil(first, -2)
			wasFirst := slices.Clone(first)
			spoil(last, -3)
			same(t, "P2: the first of Ends, where the last is spoilt", first, wasFirst)
			spoil(half, -4)
			same(t, "P2: what was handed in, where all answers are spoilt", order, numbers(n))
		}
		// What was handed in is not kept: it is written over, and the answers stay.
		first, last := line.Ends(order)
		half := line.Half(order)
		spoil(order, -5)
		same(t, "P2: the first of Ends, where what was handed in is spoilt", first, numbers(n)[:k])
		same(t, "P2: the last of Ends, where what was handed in is spoilt", last, numbers(n)[n-k:])
		same(t, "P2: Half, where what was handed in is spoilt", half, numbers(n)[:h])
	}
}

// P2: no list and an empty one are the same.
func TestEmpty(t *testing.T) {
	for dir := range 5 {
		same(t, "Order of nothing", line.Order(nil, dir), nil)
		same(t, "Order of an empty list", line.Order([][2]int{}, dir), nil)
	}
	for _, order := range [][]int{nil, {}} {
		first, last := line.Ends(order)
		same(t, "the first of Ends of nothing", first, nil)
		same(t, "the last of Ends of nothing", last, nil)
		same(t, "Half of nothing", line.Half(order), nil)
	}
	if line.Fair(nil) || line.Fair([]bool{}) {
		t.Error("P1001: Fair of nothing")
	}
}

// P3: the same is told whichever calls were ahead, also of several at once.
func TestAtOnce(t *testing.T) {
	pts := thrown(dice(8), 3000, 50)
	var want [5][]int
	for dir := range want {
		want[dir] = line.Order(pts, dir)
	}
	var all sync.WaitGroup
	for range 4 {
		all.Go(func() {
			for dir, row := range want {
				if got := line.Order(pts, dir); !slices.Equal(got, row) {
					t.Errorf("P3: Order along %d is another one", dir)
				}
				first, last := line.Ends(row)
				if !slices.Equal(first, row[:750]) || !slices.Equal(last, row[2250:]) || !slices.Equal(line.Half(row), row[:1500]) {
					t.Errorf("P3: Ends or Half along %d are other ones", dir)
				}
			}
		})
	}
	all.Wait()
}
