package heap_test

import (
	"math"
	"slices"
	"strconv"
	"testing"

	"roundsman/api"
	"roundsman/heap"
)

// item is a key that is in, and at what.
type item struct {
	k int
	c int64
}

// plain is what the chapter's words come to, without a Heap: at what each key is in, of n of them.
type plain struct {
	n  int
	in map[int]int64
}

func plainly(n int) *plain {
	return &plain{n: n, in: map[int]int64{}}
}

func (p *plain) put(k int, c int64) bool {
	c = max(0, min(c, 1<<60))
	old, ok := p.in[k]
	if k < 0 || k >= p.n || ok && old <= c {
		return false
	}
	p.in[k] = c
	return true
}

func (p *plain) pop() (int, int64, bool) {
	for k := range p.n {
		c, ok := p.in[k]
		if ok && !slices.ContainsFunc(p.keys(), func(j int) bool { return p.in[j] < c }) {
			delete(p.in, k)
			return k, c, true
		}
	}
	return 0, 0, false
}

func (p *plain) keys() []int {
	var l []int
	for k := range p.n {
		if _, ok := p.in[k]; ok {
			l = append(l, k)
		}
	}
	return l
}

// pair is a Heap, and what it has to be. Each of its calls is done to both.
type pair struct {
	t    *testing.T
	what string
	h    *heap.Heap
	p    *plain
}

func (b pair) put(k int, c int64) bool {
	b.t.Helper()
	got, want := b.h.Put(k, c), b.p.put(k, c)
	if got != want {
		b.t.Errorf("P701: %s: Put(%d, %d): %v", b.what, k, c, got)
	}
	return got
}

func (b pair) pop() bool {
	b.t.Helper()
	k, c, ok := b.h.Pop()
	wantK, wantC, want := b.p.pop()
	if k != wantK || c != wantC || ok != want {
		b.t.Errorf("P701: %s: Pop: %d, %d, %v; want %d, %d, %v", b.what, k, c, ok, wantK, wantC, want)
	}
	return ok
}

func (b pair) clear() {
	b.h.Clear()
	clear(b.p.in)
}

// is looks at all that a Heap tells without being changed.
func (b pair) is() {
	b.t.Helper()
	if got := b.h.Len(); got != len(b.p.in) {
		b.t.Errorf("P701: %s: Len: %d; want %d", b.what, got, len(b.p.in))
	}
	for k := -1; k <= b.p.n; k++ {
		want, in := b.p.in[k]
		if got, ok := b.h.Cost(k); got != want || ok != in {
			b.t.Errorf("P701: %s: Cost(%d): %d, %v; want %d, %v", b.what, k, got, ok, want, in)
		}
	}
}

// ends pops all, and looks at what is left behind each.
func (b pair) ends() {
	b.t.Helper()
	for b.pop() {
		b.is()
	}
	b.is()
}

// empty is a Heap of n keys that nothing is in, beside what it has to be.
func empty(t *testing.T, what string, n int) pair {
	return pair{t: t, what: what, h: heap.New(n), p: plainly(n)}
}

// filled is a Heap of n keys that l were put into, in their order.
func filled(t *testing.T, n int, l ...item) *heap.Heap {
	t.Helper()
	h := heap.New(n)
	for _, it := range l {
		if !h.Put(it.k, it.c) {
			t.Errorf("P701: Put(%d, %d): false", it.k, it.c)
		}
	}
	return h
}

// popped takes all out of h, in the order in which it tells them.
func popped(h *heap.Heap) []item {
	var l []item
	for {
		k, c, ok := h.Pop()
		if !ok {
			return l
		}
		l = append(l, item{k, c})
	}
}

// pops looks at all that h tells by Pop, from the first to the last, and that nothing is left then.
func pops(t *testing.T, what string, h *heap.Heap, want ...item) {
	t.Helper()
	if h.Len() != len(want) {
		t.Errorf("P701: %s: Len: %d; want %d", what, h.Len(), len(want))
	}
	if got := popped(h); !slices.Equal(got, want) {
		t.Errorf("P701: %s: popped %v; want %v", what, got, want)
	}
	holdsNone(t, what, h)
}

// holdsNone looks at a Heap that nothing is in: P4 has zeros beside each false.
func holdsNone(t *testing.T, what string, h *heap.Heap) {
	t.Helper()
	if k, c, ok := h.Pop(); k != 0 || c != 0 || ok {
		t.Errorf("P4, P701: %s: Pop of none: %d, %d, %v", what, k, c, ok)
	}
	if h.Len() != 0 {
		t.Errorf("P701: %s: Len of none: %d", what, h.Len())
	}
	for _, k := range append(noKeys(), 0, 1, 2, 3, api.MaxArcs-1) {
		isOut(t, what, h, k)
	}
}

// at looks at what k is in.
func at(t *testing.T, what string, h *heap.Heap, k int, want int64) {
	t.Helper()
	if c, ok := h.Cost(k); c != want || !ok {
		t.Errorf("P701: %s: Cost(%d): %d, %v; want %d", what, k, c, ok, want)
	}
}

// isOut looks at k that is not in.
func isOut(t *testing.T, what string, h *heap.Heap, k int) {
	t.Helper()
	if c, ok := h.Cost(k); c != 0 || ok {
		t.Errorf("P4, P701: %s: Cost(%d) of none: %d, %v", what, k, c, ok)
	}
}

// noKeys are numbers that are no key of any Heap.
func noKeys() []int {
	return []int{
		math.MinInt, math.MinInt + 1, -1 << 60, -1 << 32, -1 << 31, -api.MaxArcs, -2, -1,
		api.MaxArcs, api.MaxArcs + 1, 2 * api.MaxArcs, 1 << 16, 1 << 31, 1 << 32, 1 << 48, 1 << 60, 1 << 62, math.MaxInt - 1, math.MaxInt,
	}
}

// P9's other edge, P701: n is held to what it may be, and the keys are those from 0 to n - 1 then, no others.
func TestNew(t *testing.T) {
	for _, c := range []struct{ n, keys int }{
		{math.MinInt, 0}, {-1 << 32, 0}, {-api.MaxArcs, 0}, {-2, 0}, {-1, 0}, {0, 0},
		{1, 1}, {2, 2}, {3, 3}, {100, 100}, {api.MaxArcs - 1, api.MaxArcs - 1}, {api.MaxArcs, api.MaxArcs},
		{api.MaxArcs + 1, api.MaxArcs}, {2 * api.MaxArcs, api.MaxArcs}, {1 << 32, api.MaxArcs}, {1 << 48, api.MaxArcs}, {math.MaxInt, api.MaxArcs},
	} {
		what := "New(" + strconv.Itoa(c.n) + ")"
		h := heap.New(c.n)
		if h == nil {
			t.Fatalf("P701: %s: nil", what)
		}
		holdsNone(t, what, h)
		for _, k := range append(noKeys(), c.keys, c.keys+1) {
			if h.Put(k, 5) {
				t.Errorf("P701: %s: Put(%d, 5) of no key", what, k)
			}
		}
		holdsNone(t, what, h)
		for k := range c.keys {
			isOut(t, what, h, k)
			if !h.Put(k, 7) {
				t.Errorf("P701: %s: Put(%d, 7): false", what, k)
			}
		}
		if h.Len() != c.keys {
			t.Errorf("P701: %s: Len: %d; want %d", what, h.Len(), c.keys)
		}
		for k := range c.keys {
			if k2, c2, ok := h.Pop(); k2 != k || c2 != 7 || !ok {
				t.Errorf("P701: %s: Pop: %d, %d, %v; want %d, 7", what, k2, c2, ok, k)
			}
		}
		holdsNone(t, what, h)
	}
}

// P701: the least cost first; of those at the same cost the least key, whoever came first.
func TestPop(t *testing.T) {
	for what, c := range map[string]struct{ put, want []item }{
		"none":                  {nil, nil},
		"one":                   {[]item{{2, 4}}, []item{{2, 4}}},
		"key 0 at 0":            {[]item{{0, 0}}, []item{{0, 0}}},
		"rising":                {[]item{{0, 1}, {1, 2}, {2, 3}, {3, 4}}, []item{{0, 1}, {1, 2}, {2, 3}, {3, 4}}},
		"falling":               {[]item{{0, 4}, {1, 3}, {2, 2}, {3, 1}}, []item{{3, 1}, {2, 2}, {1, 3}, {0, 4}}},
		"keys against costs":    {[]item{{3, 1}, {0, 9}, {2, 2}, {1, 5}}, []item{{3, 1}, {2, 2}, {1, 5}, {0, 9}}},
		"alike, rising":         {[]item{{0, 6}, {1, 6}, {2, 6}, {3, 6}, {4, 6}}, []item{{0, 6}, {1, 6}, {2, 6}, {3, 6}, {4, 6}}},
		"alike, falling":        {[]item{{4, 6}, {3, 6}, {2, 6}, {1, 6}, {0, 6}}, []item{{0, 6}, {1, 6}, {2, 6}, {3, 6}, {4, 6}}},
		"alike at 0":            {[]item{{3, 0}, {1, 0}, {0, 0}}, []item{{0, 0}, {1, 0}, {3, 0}}},
		"alike at Inf":          {[]item{{3, api.Inf}, {1, api.Inf}, {0, api.Inf}}, []item{{0, api.Inf}, {1, api.Inf}, {3, api.Inf}}},
		"alike as they're held": {[]item{{3, -1}, {1, 0}, {0, math.MinInt64}, {4, math.MaxInt64}, {2, api.Inf}}, []item{{0, 0}, {1, 0}, {3, 0}, {2, api.Inf}, {4, api.Inf}}},
		"two and two":           {[]item{{4, 2}, {3, 1}, {2, 2}, {1, 1}}, []item{{1, 1}, {3, 1}, {2, 2}, {4, 2}}},
		"bettered, to be first": {[]item{{0, 3}, {1, 5}, {2, 9}, {2, 1}}, []item{{2, 1}, {0, 3}, {1, 5}}},
		"bettered, to be alike": {[]item{{2, 5}, {1, 7}, {1, 5}}, []item{{1, 5}, {2, 5}}},
		"bettered, still last":  {[]item{{0, 3}, {1, 5}, {2, 9}, {2, 6}}, []item{{0, 3}, {1, 5}, {2, 6}}},
		"wide apart":            {[]item{{0, api.Inf}, {1, api.Inf - 1}, {2, 1}, {3, 0}}, []item{{3, 0}, {2, 1}, {1, api.Inf - 1}, {0, api.Inf}}},
		"costs above 32 bits":   {[]item{{0, 1 << 32}, {1, 1<<32 + 1}, {2, 1 << 31}, {3, 1}}, []item{{3, 1}, {2, 1 << 31}, {0, 1 << 32}, {1, 1<<32 + 1}}},
	} {
		pops(t, what, filled(t, 5, c.put...), c.want...)
	}
}

// P3, P701: in whichever order they come, the same is told.
func TestAnyOrder(t *testing.T) {
	want := []item{{1, 0}, {4, 0}, {0, 3}, {2, 3}, {5, 3}, {3, api.Inf}}
	l := slices.Clone(want)
	count := 0
	var each func(n int)
	each = func(n int) {
		if n == len(l) {
			count++
			pops(t, "any order", filled(t, 6, l...), want...)
			return
		}
		for i := n; i < len(l); i++ {
			l[n], l[i] = l[i], l[n]
			each(n + 1)
			l[n], l[i] = l[i], l[n]
		}
	}
	each(0)
	if count != 720 {
		t.Errorf("just %d orders", count)
	}
}

// W1, P701: c is held to what a cost may be, ahead of being looked at.
func TestPutHeld(t *testing.T) {
	for _, c := range []struct{ c, want int64 }{
		{math.MinInt64, 0}, {math.MinInt64 + 1, 0}, {-api.Inf, 0}, {-2, 0}, {-1, 0}, {0, 0},
		{1, 1}, {1<<31 - 1, 1<<31 - 1}, {1 << 31, 1 << 31}, {1<<31 + 1, 1<<31 + 1}, {1 << 32, 1 << 32}, {api.Inf/2 + 1, api.Inf/2 + 1},
		{api.Inf - 1, api.Inf - 1}, {api.Inf, 1 << 60}, {api.Inf + 1, 1 << 60}, {2 * api.Inf, 1 << 60}, {math.MaxInt64, 1 << 60},
	} {
		h := filled(t, 3, item{1, c.c})
		at(t, "held", h, 1, c.want)
		// Again it isn't less, as it is held.
		if h.Put(1, c.c) || h.Put(1, c.want) || h.Put(1, c.want+1) || h.Put(1, math.MaxInt64) {
			t.Errorf("P701: Put(1, %d) again", c.c)
		}
		if got, want := h.Put(1, c.want-1), c.want > 0; got != want {
			t.Errorf("P701: Put(1, %d) behind %d: %v", c.want-1, c.c, got)
		}
		at(t, "held, bettered", h, 1, max(c.want-1, 0))
		if got, want := h.Put(1, math.MinInt64), c.want > 1; got != want {
			t.Errorf("P701: Put(1, least) behind %d: %v", c.want-1, got)
		}
		pops(t, "held, at last", h, item{1, 0})
	}
}

// P701: one that is in is at less from then on, but never at more, nor at the same; nothing is done then.
func TestPutAgain(t *testing.T) {
	h := filled(t, 4, item{0, 10}, item{1, 20}, item{2, 30})
	for _, c := range []struct {
		k    int
		c    int64
		want bool
	}{
		{1, 20, false}, {1, 21, false}, {1, api.Inf, false}, {1, math.MaxInt64, false}, {1, 19, true}, {1, 19, false}, {1, 20, false},
		{2, 10, true}, {2, 10, false}, {2, 30, false}, {2, 11, false}, {0, 11, false}, {0, 10, false}, {1, 0, true}, {1, 0, false}, {1, -1, false}, {1, 19, false},
	} {
		if got := h.Put(c.k, c.c); got != c.want {
			t.Errorf("P701: Put(%d, %d): %v", c.k, c.c, got)
		}
		if h.Len() != 3 {
			t.Errorf("P701: Put(%d, %d): Len: %d", c.k, c.c, h.Len())
		}
	}
	isOut(t, "again", h, 3)
	for k, c := range []int64{10, 0, 10} {
		at(t, "again", h, k, c)
	}
	pops(t, "again", h, item{1, 0}, item{0, 10}, item{2, 10})
}

// P701: a key that was taken out may be put in again, at less, at the same and at more, as one that never was in.
func TestPutBehindPop(t *testing.T) {
	for _, c := range []int64{0, 4, 5, 6, 8, api.Inf} {
		h := filled(t, 3, item{1, 5}, item{2, 7})
		if k, _, _ := h.Pop(); k != 1 {
			t.Errorf("P701: Pop: %d", k)
		}
		isOut(t, "behind Pop", h, 1)
		at(t, "behind Pop", h, 2, 7)
		if h.Len() != 1 || !h.Put(1, c) || h.Len() != 2 {
			t.Errorf("P701: Put(1, %d) behind Pop; Len: %d", c, h.Len())
		}
		at(t, "put in again", h, 1, c)
		if h.Put(1, c) {
			t.Errorf("P701: Put(1, %d) twice behind Pop", c)
		}
		if c < 7 {
			pops(t, "put in again", h, item{1, c}, item{2, 7})
		} else {
			pops(t, "put in again", h, item{2, 7}, item{1, c})
		}
	}
}

// P1, P4, P701: of no such key nothing is done and nothing is told, whatever number it is.
func TestNoKey(t *testing.T) {
	for _, n := range []int{0, 1, 5, api.MaxArcs} {
		b := empty(t, "no key", n)
		for k := range min(n, 5) {
			b.put(k, int64(9-k))
		}
		for _, k := range append(noKeys(), n, n+1, n+2) {
			for _, c := range []int64{math.MinInt64, -1, 0, 1, 9, api.Inf, math.MaxInt64} {
				if b.h.Put(k, c) {
					t.Errorf("P701: Put(%d, %d) of %d keys", k, c, n)
				}
			}
			isOut(t, "no key", b.h, k)
			if b.h.Len() != min(n, 5) {
				t.Errorf("P701: Len: %d behind Put(%d) of %d keys", b.h.Len(), k, n)
			}
		}
		b.is()
		b.ends()
	}
}

// P701: Cost and Len change nothing, and tell the same when they are asked again.
func TestAsked(t *testing.T) {
	b := empty(t, "asked", 9)
	for k := range 9 {
		b.put(k, int64(k*5%9))
	}
	for range 3 {
		b.is()
	}
	for b.pop() {
		b.is()
		b.is()
	}
}

// P701: behind Clear none is in; the keys are as many as ahead, and each may be put in at any cost.
func TestClear(t *testing.T) {
	for n := range 7 {
		for in := range n + 1 {
			b := empty(t, "cleared", n)
			for k := range in {
				b.put(n-1-k, int64(k*7%5))
			}
			b.clear()
			b.is()
			holdsNone(t, "cleared", b.h)
			for k := n; k >= -1; k-- {
				b.put(k, api.Inf-int64(k%2))
				b.is()
			}
			b.pop()
			b.clear()
			b.is()
			b.clear()
			b.is()
			for k := range n {
				b.put(k, int64(k/2))
			}
			b.ends()
		}
	}
	h := heap.New(-3)
	h.Clear()
	holdsNone(t, "no keys, cleared", h)
}

// P7: each New answers a Heap of its own.
func TestApart(t *testing.T) {
	a, b := heap.New(4), heap.New(4)
	if a == b || heap.New(0) == nil {
		t.Error("P7, P701: the same one")
	}
	a.Put(1, 5)
	holdsNone(t, "the other one", b)
	b.Put(1, 9)
	b.Put(2, 1)
	at(t, "the first one", a, 1, 5)
	isOut(t, "the first one", a, 2)
	b.Pop()
	a.Clear()
	holdsNone(t, "the first one, cleared", a)
	pops(t, "the other one", b, item{1, 9})
}

// P701: as many as may be are in at once, are bettered, and come out in their order.
func TestFull(t *testing.T) {
	const n = api.MaxArcs
	h := heap.New(n)
	for k := range n {
		if !h.Put(k, int64(2*n-k)) {
			t.Fatalf("P701: Put(%d) of the most", k)
		}
	}
	var want []item
	for i := range n {
		k := i * 5 % n
		c := int64(k * 7 % 1000)
		if !h.Put(k, c) {
			t.Fatalf("P701: Put(%d, %d) of the most, bettered", k, c)
		}
		want = append(want, item{k, c})
	}
	slices.SortFunc(want, func(a, b item) int {
		if a.c != b.c {
			return int(a.c - b.c)
		}
		return a.k - b.k
	})
	if h.Len() != n {
		t.Errorf("P701: Len: %d", h.Len())
	}
	pops(t, "the most", h, want...)
}

// replay does calls to a Heap of three keys and to what it has to be, each call by a digit to the base of 12.
func replay(t *testing.T, code, calls int) {
	t.Helper()
	b := empty(t, "calls "+strconv.Itoa(code)+" of "+strconv.Itoa(calls), 3)
	for range calls {
		switch call := code % 12; {
		case call < 9:
			b.put(call/3, int64(call%3))
		case call == 9:
			b.put(3, 0)
		case call == 10:
			b.pop()
		default:
			b.clear()
		}
		code /= 12
	}
	b.is()
	b.ends()
}

// P3, P701: all rows of five calls of three keys and three costs, held against the chapter's words.
func TestAllCalls(t *testing.T) {
	for code := range 12 * 12 * 12 * 12 * 12 {
		replay(t, code, 5)
		if t.Failed() {
			return
		}
	}
}

// dice tell numbers below what they are asked for, the same ones each time.
func dice(seed uint64) func(int) int {
	return func(n int) int {
		seed = seed*6364136223846793005 + 1442695040888963407
		return int(seed >> 33 % uint64(n))
	}
}

// thrownCost is any number; often one that others are at too, so that keys are held against each other.
func thrownCost(throw func(int) int) int64 {
	switch throw(12) {
	case 0:
		return -int64(throw(5))
	case 1:
		return api.Inf + int64(throw(5)-2)
	case 2:
		return math.MaxInt64 - int64(throw(2))
	case 3:
		return int64(throw(1<<30)) << 29
	}
	return int64(throw(20))
}

// P3, P701: many thrown calls of greater Heaps, held against the chapter's words.
func TestThrown(t *testing.T) {
	throw, put, refused, popped := dice(7), 0, 0, 0
	for range 300 {
		b := empty(t, "thrown", throw(40))
		// How often it is popped hangs on the Heap, so that some are nearly empty always, and some full.
		often := 2 + throw(12)
		for range 150 {
			switch {
			case throw(often) == 0:
				if b.pop() {
					popped++
				}
			case throw(200) == 0:
				b.clear()
			case b.put(throw(b.p.n+2)-1, thrownCost(throw)):
				put++
			default:
				refused++
			}
			b.is()
		}
		b.ends()
		if t.Failed() {
			return
		}
	}
	if put < 5000 || refused < 5000 || popped < 5000 {
		t.Errorf("just %d were put in or bettered, %d refused, %d popped", put, refused, popped)
	}
}
