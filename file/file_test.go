package file_test

import (
	"bytes"
	"encoding/binary"
	"encoding/hex"
	"errors"
	"math"
	"reflect"
	"slices"
	"strings"
	"testing"

	"roundsman/api"
	"roundsman/file"
	"roundsman/net"
	"roundsman/turn"
	"roundsman/wire"
)

// refused looks at the whole of a refusal: P12's Fault, and the Errno right within.
func refused(t *testing.T, what string, err error, part string, at int, want api.Errno) {
	t.Helper()
	f, ok := err.(*api.Fault)
	if !ok || f == nil {
		t.Errorf("P12: %s: %v is no Fault; want %s %d: %v", what, err, part, at, want)
		return
	}
	if *f != (api.Fault{Part: part, At: at, Err: want}) {
		t.Errorf("%s: %v; want %s %d: %v", what, err, part, at, want)
	}
}

// notParsed looks at bytes that Parse refuses, and at there being nothing beside the error.
func notParsed(t *testing.T, what string, b []byte, part string, at int, want api.Errno) {
	t.Helper()
	n, err := file.Parse(b)
	refused(t, "P502: "+what, err, part, at, want)
	nothing(t, what, n)
}

// nothing looks at a net that has to be none.
func nothing(t *testing.T, what string, n net.Net) {
	t.Helper()
	if n.Verts != nil || n.Arcs != nil || n.Types != nil {
		t.Errorf("P4, T3: %s: beside an error there is %v", what, n)
	}
}

// parsed looks at bytes that Parse takes, and tells their net.
func parsed(t *testing.T, what string, b []byte) net.Net {
	t.Helper()
	n, err := file.Parse(b)
	if err != nil {
		t.Errorf("P502: %s: %v", what, err)
	}
	return n
}

// likeCheck looks at an error that has to be just as net.Check's of n is, and no less than one.
func likeCheck(t *testing.T, what string, err error, n net.Net) {
	t.Helper()
	want := net.Check(n)
	if want == nil || !reflect.DeepEqual(err, want) {
		t.Errorf("P11: %s: %v; want net.Check's: %v", what, err, want)
	}
}

// made is the net that most tests go over. Its last Type is nobody's.
func made() net.Net {
	return net.Net{
		Verts: []net.Vert{{X: 5, Y: -3, Type: 1}, {X: -7, Y: 200, Type: 2}, {X: -7, Y: 199, Type: 0}},
		Arcs:  []net.Arc{{From: 0, To: 1, W: 10}, {From: 1, To: 0, W: api.Inf}, {From: 1, To: 1, W: 0}, {From: 0, To: 1, W: api.MaxWeight}},
		Types: []turn.Table{
			{},
			{Ins: 1, Outs: 2, Costs: []int64{127, api.Inf}},
			{Ins: 3, Outs: 2, Costs: []int64{0, 1, 126, api.MaxWeight, api.Inf, 300}},
			{Ins: 16, Outs: 0},
		},
	}
}

// madeBody are the bytes of made between the mark and the Sum, by hand.
func madeBody() []byte {
	return []byte{
		4, 3, 4,
		0, 0,
		1, 2, 128, 1, 0,
		3, 2, 1, 2, 127, 129, 128, 128, 128, 8, 0, 173, 2,
		16, 0,
		10, 5, 1, // 5, -3
		23, 150, 3, 2, // -12, 203
		0, 1, 0, // 0, -1
		0, 1, 11,
		1, 0, 0,
		1, 1, 1,
		0, 1, 129, 128, 128, 128, 8,
	}
}

// with is made, but otherwise.
func with(change func(n *net.Net)) net.Net {
	n := made()
	change(&n)
	return n
}

// clone is n in memory of its own.
func clone(n net.Net) net.Net {
	n.Verts, n.Arcs, n.Types = slices.Clone(n.Verts), slices.Clone(n.Arcs), slices.Clone(n.Types)
	for i := range n.Types {
		n.Types[i].Costs = slices.Clone(n.Types[i].Costs)
	}
	return n
}

// summed is b with its Sum behind it.
func summed(b []byte) []byte {
	return append(slices.Clone(b), wire.Sum(b)...)
}

// framed is a file of these bytes between its mark and its Sum.
func framed(body ...byte) []byte {
	return summed(append([]byte("RND1"), body...))
}

// numbers are the bytes of l, one behind the other.
func numbers(l ...uint64) []byte {
	var b []byte
	for _, v := range l {
		b = binary.AppendUvarint(b, v)
	}
	return b
}

// folded is v as the number that Int tells.
func folded(v int) uint64 {
	u, _ := binary.Uvarint(binary.AppendVarint(nil, int64(v)))
	return u
}

// priced is a cost as the number that a file has for it.
func priced(c int64) uint64 {
	if c == api.Inf {
		return 0
	}
	return uint64(c + 1)
}

// plainNumbers are the numbers of a file of n, one by one, by the chapter's words.
func plainNumbers(n net.Net) []uint64 {
	l := []uint64{uint64(len(n.Types)), uint64(len(n.Verts)), uint64(len(n.Arcs))}
	for _, t := range n.Types {
		l = append(l, uint64(t.Ins), uint64(t.Outs))
		for _, c := range t.Costs {
			l = append(l, priced(c))
		}
	}
	for i, v := range n.Verts {
		x, y := v.X, v.Y
		if i > 0 {
			x, y = x-n.Verts[i-1].X, y-n.Verts[i-1].Y
		}
		l = append(l, folded(x), folded(y), uint64(v.Type))
	}
	for _, a := range n.Arcs {
		l = append(l, uint64(a.From), uint64(a.To), priced(a.W))
	}
	return l
}

// plainFile is a file of n, whatever n is.
func plainFile(n net.Net) []byte {
	return framed(numbers(plainNumbers(n)...)...)
}

// plainParse reads b by the chapter's words, one after the other.
func plainParse(b []byte) (n net.Net, err error) {
	switch {
	case len(b) > 65536:
		return n, &api.Fault{Part: "file", Err: api.ErrLong}
	case len(b) < 8:
		return n, &api.Fault{Part: "file", Err: api.ErrShort}
	case !bytes.Equal(wire.Sum(b[:len(b)-4]), b[len(b)-4:]):
		return n, &api.Fault{Part: "file", Err: api.ErrSum}
	case string(b[:4]) != "RND1":
		return n, &api.Fault{Part: "file", Err: api.ErrForm}
	}
	r := wire.New(b[4 : len(b)-4])
	// The first error that there is ends all reading.
	defer func() {
		if e := recover(); e != nil {
			n, err = net.Net{}, e.(error)
		}
	}()
	next := func(most uint64) int {
		v := r.Uint(most)
		if r.Err() != nil {
			panic(r.Err())
		}
		return int(v)
	}
	step := func() int {
		v := r.Int(2 << 20)
		if r.Err() != nil {
			panic(r.Err())
		}
		return int(v)
	}
	price := func() int64 {
		if v := next(1<<31 + 1); v > 0 {
			return int64(v - 1)
		}
		return 1 << 60
	}
	types, verts, arcs := next(256), next(4096), next(16384)
	for range types {
		t := turn.Table{Ins: next(16)}
		t.Outs = next(16)
		for range t.Ins * t.Outs {
			t.Costs = append(t.Costs, price())
		}
		n.Types = append(n.Types, t)
	}
	x, y := 0, 0
	for range verts {
		x += step()
		y += step()
		n.Verts = append(n.Verts, net.Vert{X: x, Y: y, Type: next(16384)})
	}
	for range arcs {
		a := net.Arc{From: next(16384)}
		a.To = next(16384)
		a.W = price()
		n.Arcs = append(n.Arcs, a)
	}
	if err := r.Done(); err != nil {
		return net.Net{}, err
	}
	if err := net.Check(n); err != nil {
		return net.Net{}, err
	}
	return n, nil
}

// dice throws numbers, the same ones each time.
type dice uint64

// throw tells a number from 0 on and below n.
func (d *dice) throw(n int) int {
	*d = *d*6364136223846793005 + 1442695040888963407
	return int(uint64(*d>>33) % uint64(n))
}

// price throws a cost.
func (d *dice) price() int64 {
	switch d.throw(5) {
	case 0:
		return api.Inf
	case 1:
		return int64(d.throw(3))
	case 2:
		return int64(api.MaxWeight - d.throw(2))
	}
	return int64(d.throw(api.MaxWeight) >> d.throw(31))
}

// place throws what X or Y may be.
func (d *dice) place() int {
	switch d.throw(4) {
	case 0:
		return api.MaxCoord - d.throw(2)
	case 1:
		return d.throw(2) - api.MaxCoord
	}
	return (d.throw(2*api.MaxCoord+1) - api.MaxCoord) >> d.throw(21)
}

// table throws a table of these.
func (d *dice) table(ins, outs int) turn.Table {
	t := turn.Table{Ins: ins, Outs: outs}
	for range ins * outs {
		t.Costs = append(t.Costs, d.price())
	}
	return t
}

// net throws a net that net.Check takes.
func (d *dice) net() net.Net {
	var n net.Net
	verts, types := d.throw(8), d.throw(4)
	if verts > 0 && d.throw(5) > 0 {
		for range d.throw(16) {
			n.Arcs = append(n.Arcs, net.Arc{From: d.throw(verts), To: d.throw(verts), W: d.price()})
		}
	}
	for range types {
		n.Types = append(n.Types, d.table(d.throw(17), d.throw(5)))
	}
	for v := range verts {
		n.Verts = append(n.Verts, net.Vert{X: d.place(), Y: d.place(), Type: len(n.Types)})
		n.Types = append(n.Types, d.table(len(net.Ins(net.Net{Verts: make([]net.Vert, verts), Arcs: n.Arcs}, v)), len(net.Outs(net.Net{Verts: make([]net.Vert, verts), Arcs: n.Arcs}, v))))
	}
	return n
}

// ofSize is a net of which a file has just that many bytes; its tables are nobody's.
func ofSize(size int) net.Net {
	n := net.Net{Types: make([]turn.Table, 200)}
	left := size - len(plainFile(n)) - 200*256
	for i := range n.Types {
		n.Types[i] = turn.Table{Ins: 16, Outs: 16, Costs: make([]int64, 256)}
		for k := range n.Types[i].Costs {
			// A cost of 0 is of one byte, and the greatest of five.
			if more := min(left, 4); more > 0 {
				n.Types[i].Costs[k] = 1 << (7 * more)
				left -= more
			}
		}
	}
	return n
}

// P501: the bytes, by hand.
func TestEncode(t *testing.T) {
	for _, c := range []struct {
		what string
		n    net.Net
		body []byte
	}{
		{"none", net.Net{}, []byte{0, 0, 0}},
		{"none, empty lists", net.Net{Verts: []net.Vert{}, Arcs: []net.Arc{}, Types: []turn.Table{}}, []byte{0, 0, 0}},
		{"an empty table", net.Net{Types: []turn.Table{{Costs: []int64{}}}}, []byte{1, 0, 0, 0, 0}},
		{"a table", net.Net{Types: []turn.Table{{Ins: 1, Outs: 1, Costs: []int64{5}}}}, []byte{1, 0, 0, 1, 1, 6}},
		{"a vertex", net.Net{Types: []turn.Table{{}}, Verts: []net.Vert{{X: -api.MaxCoord, Y: api.MaxCoord}}}, []byte{1, 1, 0, 0, 0, 255, 255, 127, 128, 128, 128, 1, 0}},
		{"two vertices, from end to end", net.Net{Types: []turn.Table{{}}, Verts: []net.Vert{{X: -api.MaxCoord, Y: api.MaxCoord}, {X: api.MaxCoord, Y: -api.MaxCoord}}},
			[]byte{1, 2, 0, 0, 0, 255, 255, 127, 128, 128, 128, 1, 0, 128, 128, 128, 2, 255, 255, 255, 1, 0}},
		{"made", made(), madeBody()},
	} {
		want := framed(c.body...)
		got, err := file.Encode(c.n)
		if err != nil || !slices.Equal(got, want) {
			t.Errorf("P501: %s: %v, %v; want %v", c.what, got, err, want)
		}
		if n := parsed(t, c.what, want); !net.Same(n, c.n) {
			t.Errorf("T5, P502: %s: %v; want %v", c.what, n, c.n)
		}
	}
	// A Sum that was worked out by hand.
	if got, _ := file.Encode(net.Net{}); !slices.Equal(got, []byte{82, 78, 68, 49, 0, 0, 0, 20, 0, 36, 0}) {
		t.Errorf("P501: none: %v", got)
	}
}

// T5, P501: what is written is read as it was, and is just the bytes that the chapter tells.
func TestThereAndBack(t *testing.T) {
	d := dice(501)
	for round := range 600 {
		n := d.net()
		b, err := file.Encode(n)
		if err != nil || !slices.Equal(b, plainFile(n)) {
			t.Fatalf("P501: round %d: %v, %v; want %v", round, b, err, plainFile(n))
		}
		if m := parsed(t, "thrown", b); !net.Same(m, n) {
			t.Fatalf("T5: round %d: %v; want %v", round, m, n)
		}
	}
}

// P501, P502: just MaxText bytes, and one more.
func TestLongest(t *testing.T) {
	for _, size := range []int{60000, api.MaxText - 3, api.MaxText - 2, api.MaxText - 1, api.MaxText} {
		n := ofSize(size)
		b, err := file.Encode(n)
		if err != nil || len(b) != size || !slices.Equal(b, plainFile(n)) {
			t.Errorf("P501: a net of %d bytes: of %d, %v", size, len(b), err)
		}
		if m := parsed(t, "a long one", b); !net.Same(m, n) {
			t.Errorf("T5: a net of %d bytes is read otherwise", size)
		}
	}
	for _, size := range []int{api.MaxText + 1, api.MaxText + 2, api.MaxText + 3, api.MaxText + 4, api.MaxText + 5, 2 * api.MaxText} {
		n := ofSize(size)
		b, err := file.Encode(n)
		refused(t, "P501: too long", err, "file", 0, api.ErrLong)
		if len(b) != 0 {
			t.Errorf("P4: beside ErrLong there are %d bytes", len(b))
		}
		if b = plainFile(n); len(b) != size {
			t.Fatalf("the test's own net is of %d bytes; want %d", len(b), size)
		}
		notParsed(t, "too long", b, "file", 0, api.ErrLong)
	}
}

// P501, P502: as many of each as there may be. So many arcs take more bytes than a file has, for each vertex has at most 16 of them.
func TestMostOfEach(t *testing.T) {
	n := net.Net{Verts: make([]net.Vert, api.MaxVerts), Arcs: make([]net.Arc, api.MaxArcs), Types: make([]turn.Table, api.MaxTypes)}
	n.Types[255] = turn.Table{Ins: 4, Outs: 4, Costs: make([]int64, 16)}
	for i := range n.Verts {
		n.Verts[i] = net.Vert{X: i % 3, Type: 255}
	}
	for i := range n.Arcs {
		n.Arcs[i] = net.Arc{From: i % api.MaxVerts, To: i % api.MaxVerts}
	}
	if err := net.Check(n); err != nil {
		t.Fatalf("the test's own net: %v", err)
	}
	b, err := file.Encode(n)
	refused(t, "P501: more than MaxText bytes", err, "file", 0, api.ErrLong)
	if len(b) != 0 {
		t.Errorf("P4: beside ErrLong there are %d bytes", len(b))
	}
	n.Arcs, n.Types[255] = nil, turn.Table{}
	b, err = file.Encode(n)
	if m := parsed(t, "the most vertices and Types", b); err != nil || !net.Same(m, n) {
		t.Errorf("T5: the most vertices and Types: %v, or they are read otherwise", err)
	}
}

// wrong are nets that net.Check does not take.
func wrong() []net.Net {
	return []net.Net{
		{Verts: make([]net.Vert, api.MaxVerts+1), Types: make([]turn.Table, 1)},
		{Arcs: make([]net.Arc, api.MaxArcs+1)},
		{Types: make([]turn.Table, api.MaxTypes+1)},
		{Verts: make([]net.Vert, 5000), Arcs: make([]net.Arc, 17000), Types: make([]turn.Table, 300)},
		with(func(n *net.Net) { n.Types[1].Ins = -1 }),
		with(func(n *net.Net) { n.Types[2].Outs = 17 }),
		with(func(n *net.Net) { n.Types[3].Costs = make([]int64, 1) }),
		with(func(n *net.Net) { n.Types[2].Costs = n.Types[2].Costs[:5] }),
		with(func(n *net.Net) { n.Types[2].Costs[5] = -1 }),
		with(func(n *net.Net) { n.Types[2].Costs[5] = math.MinInt64 }),
		with(func(n *net.Net) { n.Types[2].Costs[5] = api.MaxWeight + 1 }),
		with(func(n *net.Net) { n.Types[2].Costs[5] = api.Inf + 1 }),
		with(func(n *net.Net) { n.Types[3] = turn.Table{Ins: math.MaxInt, Outs: math.MaxInt} }),
		with(func(n *net.Net) { n.Verts[1].X = api.MaxCoord + 1 }),
		with(func(n *net.Net) { n.Verts[2].Y = math.MinInt }),
		with(func(n *net.Net) { n.Verts[0].Type = 4 }),
		with(func(n *net.Net) { n.Verts[0].Type = -1 }),
		with(func(n *net.Net) { n.Arcs[3].From = 3 }),
		with(func(n *net.Net) { n.Arcs[3].To = -1 }),
		with(func(n *net.Net) { n.Arcs[2].W = api.MaxWeight + 1 }),
		with(func(n *net.Net) { n.Arcs[2].W = -1 }),
		with(func(n *net.Net) { n.Arcs = n.Arcs[:3] }),
		with(func(n *net.Net) { n.Verts[2].Type = 3 }),
		with(func(n *net.Net) { n.Arcs = append(n.Arcs, slices.Repeat([]net.Arc{{From: 2, To: 2}}, 17)...) }),
	}
}

// P11, P501: net.Check's error goes up as it is.
func TestEncodeOfWrongNets(t *testing.T) {
	for i, n := range wrong() {
		was := clone(n)
		b, err := file.Encode(n)
		likeCheck(t, "P501: Encode", err, n)
		if len(b) != 0 {
			t.Errorf("P4: %d: beside %v there is %v", i, err, b)
		}
		if !net.Same(n, was) {
			t.Errorf("P2: %d: Encode changes what it refuses", i)
		}
	}
	// P6: ahead of there being too many bytes.
	n := ofSize(2 * api.MaxText)
	n.Types[199].Costs[255] = -1
	_, err := file.Encode(n)
	likeCheck(t, "P501: Encode of too many bytes", err, n)
}

// P502: what is wrong with a file, whatever its numbers are.
func TestFrame(t *testing.T) {
	good := framed(madeBody()...)
	for size := range 8 {
		notParsed(t, "fewer than eight", good[:size], "file", 0, api.ErrShort)
		notParsed(t, "fewer than eight, of 0", make([]byte, size), "file", 0, api.ErrShort)
	}
	notParsed(t, "none", nil, "file", 0, api.ErrShort)
	notParsed(t, "seven, and a Sum that is right", summed([]byte("RND")), "file", 0, api.ErrShort)
	notParsed(t, "just eight: no numbers", framed(), "byte", 0, api.ErrShort)
	notParsed(t, "eight, a wrong Sum", []byte("RND1RND1"), "file", 0, api.ErrSum)
	notParsed(t, "eight of 0: the Sum of 0 is 0", make([]byte, 8), "file", 0, api.ErrForm)
	notParsed(t, "no Sum", good[:len(good)-4], "file", 0, api.ErrSum)
	notParsed(t, "a byte behind", append(slices.Clone(good), 0), "file", 0, api.ErrSum)
	for i := range good {
		for _, v := range []byte{1, 2, 4, 8, 16, 32, 64, 128, 255} {
			b := slices.Clone(good)
			b[i] ^= v
			notParsed(t, "a byte is another one", b, "file", 0, api.ErrSum)
		}
		if i > 0 && good[i-1] != good[i] {
			b := slices.Clone(good)
			b[i-1], b[i] = b[i], b[i-1]
			notParsed(t, "two bytes are changed over", b, "file", 0, api.ErrSum)
		}
	}
	for i := range 4 {
		for v := range 256 {
			b := slices.Clone(good[:len(good)-4])
			if b[i] == byte(v) {
				continue
			}
			b[i] = byte(v)
			notParsed(t, "it begins otherwise", summed(b), "file", 0, api.ErrForm)
		}
	}
	for _, s := range []string{"rnd1", "RND2", "RND0", "1DNR", " RND", "ND1\x00"} {
		notParsed(t, "it begins otherwise", summed(append([]byte(s), madeBody()...)), "file", 0, api.ErrForm)
	}
}

// P6, P502: ErrLong, ErrShort, ErrSum, ErrForm, wire's, net.Check's.
func TestOrderOfErrors(t *testing.T) {
	long := make([]byte, api.MaxText+1)
	notParsed(t, "too long, and it begins otherwise", long, "file", 0, api.ErrLong)
	long[9] = 1
	notParsed(t, "too long, and its Sum is wrong too", long, "file", 0, api.ErrLong)
	notParsed(t, "of the most bytes, its Sum is wrong", long[:api.MaxText], "file", 0, api.ErrSum)
	notParsed(t, "too short, and its Sum is wrong", []byte{1, 2, 3, 4, 5, 6, 7}, "file", 0, api.ErrShort)
	notParsed(t, "its Sum is wrong, and it begins otherwise", []byte("rnd1\x00\x00\x00\x01\x00\x01\x00"), "file", 0, api.ErrSum)
	notParsed(t, "it begins otherwise, and a number is wrong", summed([]byte("rnd1\xff")), "file", 0, api.ErrForm)
	// A vertex without a Type, far off, and then an arc that costs too much, or a byte too many.
	far := []uint64{0, 1, 1, folded(2 * api.MaxCoord), 0, 9, 7, 7}
	notParsed(t, "an arc that costs too much", framed(numbers(append(slices.Clone(far), api.MaxWeight+2)...)...), "byte", 11, api.ErrRange)
	notParsed(t, "a byte too many", framed(numbers(append(slices.Clone(far), 0, 0)...)...), "byte", 12, api.ErrLong)
	notParsed(t, "a vertex that is far off", framed(numbers(append(slices.Clone(far), 0)...)...), "vert", 0, api.ErrArg)
	far[3] = 0
	notParsed(t, "a vertex of no Type", framed(numbers(append(slices.Clone(far), 0)...)...), "vert", 0, api.ErrName)
}

// P502: each number may be just so much.
func TestMost(t *testing.T) {
	for _, e := range []struct {
		what  string
		ahead []uint64
		most  uint64
	}{
		{"Types", nil, api.MaxTypes}, {"Verts", []uint64{0}, api.MaxVerts}, {"Arcs", []uint64{0, 0}, api.MaxArcs},
		{"Verts behind Types", []uint64{256}, api.MaxVerts}, {"Arcs behind Verts", []uint64{256, 4096}, api.MaxArcs},
		{"Ins", []uint64{1, 0, 0}, api.MaxDeg}, {"Outs", []uint64{1, 0, 0, 16}, api.MaxDeg}, {"Outs of no Ins", []uint64{2, 0, 0, 0}, api.MaxDeg},
		{"a cost", []uint64{1, 0, 0, 1, 2}, api.MaxWeight + 1}, {"the next cost", []uint64{1, 0, 0, 1, 3, 0}, api.MaxWeight + 1},
		{"Ins of the next Type", []uint64{2, 0, 0, 1, 1, 5}, api.MaxDeg},
		{"X", []uint64{0, 1, 0}, 4 * api.MaxCoord}, {"Y", []uint64{0, 1, 0, 0}, 4 * api.MaxCoord}, {"Type", []uint64{0, 1, 0, 0, 0}, api.MaxArcs},
		{"X of the next", []uint64{0, 2, 0, 0, 0, 0}, 4 * api.MaxCoord}, {"Y of the next", []uint64{0, 2, 0, 0, 0, 0, 3}, 4 * api.MaxCoord}, {"Type of the next", []uint64{0, 2, 0, 0, 0, 0, 3, 3}, api.MaxArcs},
		{"From", []uint64{0, 0, 1}, api.MaxArcs}, {"To", []uint64{0, 0, 1, 0}, api.MaxArcs}, {"W", []uint64{0, 0, 2, 0, 0}, api.MaxWeight + 1},
		{"From of the next", []uint64{0, 0, 2, 0, 0, 7}, api.MaxArcs}, {"To of the next", []uint64{0, 0, 2, 0, 0, 7, 1}, api.MaxArcs},
	} {
		place := len(numbers(e.ahead...))
		// Just the most is taken: it is the next number, or what is told of the net, that is missed.
		at := framed(numbers(append(slices.Clone(e.ahead), e.most)...)...)
		_, err := file.Parse(at)
		if _, want := plainParse(at); !reflect.DeepEqual(err, want) || err.Error() == fault(place, api.ErrRange).Error() {
			t.Errorf("P502: %s of %d: %v; want %v", e.what, e.most, err, want)
		}
		for _, v := range []uint64{e.most + 1, math.MaxUint64} {
			for _, behind := range [][]uint64{nil, {0}, {0, 0, 0, 0, 0, 0}} {
				over := slices.Concat(e.ahead, []uint64{v}, behind)
				notParsed(t, e.what+" of more", framed(numbers(over...)...), "byte", place, api.ErrRange)
			}
		}
	}
	// Below 0 it is the amount: the greatest step is of 2 times MaxCoord, either way.
	notParsed(t, "a step down of one more", framed(numbers(0, 1, 0, 4*api.MaxCoord+1)...), "byte", 3, api.ErrRange)
	notParsed(t, "the greatest step down", framed(numbers(0, 1, 0, 4*api.MaxCoord-1, 0, 0)...), "vert", 0, api.ErrArg)
	notParsed(t, "the greatest step up", framed(numbers(0, 1, 0, 4*api.MaxCoord, 0, 0)...), "vert", 0, api.ErrArg)
	// Numbers that wire takes, and that net.Check doesn't.
	notParsed(t, "a Type of MaxArcs", plainFile(with(func(n *net.Net) { n.Verts[0].Type = api.MaxArcs })), "vert", 0, api.ErrName)
	notParsed(t, "an arc from MaxArcs", plainFile(with(func(n *net.Net) { n.Arcs[2].From = api.MaxArcs })), "arc", 2, api.ErrName)
	notParsed(t, "an arc to MaxArcs", plainFile(with(func(n *net.Net) { n.Arcs[1].To = api.MaxArcs })), "arc", 1, api.ErrName)
}

// fault is an error of wire's.
func fault(at int, e api.Errno) error {
	return &api.Fault{Part: "byte", At: at, Err: e}
}

// P11, P502: net.Check's error goes up as it is.
func TestParseOfWrongNets(t *testing.T) {
	count := 0
	for _, n := range wrong() {
		// A file has no numbers below 0, and no more costs than a table needs: what else it may have is net.Check's to say.
		b := plainFile(n)
		if m, err := plainParse(b); err != nil && net.Check(n) != nil && err.Error() == net.Check(n).Error() {
			count++
			got, err := file.Parse(b)
			likeCheck(t, "P502: Parse", err, n)
			nothing(t, "Parse", got)
			nothing(t, "the test's own", m)
		}
	}
	if count < 6 {
		t.Errorf("of the wrong nets only %d can be told in a file", count)
	}
}

// P502: bytes that end too early, each time at the number that is not whole; and bytes that are left.
func TestCutShort(t *testing.T) {
	for _, n := range []net.Net{made(), {}, {Types: make([]turn.Table, 200)}} {
		l, at := plainNumbers(n), 0
		body := numbers(l...)
		for _, v := range l {
			size := len(numbers(v))
			for k := range size {
				notParsed(t, "cut short", framed(body[:at+k]...), "byte", at, api.ErrShort)
			}
			at += size
		}
		for _, more := range [][]byte{{0}, {255}, {1, 2, 3}, wire.Sum(body), bytes.Repeat([]byte{255}, 11)} {
			notParsed(t, "bytes are left", framed(append(slices.Clone(body), more...)...), "byte", len(body), api.ErrLong)
		}
	}
}

// P502: a number of more bytes than it needs, or of no 64 bits, is none, wherever it stands.
func TestNoNumbers(t *testing.T) {
	l, at := plainNumbers(made()), 0
	body := numbers(l...)
	for _, v := range l {
		size := len(numbers(v))
		for _, c := range []struct {
			b    []byte
			want api.Errno
		}{
			{[]byte{128, 0}, api.ErrForm}, {append(bytes.Repeat([]byte{255}, 9), 2), api.ErrForm}, {bytes.Repeat([]byte{128}, 10), api.ErrForm}, {append(bytes.Repeat([]byte{255}, 9), 1), api.ErrRange},
		} {
			notParsed(t, "no number", framed(slices.Concat(body[:at], c.b, body[at+size:])...), "byte", at, c.want)
		}
		at += size
	}
}

// T3, T5, P502: thrown bytes are read as the chapter's words have them, and what is read is written as it was.
func TestThrown(t *testing.T) {
	d := dice(502)
	seen := map[api.Errno]int{}
	for round := range 6000 {
		b := d.file()
		was := slices.Clone(b)
		n, err := file.Parse(b)
		m, want := plainParse(b)
		if !reflect.DeepEqual(err, want) || !net.Same(n, m) {
			t.Fatalf("P502: round %d: %v: %v, %v; want %v, %v", round, b, n, err, m, want)
		}
		if !slices.Equal(b, was) {
			t.Fatalf("P2: round %d: Parse changes what is handed in", round)
		}
		if err != nil {
			nothing(t, "thrown", n)
			seen[errno(err)]++
			continue
		}
		seen[api.OK]++
		if again, err := file.Encode(n); err != nil || !slices.Equal(again, b) {
			t.Fatalf("T5, P502: round %d: %v is read, and written as %v, %v", round, b, again, err)
		}
	}
	for _, e := range []api.Errno{api.OK, api.ErrArg, api.ErrForm, api.ErrShort, api.ErrLong, api.ErrName, api.ErrRange, api.ErrTurn} {
		if seen[e] < 10 {
			t.Errorf("of thrown bytes only %d end with %v", seen[e], e)
		}
	}
}

// errno is what is wrong in an error.
func errno(err error) api.Errno {
	var e api.Errno
	errors.As(err, &e)
	return e
}

// file throws a file with a Sum that is right, in which a number or a byte is often another one.
func (d *dice) file() []byte {
	l := plainNumbers(d.net())
	for range d.throw(3) {
		i := d.throw(len(l))
		switch d.throw(5) {
		case 0:
			l[i] = uint64(d.throw(api.MaxWeight)) >> d.throw(31)
		case 1:
			l[i] += uint64(d.throw(3)) - 1
		case 2:
			l = slices.Delete(l, i, i+1)
			l = append(l, 0)
		case 3:
			l = slices.Insert(l, i, uint64(d.throw(20)))
		default:
			l[i] = uint64(4*api.MaxCoord + d.throw(3) - 1)
		}
	}
	body := numbers(l...)
	switch d.throw(8) {
	case 0:
		body = body[:d.throw(len(body)+1)]
	case 1:
		body[d.throw(len(body))] = byte(d.throw(256))
	}
	return framed(body...)
}

// P503: two digits for each byte, and back.
func TestHex(t *testing.T) {
	var all []byte
	for v := range 256 {
		b := []byte{byte(v)}
		all = append(all, b...)
		if got, want := file.Hex(b), hex.EncodeToString(b); got != want || len(got) != 2 {
			t.Errorf("P503: Hex(%v) = %q; want %q", b, got, want)
		}
	}
	for _, c := range []struct {
		b    []byte
		want string
	}{
		{nil, ""}, {[]byte{}, ""}, {[]byte{0}, "00"}, {[]byte{255}, "ff"}, {[]byte{0x0a, 0xa0, 0x9f, 0xf9}, "0aa09ff9"}, {[]byte("RND1"), "524e4431"},
		{[]byte{1, 0x23, 0x45, 0x67, 0x89, 0xab, 0xcd, 0xef}, "0123456789abcdef"}, {all, hex.EncodeToString(all)},
		{bytes.Repeat(all, 600), strings.Repeat(hex.EncodeToString(all), 600)}, // more than a file or a text has
	} {
		if got := file.Hex(c.b); got != c.want {
			t.Errorf("P503: Hex of %d bytes is of %d; want %d", len(c.b), len(got), len(c.want))
		}
		if got, err := file.Unhex(c.want); err != nil || !slices.Equal(got, c.b) {
			t.Errorf("T5, P503: Unhex of %d bytes: %d, %v; want %d", len(c.want), len(got), err, len(c.b))
		}
	}
	for x := range 256 {
		for y := range 256 {
			s := string([]byte{byte(x), byte(y)})
			got, err := file.Unhex(s)
			want, no := hex.DecodeString(s)
			if strings.ToLower(s) == s && no == nil {
				if err != nil || !slices.Equal(got, want) {
					t.Errorf("P503: Unhex(%q): %v, %v; want %v", s, got, err, want)
				}
			} else if err == nil || len(got) != 0 {
				t.Errorf("P4, P503: Unhex(%q) tells %v, %v", s, got, err)
			}
		}
	}
}

// P503: the first byte that is no digit; else, of an odd number of bytes, the last one.
func TestNoHex(t *testing.T) {
	long := strings.Repeat("0f", 2*api.MaxText)
	for _, c := range []struct {
		s  string
		at int
	}{
		{"0", 0}, {"f", 0}, {"000", 2}, {"12345", 4}, {"abcdefabcde", 10}, {long + "7", len(long)}, {long[1:], len(long) - 2},
		{"g", 0}, {"A", 0}, {"F", 0}, {"aF", 1}, {"0G", 1}, {"0A00", 1}, {"000g", 3}, {"00g", 2}, {"00g0", 2}, {"g0", 0}, {"gh", 0}, {"0gh", 1}, {"00Bg00h", 2},
		{" 00", 0}, {"00 ", 2}, {"0 0", 1}, {"00\n", 2}, {"0x00", 1}, {"-1", 0}, {"+1", 0}, {"1_1", 1}, {"/0", 0}, {":0", 0}, {"0`", 1}, {"0@", 1}, {"\x0000", 0},
		{"é", 0}, {"00é", 2}, {"0é0", 1}, {"\xff", 0}, {"00\x80", 2}, {"ab\xc3", 2}, {"12٣4", 2}, {"1２", 1},
		{long + "g", len(long)}, {long + "g" + long, len(long)}, {"G" + long, 0},
	} {
		b, err := file.Unhex(c.s)
		refused(t, "P503: Unhex", err, "file", c.at, api.ErrForm)
		if len(b) != 0 {
			t.Errorf("P4, P503: beside %v there are %d bytes", err, len(b))
		}
	}
	for v := range 256 {
		if v < 128 && strings.IndexByte("0123456789abcdef", byte(v)) >= 0 {
			continue
		}
		_, err := file.Unhex("00000" + string([]byte{byte(v)}) + "00")
		refused(t, "P503: Unhex, no digit", err, "file", 5, api.ErrForm)
	}
}

// spoil writes over b and its spare room.
func spoil(b []byte) {
	b = b[:cap(b)]
	for i := range b {
		b[i] ^= 0x5A
	}
}

// P2: what is handed in, its spare room too, stays as it was.
func TestHandedInStays(t *testing.T) {
	good := framed(madeBody()...)
	room := append(slices.Clone(good), bytes.Repeat([]byte{77}, 40)...)
	was := slices.Clone(room)
	parsed(t, "with spare room", room[:len(good)])
	file.Hex(room[:5])
	notParsed(t, "its end in the spare room", room[:len(good)-1], "file", 0, api.ErrSum)
	if !slices.Equal(room, was) {
		t.Errorf("P2: Parse or Hex changes what is handed in: %v", room)
	}
	n := made()
	types := append(n.Types, turn.Table{Ins: 9, Outs: 9})
	verts, arcs := append(n.Verts, net.Vert{X: 9}), append(n.Arcs, net.Arc{From: 9})
	n.Types, n.Verts, n.Arcs = types[:4], verts[:3], arcs[:4]
	n.Types[1].Costs = append(n.Types[1].Costs, 99)[:2]
	b, err := file.Encode(n)
	if err != nil || !slices.Equal(b, good) {
		t.Errorf("P501: of lists with spare room: %v, %v", b, err)
	}
	if !net.Same(n, made()) || n.Types[1].Costs[:3][2] != 99 || types[4].Ins != 9 || verts[3].X != 9 || arcs[4].From != 9 {
		t.Error("P2: Encode changes what is handed in")
	}
}

// P2: what is told is new memory, its spare room too.
func TestAnswersAreNew(t *testing.T) {
	for range 2 {
		good := framed(madeBody()...)
		b, err := file.Encode(made())
		if err != nil || !slices.Equal(b, good) {
			t.Fatalf("P2: Encode tells what was written over: %v", b)
		}
		n := parsed(t, "again", b)
		spoil(b)
		if !net.Same(n, made()) {
			t.Fatalf("P2: Parse keeps the bytes, or tells what was written over: %v", n)
		}
		spoilNet(n)
		none, _ := file.Encode(net.Net{})
		spoil(none)
		got, _ := file.Unhex("00ff")
		if !slices.Equal(got, []byte{0, 255}) {
			t.Fatalf("P2: Unhex tells what was written over: %v", got)
		}
		spoil(got)
		empty, _ := file.Unhex("")
		spoil(empty)
	}
}

// spoilNet writes over all lists of n and their spare room.
func spoilNet(n net.Net) {
	for i := range n.Types {
		costs := n.Types[i].Costs[:cap(n.Types[i].Costs)]
		for k := range costs {
			costs[k] = -9
		}
	}
	clear(n.Types[:cap(n.Types)])
	clear(n.Verts[:cap(n.Verts)])
	clear(n.Arcs[:cap(n.Arcs)])
}

// P2: no two lists of one answer share any room.
func TestListsAreApart(t *testing.T) {
	n := parsed(t, "made", framed(madeBody()...))
	for i := range n.Types {
		was := clone(n)
		c := n.Types[i].Costs
		was.Types[i].Costs = nil
		for k := range c[:cap(c)] {
			c[:cap(c)][k] = -5
		}
		n.Types[i].Costs = nil
		if !net.Same(n, was) {
			t.Errorf("P2: the Costs of Type %d share room with others: %v; want %v", i, n, was)
		}
	}
}

// P12: errors.Is finds the Errno, errors.As the outermost Fault, and each error is a new one.
func TestFaults(t *testing.T) {
	deep := framed(numbers(1, 0, 0, 1, 1, api.MaxWeight+2)...)
	sum := framed(0, 0, 0)
	sum[4] = 1
	for _, c := range []struct {
		what string
		f    func() error
		want api.Errno
		text string
	}{
		{"Encode, net.Check's", func() error { _, err := file.Encode(with(func(n *net.Net) { n.Types[2].Costs[3] = -1 })); return err }, api.ErrRange, "type 2: turn 6: range"},
		{"Encode, too long", func() error { _, err := file.Encode(ofSize(api.MaxText + 1)); return err }, api.ErrLong, "file 0: long"},
		{"Parse, its own", func() error { _, err := file.Parse(sum); return err }, api.ErrSum, "file 0: sum"},
		{"Parse, wire's", func() error { _, err := file.Parse(deep); return err }, api.ErrRange, "byte 5: range"},
		{"Parse, wire's Done", func() error { _, err := file.Parse(framed(0, 0, 0, 0)); return err }, api.ErrLong, "byte 3: long"},
		{"Parse, net.Check's", func() error { _, err := file.Parse(framed(0, 1, 0, 0, 0, 0)); return err }, api.ErrName, "vert 0: name"},
		{"Unhex, no digit", func() error { _, err := file.Unhex("0g"); return err }, api.ErrForm, "file 1: form"},
		{"Unhex, odd", func() error { _, err := file.Unhex("000"); return err }, api.ErrForm, "file 2: form"},
	} {
		for range 2 {
			err := c.f()
			var f *api.Fault
			if err == nil || !errors.Is(err, c.want) || !errors.As(err, &f) || err.Error() != c.text || error(f) != err {
				t.Fatalf("P12: %s: %v; want %s", c.what, err, c.text)
			}
			*f = api.Fault{Part: "spoilt", At: 5, Err: api.ErrNone}
		}
	}
}

// P3: the same calls answer the same, whatever was asked between.
func TestTheSameAgain(t *testing.T) {
	good := framed(madeBody()...)
	for range 3 {
		b, err := file.Encode(made())
		n, wrong := file.Parse(good)
		if err != nil || wrong != nil || !slices.Equal(b, good) || !net.Same(n, made()) || file.Hex(good) != hex.EncodeToString(good) {
			t.Fatalf("P3: %v, %v, %v, %v", b, err, n, wrong)
		}
		file.Parse(good[:20])
		file.Parse(framed(9, 9, 9))
		file.Encode(ofSize(70000))
		file.Unhex("zz")
	}
}

// P1: whatever is handed in, each call ends.
func TestAnyBytes(t *testing.T) {
	d := dice(1)
	for range 3000 {
		b := make([]byte, d.throw(40))
		for i := range b {
			b[i] = byte(d.throw(256) >> d.throw(9))
		}
		if n, err := file.Parse(b); err == nil {
			t.Errorf("P502: thrown bytes %v are a net: %v", b, n)
		}
		n, err := file.Parse(framed(b...))
		m, want := plainParse(framed(b...))
		if !reflect.DeepEqual(err, want) || !net.Same(n, m) {
			t.Fatalf("P502: %v: %v, %v; want %v, %v", b, n, err, m, want)
		}
		if got, err := file.Unhex(file.Hex(b)); err != nil || !slices.Equal(got, b) {
			t.Fatalf("T5, P503: %v: %v, %v", b, got, err)
		}
		file.Unhex(string(b))
	}
}
