package wire_test

import (
	"bytes"
	"encoding/binary"
	"errors"
	"math"
	"math/big"
	"slices"
	"testing"

	"roundsman/api"
	"roundsman/wire"
)

// refused looks at the whole of a refusal: P12's Fault, and the Errno right within.
func refused(t *testing.T, what string, err error, at int, want api.Errno) {
	t.Helper()
	f, ok := err.(*api.Fault)
	if !ok || f == nil {
		t.Errorf("P12, P402: %s: %v is no Fault", what, err)
		return
	}
	if *f != (api.Fault{Part: "byte", At: at, Err: want}) {
		t.Errorf("P402: %s: %v; want byte %d: %v", what, err, at, want)
	}
}

// stopped looks at a Reader behind an error: it is told by Err and Done, and again, all answers are zero, and the place stays.
func stopped(t *testing.T, what string, r *wire.Reader, at int, want api.Errno) {
	t.Helper()
	refused(t, what, r.Err(), at, want)
	for range 2 {
		if v := r.Uint(math.MaxUint64); v != 0 {
			t.Errorf("P402: %s: behind it Uint told %d", what, v)
		}
		if v := r.Int(math.MaxUint64); v != 0 {
			t.Errorf("P402: %s: behind it Int told %d", what, v)
		}
		for _, n := range []int{1, 0, -1, math.MaxInt} {
			if b := r.Bytes(n); len(b) != 0 {
				t.Errorf("P402: %s: behind it Bytes(%d) told %v", what, n, b)
			}
		}
		if r.At() != at {
			t.Errorf("P402: %s: behind it At is %d; want %d", what, r.At(), at)
		}
		refused(t, what+": Err", r.Err(), at, want)
		refused(t, what+": Done", r.Done(), at, want)
	}
}

// going looks at a Reader that nothing was wrong with.
func going(t *testing.T, what string, r *wire.Reader, at int) {
	t.Helper()
	if r.Err() != nil || r.At() != at {
		t.Errorf("P402: %s: %v, at %d; want at %d", what, r.Err(), r.At(), at)
	}
}

// full are n bytes that each say that the number goes on, and then these.
func full(n int, more ...byte) []byte {
	return append(bytes.Repeat([]byte{255}, n), more...)
}

// edges are the numbers about which the count of bytes or of bits changes, and some between.
func edges() []uint64 {
	l := []uint64{0, 1, 2, 3, 300, 1 << 20, 1<<31 + 1, uint64(api.Inf), math.MaxUint64, math.MaxUint64 - 1, 0xAAAAAAAAAAAAAAAA, 0x5555555555555555, 0x0102030405060708}
	for k := range 64 {
		l = append(l, 1<<k-1, 1<<k, 1<<k+1)
	}
	return l
}

// dice throws numbers, the same ones each time.
type dice uint64

// throw tells a number from 0 on and below n.
func (d *dice) throw(n int) int {
	*d = *d*6364136223846793005 + 1442695040888963407
	return int(uint64(*d>>33) % uint64(n))
}

// number tells one of 64 bits, as often of few as of many.
func (d *dice) number() uint64 {
	v := uint64(d.throw(1<<31))<<33 ^ uint64(d.throw(1<<31))<<11 ^ uint64(d.throw(1<<11))
	return v >> d.throw(64)
}

// some are up to n bytes, among them many that stand at an edge.
func (d *dice) some(n int) []byte {
	b := make([]byte, d.throw(n+1))
	for i := range b {
		switch d.throw(4) {
		case 0:
			b[i] = byte(d.throw(3))
		case 1:
			b[i] = byte(126 + d.throw(4))
		case 2:
			b[i] = byte(253 + d.throw(3))
		default:
			b[i] = byte(d.throw(256))
		}
	}
	return b
}

// P401: seven bits a byte, the lowest first.
func TestUint(t *testing.T) {
	for _, c := range []struct {
		v    uint64
		want []byte
	}{
		{0, []byte{0}}, {1, []byte{1}}, {127, []byte{127}}, {128, []byte{128, 1}}, {129, []byte{129, 1}}, {255, []byte{255, 1}}, {256, []byte{128, 2}},
		{300, []byte{172, 2}}, {16383, []byte{255, 127}}, {16384, []byte{128, 128, 1}}, {1<<21 - 1, []byte{255, 255, 127}}, {1 << 21, []byte{128, 128, 128, 1}},
		{1 << 31, []byte{128, 128, 128, 128, 8}}, {1 << 56, []byte{128, 128, 128, 128, 128, 128, 128, 128, 1}},
		{1<<63 - 1, full(8, 127)}, {1 << 63, []byte{128, 128, 128, 128, 128, 128, 128, 128, 128, 1}}, {math.MaxUint64, full(9, 1)},
	} {
		if got := wire.Uint(c.v); !slices.Equal(got, c.want) {
			t.Errorf("P401: Uint(%d) = %v; want %v", c.v, got, c.want)
		}
	}
}

// P401: of any number, no byte more than it needs.
func TestUintAny(t *testing.T) {
	d := dice(401)
	l := edges()
	for range 2000 {
		l = append(l, d.number())
	}
	for _, v := range l {
		got := wire.Uint(v)
		if want := binary.AppendUvarint(nil, v); !slices.Equal(got, want) {
			t.Errorf("P401: Uint(%d) = %v; want %v", v, got, want)
		}
		if need := max(1, (big.NewInt(0).SetUint64(v).BitLen()+6)/7); len(got) != need {
			t.Errorf("P401: Uint(%d) is of %d bytes; needs %d", v, len(got), need)
		}
	}
}

// P401: twice v, or, below 0, -1 less twice v.
func TestInt(t *testing.T) {
	for _, c := range []struct {
		v    int64
		want []byte
	}{
		{0, []byte{0}}, {-1, []byte{1}}, {1, []byte{2}}, {-2, []byte{3}}, {2, []byte{4}}, {63, []byte{126}}, {-64, []byte{127}}, {64, []byte{128, 1}}, {-65, []byte{129, 1}},
		{1 << 21, []byte{128, 128, 128, 2}}, {-1 << 21, []byte{255, 255, 255, 1}}, {math.MaxInt64, []byte{254, 255, 255, 255, 255, 255, 255, 255, 255, 1}}, {math.MinInt64, full(9, 1)}, {math.MinInt64 + 1, []byte{253, 255, 255, 255, 255, 255, 255, 255, 255, 1}},
	} {
		if got := wire.Int(c.v); !slices.Equal(got, c.want) {
			t.Errorf("P401: Int(%d) = %v; want %v", c.v, got, c.want)
		}
	}
	for _, u := range edges() {
		for _, v := range []int64{int64(u), -int64(u)} {
			twice := big.NewInt(0).Mul(big.NewInt(v), big.NewInt(2))
			if v < 0 {
				twice.Sub(big.NewInt(-1), twice)
			}
			if got, want := wire.Int(v), wire.Uint(twice.Uint64()); !twice.IsUint64() || !slices.Equal(got, want) {
				t.Errorf("P401: Int(%d) = %v; want Uint of %v: %v", v, got, twice, want)
			}
		}
	}
}

// P401: a and c, two bytes each, the lower first.
func TestSum(t *testing.T) {
	for _, c := range []struct {
		b    []byte
		want []byte
	}{
		{nil, []byte{0, 0, 0, 0}}, {[]byte{}, []byte{0, 0, 0, 0}}, {[]byte{0}, []byte{0, 0, 0, 0}}, {[]byte{1}, []byte{1, 0, 1, 0}}, {[]byte{255}, []byte{255, 0, 255, 0}},
		{[]byte{1, 2}, []byte{3, 0, 4, 0}}, {[]byte{2, 1}, []byte{3, 0, 5, 0}}, {[]byte{1, 0}, []byte{1, 0, 2, 0}}, {[]byte{0, 1}, []byte{1, 0, 1, 0}},
		{[]byte{255, 1}, []byte{0, 1, 254, 0}}, // a is 256, c 511
		{[]byte{255, 2}, []byte{0, 0, 255, 0}}, // a is 257
		{[]byte{255, 0, 1}, []byte{0, 1, 252, 0}},
		{[]byte{128, 0}, []byte{128, 0, 0, 1}}, // c is 256
		{[]byte{255, 255}, []byte{253, 0, 251, 0}},
		{[]byte("RND1"), []byte{20, 0, 233, 0}},
	} {
		if got := wire.Sum(c.b); !slices.Equal(got, c.want) {
			t.Errorf("P401: Sum(%v) = %v; want %v", c.b, got, c.want)
		}
	}
	d := dice(4011)
	for range 1000 {
		b := d.some(40)
		if got, want := wire.Sum(b), plainSum(b); !slices.Equal(got, want) {
			t.Errorf("P401: Sum(%v) = %v; want %v", b, got, want)
		}
	}
	for _, n := range []int{256, 257, 258, 65535, 65536, 65537, 1 << 20} {
		b := full(n)
		if got, want := wire.Sum(b), plainSum(b); !slices.Equal(got, want) {
			t.Errorf("P401: Sum of %d bytes of 255 = %v; want %v", n, got, want)
		}
	}
}

// plainSum works both sums out whole, and takes what is left of them by 257 at the end: a byte is in c as often as there are bytes from it on.
func plainSum(b []byte) []byte {
	a, c := uint64(0), uint64(0)
	for i, v := range b {
		a += uint64(v)
		c += uint64(v) * uint64(len(b)-i)
	}
	return []byte{byte(a % 257 % 256), byte(a % 257 / 256), byte(c % 257 % 256), byte(c % 257 / 256)}
}

// P403: one byte that is another one is told by the Sum.
func TestSumOfOneTurned(t *testing.T) {
	d := dice(403)
	for _, n := range []int{1, 2, 7, 256, 257, 258, 600} {
		b := d.some(0)
		for range n {
			b = append(b, byte(d.throw(256)))
		}
		was := wire.Sum(b)
		for i, old := range b {
			for v := range 256 {
				if b[i] = byte(v); b[i] != old && slices.Equal(wire.Sum(b), was) {
					t.Fatalf("P403: %d bytes: byte %d, of %d made %d, has the same Sum", n, i, old, v)
				}
			}
			b[i] = old
		}
	}
}

// P403: two unlike bytes side by side that were changed over are told by the Sum.
func TestSumOfTwoChangedOver(t *testing.T) {
	for x := range 256 {
		for y := range x {
			if slices.Equal(wire.Sum([]byte{byte(x), byte(y)}), wire.Sum([]byte{byte(y), byte(x)})) {
				t.Fatalf("P403: %d and %d, changed over, have the same Sum", x, y)
			}
		}
	}
	d := dice(4031)
	for range 300 {
		b := d.some(600)
		was := wire.Sum(b)
		for i := 1; i < len(b); i++ {
			if b[i-1] == b[i] {
				continue
			}
			b[i-1], b[i] = b[i], b[i-1]
			if slices.Equal(wire.Sum(b), was) {
				t.Fatalf("P403: bytes %d and %d of %d, changed over, have the same Sum", i-1, i, len(b))
			}
			b[i-1], b[i] = b[i], b[i-1]
		}
	}
}

// T5, P402: what is told is read as it was, one behind the other.
func TestReadAsItWas(t *testing.T) {
	d := dice(5)
	l := edges()
	for range 1000 {
		l = append(l, d.number())
	}
	var all []byte
	for _, u := range l {
		all = append(all, wire.Uint(u)...)
		all = append(all, wire.Int(int64(u))...)
		all = append(all, wire.Int(-int64(u))...)
		all = append(all, wire.Sum(all)...)
	}
	r := wire.New(all)
	for _, u := range l {
		begin := r.At()
		if got := r.Uint(math.MaxUint64); got != u {
			t.Fatalf("T5: Uint: %d; want %d", got, u)
		}
		if got := r.Int(math.MaxUint64); got != int64(u) {
			t.Fatalf("T5: Int: %d; want %d", got, int64(u))
		}
		if got := r.Int(math.MaxUint64); got != -int64(u) {
			t.Fatalf("T5: Int: %d; want %d", got, -int64(u))
		}
		at := r.At()
		if want := begin + len(wire.Uint(u)) + len(wire.Int(int64(u))) + len(wire.Int(-int64(u))); at != want {
			t.Fatalf("P402: At: %d; want %d", at, want)
		}
		if got := r.Bytes(4); !slices.Equal(got, wire.Sum(all[:at])) {
			t.Fatalf("T5: Bytes: %v", got)
		}
	}
	going(t, "all read", r, len(all))
	if err := r.Done(); err != nil {
		t.Errorf("P402: Done: %v", err)
	}
}

// P402: what is no number, at the place where it begins.
func TestNoNumber(t *testing.T) {
	for _, c := range []struct {
		b    []byte
		want api.Errno
	}{
		{nil, api.ErrShort}, {[]byte{}, api.ErrShort}, {[]byte{128}, api.ErrShort}, {[]byte{255}, api.ErrShort}, {full(2), api.ErrShort}, {full(9), api.ErrShort},
		{full(10), api.ErrForm}, {full(11), api.ErrForm}, {full(40), api.ErrForm}, {full(10, 0), api.ErrForm}, {full(10, 1), api.ErrForm}, {bytes.Repeat([]byte{128}, 10), api.ErrForm},
		{full(9, 128), api.ErrForm}, {full(9, 129), api.ErrForm}, {bytes.Repeat([]byte{128}, 9), api.ErrShort},
		{[]byte{128, 0}, api.ErrForm}, {[]byte{129, 0}, api.ErrForm}, {[]byte{255, 128, 0}, api.ErrForm}, {full(8, 0), api.ErrForm}, {full(9, 0), api.ErrForm},
		{[]byte{128, 128, 128, 128, 128, 128, 128, 128, 128, 0}, api.ErrForm},
		{full(9, 2), api.ErrForm}, {full(9, 3), api.ErrForm}, {full(9, 126), api.ErrForm}, {full(9, 127), api.ErrForm}, {full(9, 64), api.ErrForm},
		{[]byte{128, 128, 128, 128, 128, 128, 128, 128, 128, 2}, api.ErrForm},
	} {
		for _, most := range []uint64{0, 1, 1 << 40, math.MaxUint64} {
			for _, ahead := range []int{0, 3} {
				b := append(bytes.Repeat([]byte{200}, ahead), c.b...)
				r := wire.New(b)
				r.Bytes(ahead)
				if v := r.Uint(most); v != 0 {
					t.Errorf("P4, P402: Uint of %v told %d", b, v)
				}
				stopped(t, "Uint", r, ahead, c.want)
				r = wire.New(b)
				r.Bytes(ahead)
				if v := r.Int(most); v != 0 {
					t.Errorf("P4, P402: Int of %v told %d", b, v)
				}
				stopped(t, "Int", r, ahead, c.want)
			}
		}
	}
}

// P402: what is a number goes up to its last byte, whatever is behind it.
func TestNumberAmongOthers(t *testing.T) {
	for _, c := range []struct {
		b    []byte
		want uint64
		size int
	}{
		{[]byte{0, 0}, 0, 1}, {[]byte{0, 128}, 0, 1}, {[]byte{5, 255, 255}, 5, 1}, {[]byte{128, 1, 0}, 128, 2}, {[]byte{129, 128, 1, 128}, 1 + 1<<14, 3},
		{append(full(9, 1), full(20)...), math.MaxUint64, 10}, {full(9, 1, 0), math.MaxUint64, 10}, {append(full(8, 1), full(20)...), 1<<57 - 1, 9},
		{[]byte{128, 128, 128, 128, 128, 128, 128, 128, 128, 1, 7}, 1 << 63, 10}, {append([]byte{127}, full(10)...), 127, 1},
	} {
		r := wire.New(c.b)
		if got := r.Uint(math.MaxUint64); got != c.want {
			t.Errorf("P402: Uint of %v: %d; want %d", c.b, got, c.want)
		}
		going(t, "Uint", r, c.size)
	}
}

// held looks at v, told in bytes as b, being read with a most of just its amount and more, and of less.
func held[T int64 | uint64](t *testing.T, what string, b []byte, v T, amount uint64, read func(r *wire.Reader, most uint64) T) {
	t.Helper()
	b = append(b, 9)
	for _, most := range []uint64{amount, max(amount, amount+1), math.MaxUint64} {
		r := wire.New(b)
		if got := read(r, most); got != v {
			t.Errorf("P402: %s(%d) of %d: %d", what, most, v, got)
		}
		going(t, what, r, len(b)-1)
	}
	if amount == 0 {
		return
	}
	for _, most := range []uint64{0, amount / 2, amount - 1} {
		r := wire.New(b)
		if got := read(r, most); got != 0 {
			t.Errorf("P4, P402: %s(%d) of %d told %d", what, most, v, got)
		}
		stopped(t, what+" above most", r, 0, api.ErrRange)
	}
}

// P402: a number of just most is taken, and one more is not; of Int it is the amount, on either side of 0, and that of the least number of all is 2^63.
func TestMost(t *testing.T) {
	for _, u := range edges() {
		held(t, "Uint", wire.Uint(u), u, u, (*wire.Reader).Uint)
		if u <= 1<<63 {
			held(t, "Int", wire.Int(-int64(u)), -int64(u), u, (*wire.Reader).Int)
		}
		if u < 1<<63 {
			held(t, "Int", wire.Int(int64(u)), int64(u), u, (*wire.Reader).Int)
		}
	}
}

// P6, P402: what is no number at all is that, whatever most is; the order of ErrForm, ErrShort, ErrForm, ErrRange.
func TestOrderOfErrors(t *testing.T) {
	for _, c := range []struct {
		what string
		b    []byte
		want api.Errno
	}{
		{"ten bytes that go on, and then no end", full(10), api.ErrForm},
		{"nine bytes that go on, and then no end", full(9), api.ErrShort},
		{"a last byte of 0, and too great", full(3, 0), api.ErrForm},
		{"of no 64 bits, and too great", full(9, 2), api.ErrForm},
		{"too great", full(3, 1), api.ErrRange},
	} {
		r := wire.New(c.b)
		r.Uint(1)
		refused(t, c.what, r.Err(), 0, c.want)
		r = wire.New(c.b)
		r.Int(1)
		refused(t, c.what, r.Err(), 0, c.want)
	}
}

// P402: the next n bytes, as often as there are that many.
func TestBytes(t *testing.T) {
	b := []byte{1, 200, 0, 255, 128, 7}
	for n := range len(b) + 1 {
		for m := range len(b) - n + 1 {
			r := wire.New(b)
			if got := r.Bytes(n); !slices.Equal(got, b[:n]) {
				t.Errorf("P402: Bytes(%d): %v", n, got)
			}
			going(t, "Bytes", r, n)
			if got := r.Bytes(m); !slices.Equal(got, b[n:n+m]) {
				t.Errorf("P402: Bytes(%d), Bytes(%d): %v", n, m, got)
			}
			going(t, "Bytes, twice", r, n+m)
		}
	}
	r := wire.New(nil)
	if got := r.Bytes(0); len(got) != 0 {
		t.Errorf("P402: Bytes(0) of none: %v", got)
	}
	going(t, "Bytes(0) of none", r, 0)
}

// P402: of bytes, and of how many are told at once, there may be more than a file has.
func TestManyBytes(t *testing.T) {
	b := full(3*api.MaxText, 1)
	r := wire.New(b)
	if got := r.Bytes(2*api.MaxText + 1); !slices.Equal(got, full(2*api.MaxText+1)) {
		t.Errorf("P402: Bytes of %d tells %d", 2*api.MaxText+1, len(got))
	}
	r.Bytes(api.MaxText - 2)
	if got := r.Uint(1 << 14); got != 1<<8-1 || r.At() != len(b) || r.Done() != nil {
		t.Errorf("P402: Uint behind many bytes: %d, %v", got, r.Done())
	}
}

// P9, P402: below 0, and more than there are, is refused, not clamped.
func TestNoBytes(t *testing.T) {
	for ahead := range 4 {
		for _, n := range []int{-1, -2, -3, -256, math.MinInt32, math.MinInt, math.MinInt + 1} {
			r := wire.New([]byte{1, 2, 3})
			r.Bytes(ahead)
			if got := r.Bytes(n); len(got) != 0 {
				t.Errorf("P4, P402: Bytes(%d) told %v", n, got)
			}
			stopped(t, "Bytes below 0", r, ahead, api.ErrArg)
		}
		for _, n := range []int{4 - ahead, 5, 256, math.MaxInt32, 1 << 62, math.MaxInt - 1, math.MaxInt} {
			r := wire.New([]byte{1, 2, 3})
			r.Bytes(ahead)
			if got := r.Bytes(n); len(got) != 0 {
				t.Errorf("P4, P402: Bytes(%d) told %v", n, got)
			}
			stopped(t, "Bytes of more", r, ahead, api.ErrShort)
		}
	}
}

// P2, P402: the bytes behind the end of what was handed in are not read.
func TestSpareRoomIsNotRead(t *testing.T) {
	room := []byte{128, 1, 2, 3}
	r := wire.New(room[:1])
	r.Uint(math.MaxUint64)
	stopped(t, "Uint: its end in the spare room", r, 0, api.ErrShort)
	r = wire.New(room[:2])
	r.Bytes(3)
	stopped(t, "Bytes: in the spare room", r, 0, api.ErrShort)
	r = wire.New(room[:2])
	r.Bytes(2)
	if err := r.Done(); err != nil {
		t.Errorf("P402: Done, bytes in the spare room: %v", err)
	}
}

// P402: it is the first error that stays, whatever is asked then.
func TestFirstErrorStays(t *testing.T) {
	b := []byte{4, 9, 128, 0, 1, 1}
	for _, c := range []struct {
		what string
		f    func(r *wire.Reader)
		want api.Errno
	}{
		{"Uint", func(r *wire.Reader) { r.Uint(8) }, api.ErrRange}, {"Int", func(r *wire.Reader) { r.Int(4) }, api.ErrRange},
		{"Bytes below 0", func(r *wire.Reader) { r.Bytes(-1) }, api.ErrArg}, {"Bytes of more", func(r *wire.Reader) { r.Bytes(6) }, api.ErrShort},
	} {
		r := wire.New(b)
		r.Uint(4)
		going(t, "the first one", r, 1)
		c.f(r)
		stopped(t, c.what, r, 1, c.want)
	}
}

// P402: bytes that are left are told by Done alone, and may be read then.
func TestDone(t *testing.T) {
	b := []byte{128, 1, 3, 5, 6}
	r := wire.New(b)
	refused(t, "Done, all left", r.Done(), 0, api.ErrLong)
	refused(t, "Done, again", r.Done(), 0, api.ErrLong)
	going(t, "behind Done", r, 0)
	if got := r.Uint(128); got != 128 {
		t.Errorf("P5, P402: Uint behind Done: %d", got)
	}
	refused(t, "Done, three left", r.Done(), 2, api.ErrLong)
	if got := r.Int(2); got != -2 {
		t.Errorf("P5, P402: Int behind Done: %d", got)
	}
	refused(t, "Done, two left", r.Done(), 3, api.ErrLong)
	if got := r.Bytes(1); !slices.Equal(got, []byte{5}) {
		t.Errorf("P5, P402: Bytes behind Done: %v", got)
	}
	refused(t, "Done, one left", r.Done(), 4, api.ErrLong)
	r.Bytes(1)
	if err := r.Done(); err != nil {
		t.Errorf("P402: Done, none left: %v", err)
	}
	r.Uint(1)
	stopped(t, "Uint behind all", r, 5, api.ErrShort)
	for _, none := range [][]byte{nil, {}} {
		if err := wire.New(none).Done(); err != nil {
			t.Errorf("P402: Done of none: %v", err)
		}
	}
}

// P2, P402: a Reader goes over a copy, and what is handed in stays as it was.
func TestGoesOverACopy(t *testing.T) {
	room := []byte{7, 128, 1, 9, 77, 78}
	b := room[:4]
	r := wire.New(b)
	first := r.Uint(7)
	for i := range room {
		room[i] = 128
	}
	second, third := r.Uint(128), r.Bytes(1)
	if first != 7 || second != 128 || !slices.Equal(third, []byte{9}) || r.Done() != nil {
		t.Errorf("P402: what is changed behind New is told: %d, %d, %v, %v", first, second, third, r.Done())
	}
	if !slices.Equal(room, bytes.Repeat([]byte{128}, 6)) {
		t.Errorf("P2: New changes what is handed in: %v", room)
	}
	room = []byte{1, 2, 3, 44, 45}
	sum := wire.Sum(room[:3])
	clear(sum[:cap(sum)])
	if !slices.Equal(room, []byte{1, 2, 3, 44, 45}) {
		t.Errorf("P2: Sum changes what is handed in: %v", room)
	}
}

// spoil writes over b and its spare room.
func spoil(b []byte) {
	b = b[:cap(b)]
	for i := range b {
		b[i] ^= 0x5A
	}
}

// P2: what is told is new memory, its spare room too.
func TestAnswersAreNew(t *testing.T) {
	b := []byte{1, 2, 3, 4, 5, 6}
	r, other := wire.New(b), wire.New(b)
	spoil(r.Bytes(0))
	one := r.Bytes(2)
	spoil(one)
	none := r.Bytes(0)
	spoil(none)
	two := r.Bytes(3)
	if !slices.Equal(two, []byte{3, 4, 5}) || !slices.Equal(b, []byte{1, 2, 3, 4, 5, 6}) {
		t.Errorf("P2: Bytes that are written over are told: %v, %v", two, b)
	}
	was := slices.Clone(one)
	spoil(two)
	if !slices.Equal(one, was) || r.Uint(6) != 6 || !slices.Equal(other.Bytes(6), b) {
		t.Errorf("P2: Bytes share room: %v, want %v", one, was)
	}
	for _, f := range []func() []byte{func() []byte { return wire.Uint(1 << 40) }, func() []byte { return wire.Uint(0) }, func() []byte { return wire.Int(-1 << 40) }, func() []byte { return wire.Sum(b) }, func() []byte { return wire.Sum(nil) }} {
		got := f()
		want := slices.Clone(got)
		spoil(got)
		if again := f(); !slices.Equal(again, want) {
			t.Errorf("P2: what is written over is told again: %v; want %v", again, want)
		}
	}
}

// P7: Readers over the same bytes go each their own way.
func TestReadersApart(t *testing.T) {
	b := []byte{1, 2, 3}
	one, two := wire.New(b), wire.New(b)
	if one == two {
		t.Fatal("P7: New tells one Reader twice")
	}
	one.Uint(1)
	one.Bytes(-1)
	going(t, "another Reader", two, 0)
	if got := two.Bytes(3); !slices.Equal(got, b) || two.Done() != nil {
		t.Errorf("P7: another Reader tells %v, %v", got, two.Done())
	}
	stopped(t, "the Reader itself", one, 1, api.ErrArg)
}

// P12: errors.Is finds the Errno, errors.As the Fault; one that is written over changes none that is told then.
func TestFaults(t *testing.T) {
	r := wire.New([]byte{3, 9})
	r.Uint(3)
	for _, e := range []struct {
		ask  func() error
		want api.Errno
		text string
	}{
		{r.Done, api.ErrLong, "byte 1: long"}, {func() error { r.Uint(8); return r.Err() }, api.ErrRange, "byte 1: range"}, {r.Done, api.ErrRange, "byte 1: range"}, {r.Err, api.ErrRange, "byte 1: range"},
	} {
		err := e.ask()
		var f *api.Fault
		if !errors.Is(err, e.want) || !errors.As(err, &f) || f.Part != "byte" || f.At != 1 || err.Error() != e.text {
			t.Fatalf("P12: %v; want %s", err, e.text)
		}
		*f = api.Fault{Part: "spoilt", At: 5, Err: api.ErrNone}
		if again := e.ask(); again.Error() != e.text {
			t.Errorf("P2, P402: the Fault that is told can be spoilt: %v; want %s", again, e.text)
		}
	}
	if r.At() != 1 {
		t.Errorf("P402: At: %d", r.At())
	}
}

// plain goes over bytes by the chapter's words, one after the other.
type plain struct {
	b     []byte
	at    int
	wrong api.Errno
}

// number tells the number at p's place, its bytes, and what is wrong with it.
func (p *plain) number() (*big.Int, int, api.Errno) {
	left, ten := p.b[p.at:], 0
	for ten < 10 && ten < len(left) && left[ten] >= 128 {
		ten++
	}
	if ten == 10 {
		return nil, 0, api.ErrForm
	}
	end := slices.IndexFunc(left, func(c byte) bool { return c < 128 })
	if end < 0 {
		return nil, 0, api.ErrShort
	}
	v := big.NewInt(0)
	for i := end; i >= 0; i-- {
		v.Mul(v, big.NewInt(128)).Add(v, big.NewInt(int64(left[i]%128)))
	}
	if left[end] == 0 && end > 0 || v.BitLen() > 64 {
		return nil, 0, api.ErrForm
	}
	return v, end + 1, api.OK
}

// read tells the number at p's place, as Uint or as Int has it, and goes behind it.
func (p *plain) read(most uint64, signed bool) *big.Int {
	zero := big.NewInt(0)
	if p.wrong != api.OK {
		return zero
	}
	v, size, e := p.number()
	if e == api.OK {
		if v = v.Abs(v); signed {
			half, odd := zero.DivMod(v, big.NewInt(2), big.NewInt(0))
			if v = half; odd.Sign() > 0 {
				v = big.NewInt(0).Sub(big.NewInt(-1), half)
			}
		}
		if big.NewInt(0).Abs(v).Cmp(big.NewInt(0).SetUint64(most)) > 0 {
			e = api.ErrRange
		}
	}
	if e != api.OK {
		p.wrong = e
		return big.NewInt(0)
	}
	p.at += size
	return v
}

// take tells the next n bytes.
func (p *plain) take(n int) []byte {
	switch {
	case p.wrong != api.OK:
		return nil
	case n < 0:
		p.wrong = api.ErrArg
		return nil
	case n > len(p.b)-p.at:
		p.wrong = api.ErrShort
		return nil
	}
	p.at += n
	return p.b[p.at-n : p.at]
}

// step asks r and p the same, and tells whether they answer alike.
func step(d *dice, r *wire.Reader, p *plain) bool {
	most := d.number()
	if d.throw(2) == 0 {
		most = math.MaxUint64
	}
	switch d.throw(5) {
	case 0, 1:
		return big.NewInt(0).SetUint64(r.Uint(most)).Cmp(p.read(most, false)) == 0
	case 2, 3:
		return big.NewInt(r.Int(most)).Cmp(p.read(most, true)) == 0
	}
	n := d.throw(5) - d.throw(30)/29
	return slices.Equal(r.Bytes(n), p.take(n))
}

// P402: thrown bytes, gone over in thrown ways, are told as the chapter's words have them.
func TestThrown(t *testing.T) {
	d := dice(402)
	seen := map[api.Errno]int{}
	for round := range 6000 {
		b := d.some(24)
		if d.throw(2) == 0 {
			b = append(append(wire.Uint(d.number()), wire.Int(int64(d.number()))...), b...)
		}
		r, p := wire.New(b), &plain{b: b}
		for range 12 {
			alike := step(&d, r, p)
			if !alike || r.At() != p.at {
				t.Fatalf("P402: round %d: %v is told otherwise, up to %d; want %d", round, b, r.At(), p.at)
			}
			if p.wrong == api.OK {
				going(t, "thrown", r, p.at)
			} else {
				refused(t, "thrown: Err", r.Err(), p.at, p.wrong)
				refused(t, "thrown: Done", r.Done(), p.at, p.wrong)
				continue
			}
			if err := r.Done(); (err == nil) != (p.at == len(b)) {
				t.Fatalf("P402: round %d: Done at %d of %d: %v", round, p.at, len(b), err)
			}
		}
		seen[p.wrong]++
	}
	for _, e := range []api.Errno{api.OK, api.ErrForm, api.ErrShort, api.ErrRange, api.ErrArg} {
		if seen[e] < 20 {
			t.Errorf("P402: of thrown bytes only %d end with %v", seen[e], e)
		}
	}
}

// P402: all numbers of up to two bytes, and what is read behind them.
func TestAllOfTwo(t *testing.T) {
	for x := range 256 {
		for y := range 256 {
			b := []byte{byte(x), byte(y)}
			r, p := wire.New(b), &plain{b: b}
			for range 3 {
				if got, want := r.Uint(9999), p.read(9999, false); got != want.Uint64() || r.At() != p.at {
					t.Fatalf("P402: Uint of %v: %d; want %v", b, got, want)
				}
			}
			r, p = wire.New(b), &plain{b: b}
			for range 3 {
				if got, want := r.Int(4999), p.read(4999, true); got != want.Int64() || r.At() != p.at {
					t.Fatalf("P402: Int of %v: %d; want %v", b, got, want)
				}
			}
			refused(t, "behind both", r.Err(), p.at, p.wrong)
		}
	}
}

// P3: the same calls in the same order answer the same.
func TestTheSameAgain(t *testing.T) {
	tell := func() (l []uint64, s string) {
		r := wire.New([]byte{5, 6, 128, 1, 128, 0})
		l = append(l, r.Uint(9), uint64(r.Int(9)), uint64(r.At()), r.Uint(1<<20), r.Uint(1<<20), uint64(r.At()))
		return l, r.Err().Error() + r.Done().Error()
	}
	l, s := tell()
	if !slices.Equal(l, []uint64{5, 3, 2, 128, 0, 4}) || s != "byte 4: formbyte 4: form" {
		t.Errorf("P402: %v, %s", l, s)
	}
	if m, u := tell(); !slices.Equal(l, m) || s != u {
		t.Errorf("P3: %v, %s; then %v, %s", l, s, m, u)
	}
}
