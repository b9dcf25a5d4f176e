package pack_test

import (
	"errors"
	"math"
	"math/big"
	"slices"
	"strconv"
	"sync"
	"testing"

	"roundsman/api"
	"roundsman/pack"
)

// fault is the whole of a Fault.
type fault struct {
	at   int
	want api.Errno
}

// none is no Fault.
var none = fault{}

// widest is the widths of as many vertices as there may be.
var widest = []int{12, 12, 12, 12, 12}

// counted is what the chapter's words of Widths come to.
func counted(counts []int) ([]int, fault) {
	if len(counts) > 6 {
		return nil, fault{0, api.ErrLong}
	}
	var l []int
	for i, c := range counts {
		if c < 0 || c > 4096 {
			return nil, fault{i, api.ErrArg}
		}
		w, stand := 0, 1
		for stand < c {
			w, stand = w+1, 2*stand
		}
		l = append(l, w)
	}
	return l, none
}

// wrong is what the chapter's words tell that is wrong with widths.
func wrong(widths []int) fault {
	if len(widths) > 6 {
		return fault{0, api.ErrLong}
	}
	all := 0
	for i, w := range widths {
		if w < 0 || w > 63 {
			return fault{i, api.ErrArg}
		}
		all += w
	}
	if all > 63 {
		return fault{1, api.ErrLong}
	}
	return none
}

// power is 2 to n.
func power(n int) *big.Int {
	return new(big.Int).Exp(big.NewInt(2), big.NewInt(int64(n)), nil)
}

// packed is what the chapter's words of Pack come to: each cell times 2 to what the widths ahead are together.
func packed(cells, widths []int) (uint64, fault) {
	if f := wrong(widths); f != none {
		return 0, f
	}
	if len(cells) != len(widths) {
		return 0, fault{2, api.ErrArg}
	}
	id, all := new(big.Int), 0
	for i, c := range cells {
		if c < 0 || big.NewInt(int64(c)).Cmp(power(widths[i])) >= 0 {
			return 0, fault{i, api.ErrRange}
		}
		id.Add(id, new(big.Int).Mul(big.NewInt(int64(c)), power(all)))
		all += widths[i]
	}
	return id.Uint64(), none
}

// unpacked is what the chapter's words of Unpack come to.
func unpacked(id uint64, widths []int) ([]int, fault) {
	if f := wrong(widths); f != none {
		return nil, f
	}
	rest := new(big.Int).SetUint64(id)
	var cells []int
	for _, w := range widths {
		c := new(big.Int)
		rest.DivMod(rest, power(w), c)
		cells = append(cells, int(c.Int64()))
	}
	if rest.Sign() != 0 {
		return nil, fault{len(widths), api.ErrRange}
	}
	return cells, none
}

// cell is what the chapter's words of Cell come to.
func cell(id uint64, widths []int, level int) uint64 {
	if level < 1 || level > len(widths)+1 {
		return 0
	}
	all := 0
	for _, w := range widths[:level-1] {
		all += w
	}
	return new(big.Int).Div(new(big.Int).SetUint64(id), power(all)).Uint64()
}

// common is what the chapter's words of Common come to.
func common(a, b uint64, widths []int) int {
	for level := range len(widths) {
		if cell(a, widths, level+1) == cell(b, widths, level+1) {
			return level + 1
		}
	}
	return len(widths) + 1
}

// is looks at the whole of an error: P12's Fault, and the Errno right within.
func is(t *testing.T, what string, err error, want fault) {
	t.Helper()
	if want == none {
		if err != nil {
			t.Errorf("P1201: %s: %v", what, err)
		}
		return
	}
	f, ok := err.(*api.Fault)
	if !ok || f == nil {
		t.Errorf("P12, P1201: %s: %v is no Fault", what, err)
		return
	}
	if *f != (api.Fault{Part: "pack", At: want.at, Err: want.want}) {
		t.Errorf("P1201: %s: %v; want pack %d: %v", what, err, want.at, want.want)
	}
}

// widths looks at what Widths tells of counts.
func widths(t *testing.T, counts []int) {
	t.Helper()
	got, err := pack.Widths(counts)
	want, f := counted(counts)
	what := "Widths of " + row(counts)
	is(t, what, err, f)
	if !slices.Equal(got, want) {
		t.Errorf("P1201: %s: %v; want %v", what, got, want)
	}
}

// packs looks at what Pack tells, and at what Unpack tells of that.
func packs(t *testing.T, cells, widths []int) {
	t.Helper()
	got, err := pack.Pack(cells, widths)
	want, f := packed(cells, widths)
	what := "Pack of " + row(cells) + " in " + row(widths)
	is(t, what, err, f)
	if got != want {
		t.Errorf("P1201: %s: %d; want %d", what, got, want)
	}
	if f != none {
		return
	}
	back, err := pack.Unpack(got, widths)
	is(t, "Unpack behind "+what, err, none)
	if !slices.Equal(back, cells) {
		t.Errorf("P1201: Unpack behind %s: %v", what, back)
	}
}

// unpacks looks at what Unpack tells.
func unpacks(t *testing.T, id uint64, widths []int) {
	t.Helper()
	got, err := pack.Unpack(id, widths)
	want, f := unpacked(id, widths)
	what := "Unpack of " + strconv.FormatUint(id, 10) + " in " + row(widths)
	is(t, what, err, f)
	if !slices.Equal(got, want) {
		t.Errorf("P1201: %s: %v; want %v", what, got, want)
	}
}

// looks looks at what Cell tells of id at all levels, and some that are none.
func looks(t *testing.T, id uint64, widths []int) {
	t.Helper()
	for level := -2; level <= len(widths)+4; level++ {
		if got, want := pack.Cell(id, widths, level), cell(id, widths, level); got != want {
			t.Errorf("P1202: Cell of %d in %v at %d: %d; want %d", id, widths, level, got, want)
		}
	}
}

// meets looks at what Common tells, either way round.
func meets(t *testing.T, a, b uint64, widths []int) {
	t.Helper()
	want := common(a, b, widths)
	if got, turned := pack.Common(a, b, widths), pack.Common(b, a, widths); got != want || turned != want {
		t.Errorf("P1202: Common of %d and %d in %v: %d, turned %d; want %d", a, b, widths, got, turned, want)
	}
}

// row is numbers as a text: of many how many there are.
func row(l []int) string {
	if len(l) > 20 {
		return strconv.Itoa(len(l)) + " numbers"
	}
	s := "["
	for _, v := range l {
		s += " " + strconv.Itoa(v)
	}
	return s + " ]"
}

// odd are numbers that are far below 0, or far above all that may be.
func odd() []int {
	return []int{math.MinInt, math.MinInt + 1, math.MinInt + 63, -1 << 32, -1<<32 + 1, -1 << 31, -4096, -64, -63, -2, -1, 4098, 65535, 65536, 1 << 31, 1 << 32, 1<<32 + 1, 1<<32 + 12, 1 << 62, math.MaxInt - 1, math.MaxInt}
}

// dice tell numbers below what they are asked for, the same ones each time.
func dice(seed uint64) func(int) int {
	return func(n int) int {
		seed = seed*6364136223846793005 + 1442695040888963407
		return int(seed >> 33 % uint64(n))
	}
}

// number is a number of at most n bits, as often of few as of many.
func number(throw func(int) int, n int) uint64 {
	v := uint64(throw(1<<31))<<33 ^ uint64(throw(1<<31))<<11 ^ uint64(throw(1<<11))
	return v & (1<<throw(n+1) - 1)
}

// some is widths that Pack takes, of n levels.
func some(throw func(int) int, n int) []int {
	l, room := make([]int, n), 63
	for _, i := range turned(throw, n) {
		l[i] = throw(room + 1)
		if throw(3) > 0 {
			l[i] = min(l[i], throw(13))
		}
		room -= l[i]
	}
	return l
}

// turned is the numbers from 0 to n - 1 in a thrown order.
func turned(throw func(int) int, n int) []int {
	l := make([]int, n)
	for i := range l {
		l[i] = i
		j := throw(i + 1)
		l[i], l[j] = l[j], l[i]
	}
	return l
}

// spare is l with more behind its end, of which no call may know.
func spare(l []int, more ...int) []int {
	return append(slices.Clone(l), more...)[:len(l)]
}

// spoil writes over l and its spare room.
func spoil(l []int, with int) {
	l = l[:cap(l)]
	for i := range l {
		l[i] = with
	}
}

// P1201: Widths by hand, about each power of 2.
func TestWidths(t *testing.T) {
	for _, c := range []struct{ counts, want []int }{
		{nil, nil},
		{[]int{0}, []int{0}},
		{[]int{1}, []int{0}},
		{[]int{2}, []int{1}},
		{[]int{0, 1, 2, 3, 4, 5}, []int{0, 0, 1, 2, 2, 3}},
		{[]int{7, 8, 9, 15, 16, 17}, []int{3, 3, 4, 4, 4, 5}},
		{[]int{31, 32, 33, 63, 64, 65}, []int{5, 5, 6, 6, 6, 7}},
		{[]int{127, 128, 129, 255, 256, 257}, []int{7, 7, 8, 8, 8, 9}},
		{[]int{511, 512, 513, 1023, 1024, 1025}, []int{9, 9, 10, 10, 10, 11}},
		{[]int{2047, 2048, 2049, 4094, 4095, 4096}, []int{11, 11, 12, 12, 12, 12}},
		{[]int{4096, 4096, 4096, 4096, 4096, 4096}, []int{12, 12, 12, 12, 12, 12}},
		{[]int{0, 0, 0, 0, 0, 0}, []int{0, 0, 0, 0, 0, 0}},
	} {
		got, err := pack.Widths(c.counts)
		if err != nil || !slices.Equal(got, c.want) {
			t.Errorf("P1201: Widths of %v: %v, %v; want %v", c.counts, got, err, c.want)
		}
		widths(t, c.counts)
	}
}

// P1201: Widths of each count that may be, alone and at each place of six.
func TestWidthsAll(t *testing.T) {
	for c := range 4097 {
		widths(t, []int{c})
		six := []int{3, 900, 0, 1, 77, 4096}
		six[c%6] = c
		widths(t, six)
	}
}

// P1201, P9: Widths refuses each count that may not be, at its place, ahead of those behind it.
func TestWidthsRefused(t *testing.T) {
	for _, c := range append(odd(), 4097) {
		for n := 1; n <= 6; n++ {
			for i := range n {
				counts := slices.Repeat([]int{9}, n)
				counts[i] = c
				widths(t, counts)
				for j := i + 1; j < n; j++ {
					counts[j] = -5
					widths(t, counts)
				}
			}
		}
	}
	_, err := pack.Widths([]int{1, 2, 4097, -1})
	is(t, "Widths by hand", err, fault{2, api.ErrArg})
	_, err = pack.Widths([]int{-1})
	is(t, "Widths by hand", err, fault{0, api.ErrArg})
}

// P1201, P6: more than MaxLevels are refused ahead of what is wrong with one of them.
func TestTooMany(t *testing.T) {
	for _, n := range []int{7, 8, 12, 63, 64, 4096, 100000} {
		for _, c := range []int{0, 1, 5, -1, 4097} {
			l := slices.Repeat([]int{c}, n)
			counts, err := pack.Widths(l)
			is(t, "Widths of "+strconv.Itoa(n), err, fault{0, api.ErrLong})
			id, errPack := pack.Pack(l, l)
			is(t, "Pack of "+strconv.Itoa(n), errPack, fault{0, api.ErrLong})
			few, errFew := pack.Pack(nil, l)
			is(t, "Pack of none in "+strconv.Itoa(n), errFew, fault{0, api.ErrLong})
			cells, errUnpack := pack.Unpack(1<<63, l)
			is(t, "Unpack in "+strconv.Itoa(n), errUnpack, fault{0, api.ErrLong})
			if len(counts) != 0 || id != 0 || few != 0 || len(cells) != 0 {
				t.Errorf("P4: beside an error of %d widths: %v, %d, %d, %v", n, counts, id, few, cells)
			}
		}
	}
}

// P1201: Pack and Unpack by hand.
func TestPack(t *testing.T) {
	for _, c := range []struct {
		cells, widths []int
		want          uint64
	}{
		{nil, nil, 0},
		{[]int{0}, []int{0}, 0},
		{[]int{1}, []int{1}, 1},
		{[]int{5}, []int{63}, 5},
		{[]int{math.MaxInt}, []int{63}, math.MaxInt},
		{[]int{5, 3}, []int{3, 2}, 29},
		{[]int{5, 3}, []int{4, 2}, 53},
		{[]int{3, 5}, []int{2, 3}, 23},
		{[]int{1, 0, 1, 0, 1, 1}, []int{1, 1, 1, 1, 1, 1}, 53},
		{[]int{1, 0, 2, 0, 0, 3}, []int{1, 0, 2, 0, 0, 2}, 29},
		{[]int{4095, 0, 4095, 0, 4095}, widest, 4095 + 4095<<24 + 4095<<48},
		{[]int{1, 2, 3, 4, 5}, widest, 1 + 2<<12 + 3<<24 + 4<<36 + 5<<48},
		{[]int{0, 0, 0, 0, 4095}, widest, 4095 << 48},
		{[]int{1<<31 - 1, 1<<32 - 1}, []int{31, 32}, math.MaxInt64},
		{[]int{0, 1<<32 - 1}, []int{31, 32}, 1<<63 - 1<<31},
		{[]int{0, 0, 1}, []int{0, 62, 1}, 1 << 62},
		{[]int{0, math.MaxInt, 0}, []int{0, 63, 0}, math.MaxInt},
	} {
		id, err := pack.Pack(c.cells, c.widths)
		if err != nil || id != c.want {
			t.Errorf("P1201: Pack of %v in %v: %d, %v; want %d", c.cells, c.widths, id, err, c.want)
		}
		cells, err := pack.Unpack(c.want, c.widths)
		if err != nil || !slices.Equal(cells, c.cells) {
			t.Errorf("P1201: Unpack of %d in %v: %v, %v; want %v", c.want, c.widths, cells, err, c.cells)
		}
		packs(t, c.cells, c.widths)
		unpacks(t, c.want, c.widths)
	}
}

// P1201: widths that are none, or together too much, are refused by Pack and Unpack alike.
func TestWidthsThatAreNone(t *testing.T) {
	for _, w := range append(odd(), 64, 65, 127, 128, 256, 4096, 4097) {
		for n := 1; n <= 6; n++ {
			for i := range n {
				l := slices.Repeat([]int{2}, n)
				l[i] = w
				packs(t, make([]int, n), l)
				unpacks(t, 0, l)
				for j := i + 1; j < n; j++ {
					l[j] = 64 + j
					packs(t, make([]int, n), l)
					unpacks(t, 0, l)
				}
			}
		}
	}
	for _, l := range [][]int{{63, 1}, {1, 63}, {32, 32}, {63, 63}, {0, 63, 0, 0, 0, 1}, {12, 12, 12, 12, 12, 4}, {12, 12, 12, 12, 12, 12}, {63, 63, 63, 63, 63, 63}, {11, 11, 11, 11, 11, 9}, {10, 10, 11, 11, 11, 11}, {62, 2}} {
		_, err := pack.Pack(make([]int, len(l)), l)
		is(t, "Pack in "+row(l), err, fault{1, api.ErrLong})
		_, err = pack.Unpack(0, l)
		is(t, "Unpack in "+row(l), err, fault{1, api.ErrLong})
	}
	for _, l := range [][]int{{63}, {0, 63}, {63, 0}, {31, 32}, {62, 1}, {1, 62}, {12, 12, 12, 12, 12, 3}, {11, 11, 11, 11, 11, 8}, {63, 0, 0, 0, 0, 0}, {0, 0, 0, 0, 0, 63}} {
		packs(t, make([]int, len(l)), l)
		unpacks(t, 0, l)
		unpacks(t, math.MaxInt64, l)
		unpacks(t, 1<<63, l)
		unpacks(t, math.MaxUint64, l)
	}
}

// P1201: there must be as many cells as widths.
func TestCounts(t *testing.T) {
	for n := range 7 {
		for m := range 9 {
			for _, c := range []int{0, 1, -1, 4} {
				packs(t, slices.Repeat([]int{c}, m), slices.Repeat([]int{2}, n))
			}
		}
		_, err := pack.Pack(make([]int, 100000), make([]int, n))
		is(t, "Pack of many cells", err, fault{2, api.ErrArg})
	}
}

// P1201: cells that do not stand in their width are refused, the first one at its place.
func TestCellsThatDoNotStand(t *testing.T) {
	for _, l := range [][]int{{0}, {1}, {5}, {62}, {63}, {3, 4}, {0, 0}, {12, 0, 12}, {1, 2, 3, 4, 5, 6}, {0, 0, 63, 0, 0, 0}, {12, 12, 12, 12, 12, 3}} {
		for i, w := range l {
			over := []int{math.MaxInt, 1<<w - 1}
			if w < 63 {
				over = append(over, 1<<w, 1<<w+1)
			}
			if w < 62 {
				over = append(over, 1<<(w+1)-1, 1<<(w+1))
			}
			for _, c := range append(odd(), over...) {
				cells := make([]int, len(l))
				cells[i] = c
				packs(t, cells, l)
				for j := i + 1; j < len(l); j++ {
					cells[j] = -1
					packs(t, cells, l)
				}
			}
		}
	}
	_, err := pack.Pack([]int{7, 4, -1}, []int{3, 2, 9})
	is(t, "Pack by hand", err, fault{1, api.ErrRange})
	_, err = pack.Pack([]int{-1}, []int{63})
	is(t, "Pack by hand", err, fault{0, api.ErrRange})
	_, err = pack.Pack([]int{1}, []int{0})
	is(t, "Pack by hand", err, fault{0, api.ErrRange})
}

// P1201: numbers of which Pack makes none are refused by Unpack.
func TestNumbersBeyond(t *testing.T) {
	for _, l := range [][]int{nil, {0}, {1}, {5}, {62}, {63}, {3, 4}, {0, 0}, {12, 0, 12}, {1, 2, 3, 4, 5, 6}, {0, 0, 62, 0, 0, 0}, {12, 12, 12, 12, 12, 3}} {
		all := 0
		for _, w := range l {
			all += w
		}
		cells, err := pack.Unpack(1<<all-1, l)
		is(t, "Unpack of the greatest in "+row(l), err, none)
		for i, c := range cells {
			if c != 1<<l[i]-1 {
				t.Errorf("P1201: Unpack of the greatest in %v: %v", l, cells)
			}
		}
		for k := all; k < 64; k++ {
			for _, id := range []uint64{1 << k, 1<<k + 1, 1<<k | (1<<all - 1), math.MaxUint64 &^ (1<<k - 1)} {
				cells, err := pack.Unpack(id, l)
				is(t, "Unpack of "+strconv.FormatUint(id, 10)+" in "+row(l), err, fault{len(l), api.ErrRange})
				if len(cells) != 0 {
					t.Errorf("P4: beside an error Unpack tells %v", cells)
				}
			}
		}
	}
}

// P6, P11, P1201: of several errors the first is told, in the order of the chapter.
func TestOrder(t *testing.T) {
	cells := []int{-1, 4, -9, 4, 4}
	l := []int{64, 63, -1, 63, 2, 2, 2}
	refused := func(what string, want fault, unpack bool) {
		t.Helper()
		id, err := pack.Pack(cells, l)
		is(t, "Pack: "+what, err, want)
		told, errUnpack := pack.Unpack(math.MaxUint64, l)
		if unpack {
			is(t, "Unpack: "+what, errUnpack, want)
		} else {
			is(t, "Unpack: "+what, errUnpack, fault{len(l), api.ErrRange})
		}
		if id != 0 || len(told) != 0 {
			t.Errorf("P4: %s: %d, %v", what, id, told)
		}
	}
	refused("too many and all behind", fault{0, api.ErrLong}, true)
	l = l[:6]
	refused("a width and all behind", fault{0, api.ErrArg}, true)
	l[0] = 63
	refused("a later width and all behind", fault{2, api.ErrArg}, true)
	l[2] = 0
	refused("too much together and all behind", fault{1, api.ErrLong}, true)
	l[1], l[3] = 0, 0
	refused("too much still, at the end", fault{1, api.ErrLong}, true)
	l[0] = 2
	refused("too few cells and all behind", fault{2, api.ErrArg}, false)
	cells = append(cells, -1, 8)
	refused("too many cells and all behind", fault{2, api.ErrArg}, false)
	cells = cells[:6]
	refused("a cell and all behind", fault{0, api.ErrRange}, false)
	cells[0] = 3
	refused("a later cell", fault{1, api.ErrRange}, false)
	cells[1] = 0
	refused("one below 0", fault{2, api.ErrRange}, false)
	cells[2] = 0
	refused("one in a width of 0", fault{3, api.ErrRange}, false)
	cells[3] = 0
	refused("one of its width", fault{4, api.ErrRange}, false)
	cells[4] = 3
	refused("the last one", fault{5, api.ErrRange}, false)
	cells[5] = 1
	packs(t, cells, l)
}

// P1202: Cell by hand.
func TestCell(t *testing.T) {
	for _, c := range []struct {
		id     uint64
		widths []int
		want   []uint64 // from level 0 on
	}{
		{0, nil, []uint64{0, 0, 0}},
		{9, nil, []uint64{0, 9, 0, 0}},
		{29, []int{3, 2}, []uint64{0, 29, 3, 0, 0, 0}},
		{29, []int{2, 3}, []uint64{0, 29, 7, 0, 0, 0}},
		{29 + 64, []int{3, 2}, []uint64{0, 93, 11, 2, 0, 0}},
		{29, []int{0, 3, 0, 2}, []uint64{0, 29, 29, 3, 3, 0, 0}},
		{math.MaxUint64, []int{63}, []uint64{0, math.MaxUint64, 1, 0}},
		{math.MaxUint64, []int{1, 62}, []uint64{0, math.MaxUint64, math.MaxInt64, 1, 0}},
		{1 << 63, []int{0, 0, 63}, []uint64{0, 1 << 63, 1 << 63, 1 << 63, 1, 0}},
		{1 + 2<<12 + 3<<24 + 4<<36 + 5<<48, widest, []uint64{0, 1 + 2<<12 + 3<<24 + 4<<36 + 5<<48, 2 + 3<<12 + 4<<24 + 5<<36, 3 + 4<<12 + 5<<24, 4 + 5<<12, 5, 0, 0}},
	} {
		for level, want := range c.want {
			if got := pack.Cell(c.id, c.widths, level); got != want {
				t.Errorf("P1202: Cell of %d in %v at %d: %d; want %d", c.id, c.widths, level, got, want)
			}
		}
		for _, level := range append(odd(), len(c.widths)+2) {
			if got := pack.Cell(c.id, c.widths, level); got != 0 {
				t.Errorf("P1202: Cell of %d in %v at %d: %d; want 0", c.id, c.widths, level, got)
			}
		}
		looks(t, c.id, c.widths)
	}
}

// P1202: Common by hand.
func TestCommon(t *testing.T) {
	for _, c := range []struct {
		a, b   uint64
		widths []int
		want   int
	}{
		{0, 0, nil, 1},
		{0, 1, nil, 1},
		{5, 5, []int{3, 2}, 1},
		{5, 6, []int{3, 2}, 2},
		{5, 5 + 8, []int{3, 2}, 3},
		{5, 5 + 32, []int{3, 2}, 3},
		{5, 6 + 32, []int{3, 2}, 3},
		{5, 4, []int{0, 0, 1, 2}, 4},
		{5, 4, []int{1, 0, 0, 2}, 2},
		{5, 4, []int{0, 1, 0, 2}, 3},
		{5, 4, []int{0, 0, 0}, 4},
		{4, 4, []int{0, 0, 0}, 1},
		{1 << 63, 0, []int{63}, 2},
		{1 << 62, 0, []int{62, 1}, 3},
		{1 << 61, 0, []int{62, 1}, 2},
		{math.MaxUint64, math.MaxUint64, []int{63}, 1},
		{math.MaxUint64, math.MaxUint64 - 1, []int{63}, 2},
		{1, 1 + 1<<12, widest, 3},
		{1, 2, widest, 2},
		{1, 1 + 1<<24, widest, 4},
		{1, 1 + 1<<36, widest, 5},
		{1, 1 + 1<<48, widest, 6},
		{1, 1 + 1<<60, widest, 6},
	} {
		if got := pack.Common(c.a, c.b, c.widths); got != c.want {
			t.Errorf("P1202: Common of %d and %d in %v: %d; want %d", c.a, c.b, c.widths, got, c.want)
		}
		meets(t, c.a, c.b, c.widths)
	}
}

// P1201, P1202: all widths of up to three levels from 0 to 2, all numbers up to 2^6 and some beyond, all cells from -1 to 4.
func TestAllSmall(t *testing.T) {
	for n := range 4 {
		for code := range power(2 * n).Int64() {
			l := make([]int, n)
			for i := range l {
				l[i] = int(code >> (2 * i) & 3)
			}
			if slices.Contains(l, 3) {
				continue
			}
			for id := range uint64(130) {
				unpacks(t, id, l)
				looks(t, id, l)
			}
			for a := range uint64(130) {
				for b := range a + 1 {
					meets(t, a, b, l)
				}
			}
			sixes := 1
			for range n {
				sixes *= 6
			}
			for code := range sixes {
				cells := make([]int, n)
				for i, rest := 0, code; i < n; i, rest = i+1, rest/6 {
					cells[i] = rest%6 - 1
				}
				packs(t, cells, l)
			}
			if t.Failed() {
				t.Fatalf("widths %v", l)
			}
		}
	}
}

// P1201, P1202: thrown widths, cells and numbers, held against the chapter's words.
func TestThrown(t *testing.T) {
	throw := dice(1)
	for range 3000 {
		l := some(throw, throw(7))
		cells := make([]int, len(l))
		for i, w := range l {
			cells[i] = int(number(throw, w))
		}
		packs(t, cells, l)
		id, err := pack.Pack(cells, l)
		is(t, "Pack", err, none)
		for level := range l {
			if got := pack.Cell(id, l, level+1) & (1<<l[level] - 1); got != uint64(cells[level]) {
				t.Errorf("P1202: Cell of %d in %v at %d ends in %d; want %d", id, l, level+1, got, cells[level])
			}
		}
		other := id ^ number(throw, 64)
		unpacks(t, other, l)
		looks(t, id, l)
		looks(t, other, l)
		meets(t, id, other, l)
		meets(t, id, id, l)
		if len(l) > 0 {
			i := throw(len(l))
			cells[i] += 1 << throw(63)
			packs(t, cells, l)
			l[i] += throw(64)
			unpacks(t, id, l)
			packs(t, cells, l)
		}
		if t.Failed() {
			return
		}
	}
}

// P1201: Pack takes what Widths tells, of all cells below the counts, while they are not too many together.
func TestTogether(t *testing.T) {
	throw := dice(2)
	for range 1000 {
		counts := make([]int, throw(7))
		cells := make([]int, len(counts))
		for i := range counts {
			counts[i] = 1 + throw(1<<throw(13))
			cells[i] = counts[i] - 1
		}
		l, err := pack.Widths(counts)
		is(t, "Widths", err, none)
		packs(t, cells, l)
		for i := range l {
			if l[i] > 0 {
				l[i]--
				packs(t, cells, l)
				l[i]++
			}
		}
	}
}

// P1, P8: of widths that Pack does not take Cell and Common end and don't panic, and change nothing.
func TestWrongWidths(t *testing.T) {
	bad := append(odd(), 0, 1, 63, 64, 65, 128)
	for _, a := range bad {
		for _, b := range bad {
			for _, l := range [][]int{{a}, {a, b}, {a, b, a}, slices.Repeat([]int{a, b}, 9)} {
				was := slices.Clone(l)
				for _, level := range append(odd(), 0, 1, 2, 3, 4, 10, 19) {
					pack.Cell(math.MaxUint64, l, level)
				}
				pack.Common(math.MaxUint64, 5, l)
				pack.Common(5, 5, l)
				if !slices.Equal(l, was) {
					t.Errorf("P2: %v; it was %v", l, was)
				}
			}
		}
	}
	many := make([]int, 1<<20)
	pack.Cell(math.MaxUint64, many, 1<<20)
	pack.Common(math.MaxUint64, 5, many)
}

// P12: the errors are asked by errors.Is and errors.As; P7: each one is new, and stays as it was told.
func TestFaults(t *testing.T) {
	var told []error
	var texts []string
	for _, c := range []struct {
		want api.Errno
		text string
		call func() error
	}{
		{api.ErrLong, "pack 0: long", func() error { _, err := pack.Widths(make([]int, 7)); return err }},
		{api.ErrArg, "pack 1: arg", func() error { _, err := pack.Widths([]int{0, -1}); return err }},
		{api.ErrArg, "pack 0: arg", func() error { _, err := pack.Widths([]int{4097}); return err }},
		{api.ErrLong, "pack 0: long", func() error { _, err := pack.Pack(nil, make([]int, 7)); return err }},
		{api.ErrArg, "pack 3: arg", func() error { _, err := pack.Pack(nil, []int{0, 0, 0, 64}); return err }},
		{api.ErrLong, "pack 1: long", func() error { _, err := pack.Pack(nil, []int{32, 32}); return err }},
		{api.ErrArg, "pack 2: arg", func() error { _, err := pack.Pack(nil, []int{32}); return err }},
		{api.ErrRange, "pack 1: range", func() error { _, err := pack.Pack([]int{1, 2}, []int{1, 1}); return err }},
		{api.ErrLong, "pack 0: long", func() error { _, err := pack.Unpack(0, make([]int, 7)); return err }},
		{api.ErrArg, "pack 0: arg", func() error { _, err := pack.Unpack(0, []int{-1}); return err }},
		{api.ErrLong, "pack 1: long", func() error { _, err := pack.Unpack(0, []int{63, 1}); return err }},
		{api.ErrRange, "pack 2: range", func() error { _, err := pack.Unpack(4, []int{1, 1}); return err }},
		{api.ErrRange, "pack 0: range", func() error { _, err := pack.Unpack(1, nil); return err }},
	} {
		for range 2 {
			err := c.call()
			for e := api.ErrArg; e <= api.ErrFar; e++ {
				if errors.Is(err, e) != (e == c.want) {
					t.Errorf("P12, P1201: %s: %v is %v: %v", c.text, err, e, errors.Is(err, e))
				}
			}
			var f *api.Fault
			if !errors.As(err, &f) || f.Part != "pack" || err.Error() != c.text {
				t.Fatalf("P12, P1201: %v; want %s", err, c.text)
			}
			// A Fault that is written over changes none that is told then.
			*f = api.Fault{Part: "spoilt", At: -9, Err: api.OK}
			told, texts = append(told, c.call()), append(texts, c.text)
		}
	}
	for i, err := range told {
		if err.Error() != texts[i] || slices.Index(told, err) != i {
			t.Errorf("P7: error %d: %v; want %s, and another one than those ahead", i, err, texts[i])
		}
	}
}

// P2: what is handed in, its spare room too, is not changed, and counts for nothing.
func TestHandedIn(t *testing.T) {
	throw := dice(3)
	for range 300 {
		l := some(throw, throw(6))
		cells := make([]int, len(l))
		for i, w := range l {
			cells[i] = int(number(throw, w))
		}
		a, b, c := spare(cells, -1, 64, 1<<40), spare(l, 64, -1, 1), spare(l, -1, 5000)
		wasA, wasB, wasC := slices.Clone(a[:cap(a)]), slices.Clone(b[:cap(b)]), slices.Clone(c[:cap(c)])
		packs(t, a, b)
		id, err := pack.Pack(a, b)
		is(t, "Pack with spare room", err, none)
		unpacks(t, id, b)
		looks(t, id, b)
		meets(t, id, id+1, b)
		widths(t, c)
		pack.Pack(b, a)
		pack.Unpack(math.MaxUint64, b)
		// Nor is it when an answer is written over.
		one, _ := pack.Widths(c)
		two, _ := pack.Unpack(id, b)
		spoil(one, 7)
		spoil(two, 7)
		if !slices.Equal(a[:cap(a)], wasA) || !slices.Equal(b[:cap(b)], wasB) || !slices.Equal(c[:cap(c)], wasC) {
			t.Fatalf("P2: what was handed in is %v, %v, %v", a, b, c)
		}
	}
}

// P2, P3: what is told is new memory each time; and the same calls tell the same.
func TestMemory(t *testing.T) {
	for _, call := range []func(l []int) ([]int, error){
		pack.Widths,
		func(l []int) ([]int, error) { return pack.Unpack(12345, l) },
	} {
		in := []int{12, 3, 9, 0, 7}
		first, err := call(in)
		is(t, "the first", err, none)
		was := slices.Clone(first)
		for range 3 {
			again, err := call(in)
			is(t, "again", err, none)
			if !slices.Equal(again, was) {
				t.Errorf("P3: %v; it was %v", again, was)
			}
			spoil(again, 8)
		}
		// What was handed in is not kept: it is written over, and the answer stays.
		spoil(in, -1)
		call(in)
		if !slices.Equal(first, was) {
			t.Errorf("P2: two answers share memory, or one with what was handed in: %v; it was %v", first, was)
		}
	}
}

// P2: no list and an empty one are the same. P5: a refusal changes nothing of what is told later.
func TestEmpty(t *testing.T) {
	for _, l := range [][]int{nil, {}} {
		widths(t, l)
		for _, cells := range [][]int{nil, {}, {0}} {
			packs(t, cells, l)
		}
		unpacks(t, 0, l)
		unpacks(t, 1, l)
		looks(t, 9, l)
		meets(t, 9, 8, l)
		pack.Widths([]int{-1})
		pack.Pack([]int{2}, []int{1})
		pack.Unpack(2, []int{1})
	}
}

// P3: the same is told whichever calls were ahead, also of several at once.
func TestAtOnce(t *testing.T) {
	cells := []int{1, 2, 3, 4, 5}
	id, err := pack.Pack(cells, widest)
	is(t, "Pack", err, none)
	var each sync.WaitGroup
	for k := range 4 {
		each.Go(func() {
			for range 200 {
				told, err := pack.Unpack(id, widest)
				l, errWidths := pack.Widths([]int{4096, 4096, 4096, 4096, 4096 - k})
				if err != nil || errWidths != nil || !slices.Equal(told, cells) || !slices.Equal(l, widest) || pack.Cell(id, widest, 5) != 5 || pack.Common(id, id+1, widest) != 2 {
					t.Errorf("P3: %v, %v, %v", told, l, err)
				}
			}
		})
	}
	each.Wait()
}
