package cost_test

import (
	"errors"
	"math"
	"slices"
	"strconv"
	"strings"
	"testing"

	"roundsman/api"
	"roundsman/cost"
)

// some are costs at and around the edges, and numbers that are none.
func some() []int64 {
	return []int64{
		math.MinInt64, math.MinInt64 + 1, -api.Inf - 1, -api.Inf, -api.MaxWeight, -2, -1,
		0, 1, 2, 9, 10, 11, 99, 100, 1234567890,
		api.MaxWeight - 1, api.MaxWeight, api.MaxWeight + 1,
		api.Inf / 2, api.Inf/2 + 1, api.Inf - 2, api.Inf - 1, api.Inf, api.Inf + 1,
		2 * api.Inf, 4 * api.Inf, math.MaxInt64 - 1, math.MaxInt64,
	}
}

// W1, P101: what may not be a cost is held to what may be one.
func TestHeld(t *testing.T) {
	for _, c := range []struct{ a, want int64 }{
		{math.MinInt64, 0}, {-api.Inf, 0}, {-2, 0}, {-1, 0},
		{0, 0}, {1, 1}, {api.MaxWeight, api.MaxWeight}, {api.MaxWeight + 1, api.MaxWeight + 1},
		{api.Inf - 1, api.Inf - 1}, {api.Inf, 1 << 60},
		{api.Inf + 1, 1 << 60}, {2 * api.Inf, 1 << 60}, {math.MaxInt64, 1 << 60},
	} {
		if got := cost.Held(c.a); got != c.want {
			t.Errorf("P101: Held(%d): %d; want %d", c.a, got, c.want)
		}
	}
}

// W1, P101: each is held ahead of the sum, and the sum is held.
func TestAdd(t *testing.T) {
	for _, c := range []struct{ a, b, want int64 }{
		{0, 0, 0}, {2, 3, 5}, {0, 7, 7},
		{-5, 3, 3}, {-3, 5, 5}, {-1, -1, 0}, {math.MinInt64, 7, 7}, {math.MinInt64, -1, 0}, {math.MinInt64, math.MinInt64, 0},
		{api.Inf, 0, api.Inf}, {api.Inf, 1, api.Inf}, {api.Inf, -1, api.Inf}, {api.Inf + 5, -5, api.Inf}, {api.Inf, math.MinInt64, api.Inf},
		{api.Inf - 1, 0, api.Inf - 1}, {api.Inf - 1, -1, api.Inf - 1}, {api.Inf - 1, 1, api.Inf}, {api.Inf - 1, 2, api.Inf}, {api.Inf - 2, 1, api.Inf - 1},
		{api.Inf / 2, api.Inf / 2, api.Inf}, {api.Inf / 2, api.Inf/2 - 1, api.Inf - 1}, {api.Inf, api.Inf, api.Inf},
		{math.MaxInt64, 1, api.Inf}, {math.MaxInt64, math.MaxInt64, api.Inf}, {math.MaxInt64, math.MinInt64, api.Inf},
		{api.MaxWeight, api.MaxWeight, 1 << 32},
	} {
		if got := cost.Add(c.a, c.b); got != c.want {
			t.Errorf("P101: Add(%d, %d): %d; want %d", c.a, c.b, got, c.want)
		}
		if got := cost.Add(c.b, c.a); got != c.want {
			t.Errorf("P101: Add(%d, %d): %d; want %d", c.b, c.a, got, c.want)
		}
	}
}

// W1, P101: the sum of all, of none, of one; it stays at Inf, however many follow.
func TestSum(t *testing.T) {
	for i, c := range []struct {
		l    []int64
		want int64
	}{
		{nil, 0}, {[]int64{}, 0}, {[]int64{7}, 7}, {[]int64{0}, 0}, {[]int64{-7}, 0}, {[]int64{math.MaxInt64}, api.Inf},
		{[]int64{1, 2, 3, 4}, 10}, {[]int64{5, -2, 3}, 8}, {[]int64{-2, 5}, 5}, {[]int64{math.MinInt64, math.MinInt64, 4}, 4},
		{[]int64{api.Inf, 1}, api.Inf}, {[]int64{1, api.Inf}, api.Inf}, {[]int64{1, api.Inf, -1}, api.Inf}, {[]int64{api.Inf, -api.Inf}, api.Inf},
		{[]int64{api.Inf - 3, 1, 1}, api.Inf - 1}, {[]int64{api.Inf - 3, 1, 1, 1}, api.Inf}, {[]int64{api.Inf - 3, 1, 1, 1, 1}, api.Inf},
		{slices.Repeat([]int64{api.Inf}, 8), api.Inf}, {slices.Repeat([]int64{api.Inf}, 15), api.Inf}, {slices.Repeat([]int64{api.Inf}, 16), api.Inf}, {slices.Repeat([]int64{api.Inf}, 17), api.Inf},
		{slices.Repeat([]int64{math.MaxInt64}, 3), api.Inf}, {slices.Repeat([]int64{api.Inf / 2}, 33), api.Inf},
		{slices.Repeat([]int64{api.MaxWeight}, 1000), 1000 << 31}, {slices.Repeat([]int64{1}, 100000), 100000},
	} {
		if got := cost.Sum(c.l...); got != c.want {
			t.Errorf("P101: Sum %d: %d; want %d", i, got, c.want)
		}
	}
}

// P101: Sum of two is Add, of one is Held.
func TestSumIsAdd(t *testing.T) {
	for _, a := range some() {
		if cost.Sum(a) != cost.Held(a) {
			t.Errorf("P101: Sum(%d): %d", a, cost.Sum(a))
		}
		for _, b := range some() {
			if cost.Sum(a, b) != cost.Add(a, b) {
				t.Errorf("P101: Sum(%d, %d): %d", a, b, cost.Sum(a, b))
			}
		}
	}
}

// P9, P101: the least one as it is held; of several that are as good, the first one.
func TestLeast(t *testing.T) {
	for i, c := range []struct {
		l     []int64
		at    int
		least int64
	}{
		{nil, -1, api.Inf}, {[]int64{}, -1, api.Inf},
		{[]int64{5}, 0, 5}, {[]int64{0}, 0, 0}, {[]int64{-4}, 0, 0}, {[]int64{api.Inf}, 0, api.Inf}, {[]int64{math.MaxInt64}, 0, api.Inf},
		{[]int64{1, 2, 3}, 0, 1}, {[]int64{2, 1, 3}, 1, 1}, {[]int64{3, 2, 1}, 2, 1},
		{[]int64{3, 3, 3}, 0, 3}, {[]int64{5, 3, 3, 4}, 1, 3}, {[]int64{3, 5, 3}, 0, 3},
		{[]int64{0, -7}, 0, 0}, {[]int64{-1, -7}, 0, 0}, {[]int64{-7, 0}, 0, 0}, {[]int64{4, -7, 0}, 1, 0}, {[]int64{1, 0, math.MinInt64}, 1, 0},
		{[]int64{api.Inf, api.Inf}, 0, api.Inf}, {[]int64{math.MaxInt64, api.Inf}, 0, api.Inf}, {[]int64{api.Inf + 2, api.Inf + 1}, 0, api.Inf},
		{[]int64{api.Inf, api.Inf - 1}, 1, api.Inf - 1}, {[]int64{math.MaxInt64, api.Inf, 9, api.Inf}, 2, 9},
	} {
		if at, least := cost.Least(c.l...); at != c.at || least != c.least {
			t.Errorf("P101: Least %d: %d, %d; want %d, %d", i, at, least, c.at, c.least)
		}
	}
}

// The table of limits, P101: a weight is at most 2^31, or Inf.
func TestWeight(t *testing.T) {
	for _, c := range []struct {
		a    int64
		want bool
	}{
		{math.MinInt64, false}, {-api.Inf, false}, {-api.MaxWeight, false}, {-1, false},
		{0, true}, {1, true}, {1<<31 - 1, true}, {1 << 31, true},
		{1<<31 + 1, false}, {1 << 32, false}, {1<<32 + 1, false}, {api.Inf / 2, false}, {api.Inf - 1, false},
		{api.Inf, true}, {api.Inf + 1, false}, {2 * api.Inf, false}, {math.MaxInt64, false},
	} {
		if got := cost.Weight(c.a); got != c.want {
			t.Errorf("P101: Weight(%d): %v", c.a, got)
		}
	}
}

// P101: decimal digits without a nought ahead, as it is held; Inf by a sign of its own.
func TestText(t *testing.T) {
	for _, c := range []struct {
		a    int64
		want string
	}{
		{0, "0"}, {-1, "0"}, {math.MinInt64, "0"},
		{1, "1"}, {9, "9"}, {10, "10"}, {100, "100"}, {1200340056, "1200340056"}, {1 << 31, "2147483648"},
		{api.Inf - 1, "1152921504606846975"}, {api.Inf, "-"}, {api.Inf + 1, "-"}, {math.MaxInt64, "-"},
	} {
		if got := cost.Text(c.a); got != c.want {
			t.Errorf("P101: Text(%d): %q; want %q", c.a, got, c.want)
		}
	}
}

// P102: what Text tells is read.
func TestRead(t *testing.T) {
	for _, c := range []struct {
		s    string
		want int64
	}{
		{"0", 0}, {"1", 1}, {"5", 5}, {"9", 9}, {"10", 10}, {"1000", 1000}, {"9876543210", 9876543210},
		{"2147483648", 1 << 31}, {"2147483649", 1<<31 + 1}, {"999999999999999999", 999999999999999999},
		{"1000000000000000000", 1000000000000000000}, {"1152921504606846974", api.Inf - 2}, {"1152921504606846975", api.Inf - 1},
		{"-", api.Inf},
	} {
		if got, err := cost.Read(c.s); got != c.want || err != nil {
			t.Errorf("P102: Read(%q): %d, %v; want %d", c.s, got, err, c.want)
		}
	}
}

// T5, P101, P102: what is written is read as it was.
func TestReadIsText(t *testing.T) {
	for _, a := range some() {
		if got, err := cost.Read(cost.Text(a)); got != cost.Held(a) || err != nil {
			t.Errorf("P102: Read(Text(%d)): %d, %v", a, got, err)
		}
	}
	for a := range int64(2000) {
		s := strconv.FormatInt(a, 10)
		if got, err := cost.Read(s); got != a || err != nil || cost.Text(a) != s {
			t.Errorf("P102: %q: %d, %v, %q", s, got, err, cost.Text(a))
		}
	}
}

// refused looks at the whole of a refusal: P4's zero beside it, and P12's Fault with the Errno right within.
func refused(t *testing.T, s string, want api.Errno) {
	t.Helper()
	told := strconv.Quote(s[:min(len(s), 40)])
	got, err := cost.Read(s)
	if got != 0 {
		t.Errorf("P4, P102: Read(%s): %d beside %v", told, got, err)
	}
	f, ok := err.(*api.Fault)
	if !ok || f == nil {
		t.Errorf("P12, P102: Read(%s): %v is no Fault", told, err)
		return
	}
	if *f != (api.Fault{Part: "cost", At: 0, Err: want}) {
		t.Errorf("P102: Read(%s): %v; want cost 0: %v", told, err, want)
	}
}

// P102: each byte is looked at, and nothing but Text's own form is taken.
func TestReadForm(t *testing.T) {
	for _, s := range []string{
		"", "00", "01", "007", "0-", "-0", "-1", "--", "+", "+1", "- ", " -", " ", " 1", "1 ", "1 2", "\t1", "1\n", "1\x00", "\x00",
		"1-", "-5-", "1,000", "1_000", "_1", "1.0", ".5", "1e3", "0x1", "0b1", "0o7", "1f", "a", "inf", "Inf", "x", "/", ":", "1/", "1:",
		"\u0661", "\uff11", "1\u0661", "\u2212", "\u2013", "\xff", "1\xff", "\xb0", "\xb1",
		strings.Repeat("0", 25), "0" + strings.Repeat("9", 25), strings.Repeat("0", 1<<20), strings.Repeat("-", 1<<20),
	} {
		refused(t, s, api.ErrForm)
	}
	for b := range 256 {
		if '0' <= b && b <= '9' {
			continue
		}
		if b != '-' {
			refused(t, string([]byte{byte(b)}), api.ErrForm)
		}
		refused(t, string([]byte{byte(b), '4'}), api.ErrForm)
		refused(t, string([]byte{'4', byte(b)}), api.ErrForm)
		refused(t, string([]byte{'4', byte(b), '2'}), api.ErrForm)
	}
}

// P102: from Inf on no number is taken, however long it is, and wherever 64 bits wrap round.
func TestReadRange(t *testing.T) {
	for _, s := range []string{
		"1152921504606846976", "1152921504606846977", "1152921504606846980", "1152921504606847000", "2000000000000000000",
		"9223372036854775807", "9223372036854775808", "9223372036854775809", "9999999999999999999",
		"10000000000000000000", "11529215046068469750", "11529215046068469759", "18446744073709551615", "18446744073709551616", "18446744073709551623",
		"19599665578316398592", "36893488147419103239", "99999999999999999999", "100000000000000000000", "340282366920938463463374607431768211456",
		"1" + strings.Repeat("0", 64), "1" + strings.Repeat("0", 128), strings.Repeat("9", 1<<20), "1" + strings.Repeat("0", 1<<20),
	} {
		refused(t, s, api.ErrRange)
	}
}

// P6, P102: a form that is none is told ahead of a number that is too great.
func TestReadFormFirst(t *testing.T) {
	for _, s := range []string{
		"1152921504606846976x", "x1152921504606846976", "-1152921504606846976", "01152921504606846976", "1152921504606846976 ",
		"99999999999999999999999-", strings.Repeat("9", 1<<20) + "x", "0" + strings.Repeat("9", 1<<20),
	} {
		refused(t, s, api.ErrForm)
	}
}

// P12: the error is asked by errors.Is and errors.As; P7: each one is new.
func TestReadFault(t *testing.T) {
	for s, want := range map[string]api.Errno{"x": api.ErrForm, "1152921504606846976": api.ErrRange} {
		_, err := cost.Read(s)
		for e := api.OK; e <= api.ErrFar; e++ {
			if errors.Is(err, e) != (e == want) {
				t.Errorf("P12, P102: Read(%q): %v is %v: %v", s, err, e, errors.Is(err, e))
			}
		}
		var f *api.Fault
		if !errors.As(err, &f) || f.Part != "cost" || f.At != 0 || err.Error() != "cost 0: "+want.Error() {
			t.Errorf("P12, P102: Read(%q): %v", s, err)
			continue
		}
		f.Part, f.At, f.Err = "other", 9, api.ErrSum
		refused(t, s, want)
	}
}

// P2: lists that are handed in stay as they are, their spare room too; P3: asked again, the same is told.
func TestListsStay(t *testing.T) {
	room := append(some(), -8, api.Inf+8, 3)
	want := slices.Clone(room)
	l := room[:len(room)-3]
	sum := cost.Sum(l...)
	at, least := cost.Least(l...)
	if !slices.Equal(room, want) {
		t.Errorf("P2, P101: %v; want %v", room, want)
	}
	if again := cost.Sum(l...); again != sum || sum != api.Inf {
		t.Errorf("P3, P101: Sum: %d, %d", sum, again)
	}
	if at2, least2 := cost.Least(l...); at2 != at || least2 != least || at != 0 || least != 0 {
		t.Errorf("P3, P101: Least: %d, %d, %d, %d", at, least, at2, least2)
	}
}
