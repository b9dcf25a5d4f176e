package turn_test

import (
	"errors"
	"math"
	"slices"
	"testing"

	"roundsman/api"
	"roundsman/cost"
	"roundsman/turn"
)

// zero tells whether t is what stands beside an error.
func zero(t turn.Table) bool {
	return t.Ins == 0 && t.Outs == 0 && len(t.Costs) == 0
}

// like tells whether t has these; it asks no face of the package.
func like(t turn.Table, ins, outs int, costs ...int64) bool {
	return t.Ins == ins && t.Outs == outs && slices.Equal(t.Costs, costs)
}

// refused looks at the whole of a refusal: P12's Fault, and the Errno right within.
func refused(t *testing.T, what string, err error, at int, want api.Errno) {
	t.Helper()
	f, ok := err.(*api.Fault)
	if !ok || f == nil {
		t.Errorf("P12, P201: %s: %v is no Fault", what, err)
		return
	}
	if *f != (api.Fault{Part: "turn", At: at, Err: want}) {
		t.Errorf("P201: %s: %v; want turn %d: %v", what, err, at, want)
	}
}

// counting has ins times outs costs, each of its own: its place and 1.
func counting(ins, outs int) turn.Table {
	t := turn.Table{Ins: ins, Outs: outs}
	for i := range ins * outs {
		t.Costs = append(t.Costs, int64(i+1))
	}
	return t
}

// no are numbers of which there is never an in or an out.
func no() []int {
	return []int{math.MinInt, math.MinInt + 1, -math.MaxInt32, -17, -16, -2, -1, 16, 17, 255, 256, 1 << 31, 1 << 32, 1 << 60, 1 << 62, math.MaxInt - 1, math.MaxInt}
}

// wrong are tables that Check does not take.
func wrong() []turn.Table {
	l := []turn.Table{
		{Ins: 2, Outs: 2}, {Ins: 2, Outs: 2, Costs: []int64{1}}, {Ins: 2, Outs: 2, Costs: []int64{1, 2, 3}}, {Ins: 2, Outs: 2, Costs: []int64{1, 2, 3, 4, 5}},
		{Costs: []int64{1}}, {Ins: 1, Costs: []int64{1}}, {Outs: 1, Costs: []int64{1}},
		{Ins: 1, Outs: 2, Costs: []int64{-1, math.MinInt64}}, {Ins: 1, Outs: 2, Costs: []int64{math.MaxInt64, api.Inf + 1}},
		{Ins: -1, Outs: -1, Costs: []int64{1}}, {Ins: -1, Outs: 4, Costs: []int64{1}}, {Ins: 4, Outs: -1, Costs: []int64{1}},
		{Ins: 17, Outs: 1, Costs: make([]int64, 17)}, {Ins: 1, Outs: 17, Costs: make([]int64, 17)},
		{Ins: 1 << 32, Outs: 1 << 32}, {Ins: 1 << 32, Outs: 1 << 32, Costs: []int64{1, 2, 3}},
		{Ins: math.MaxInt, Outs: math.MaxInt, Costs: []int64{7}}, {Ins: math.MinInt, Outs: math.MinInt}, {Ins: 1 << 62, Outs: 2, Costs: []int64{4, 5}},
	}
	return l
}

// The table of limits, P201: from 0 to 16 Ins and Outs, and a cost from 0 to 2^31, or Inf.
func TestCheckTakes(t *testing.T) {
	for ins := range 17 {
		for outs := range 17 {
			if err := turn.Check(turn.Table{Ins: ins, Outs: outs, Costs: make([]int64, ins*outs)}); err != nil {
				t.Errorf("P201: Check %d, %d: %v", ins, outs, err)
			}
		}
	}
	for i, c := range []turn.Table{
		{}, {Costs: []int64{}}, {Ins: 3}, {Outs: 3, Costs: []int64{}}, {Ins: 16}, {Outs: 16},
		{Ins: 1, Outs: 1, Costs: []int64{0}}, {Ins: 1, Outs: 1, Costs: []int64{1 << 31}}, {Ins: 1, Outs: 1, Costs: []int64{api.Inf}},
		{Ins: 2, Outs: 3, Costs: []int64{0, 1, api.Inf, 1<<31 - 1, 1 << 31, api.Inf}},
	} {
		if err := turn.Check(c); err != nil {
			t.Errorf("P201: Check %d: %v", i, err)
		}
	}
}

// The table of limits, P9, P201: how many Ins and Outs there are is refused, not clamped.
func TestCheckCounts(t *testing.T) {
	for _, n := range []int{math.MinInt, -1 << 32, -16, -1, 17, 18, 256, 1 << 31, 1 << 32, 1 << 62, math.MaxInt} {
		refused(t, "Check: Ins", turn.Check(turn.Table{Ins: n, Outs: 1}), 0, api.ErrArg)
		refused(t, "Check: Ins beside no Outs", turn.Check(turn.Table{Ins: n}), 0, api.ErrArg)
		refused(t, "Check: Outs", turn.Check(turn.Table{Ins: 1, Outs: n}), 1, api.ErrArg)
		refused(t, "Check: Outs beside no Ins", turn.Check(turn.Table{Outs: n}), 1, api.ErrArg)
		refused(t, "Check: Ins and Outs", turn.Check(turn.Table{Ins: n, Outs: n}), 0, api.ErrArg)
	}
	refused(t, "Check: 17 Ins, all Costs", turn.Check(turn.Table{Ins: 17, Outs: 1, Costs: make([]int64, 17)}), 0, api.ErrArg)
	refused(t, "Check: 17 Outs, all Costs", turn.Check(turn.Table{Ins: 1, Outs: 17, Costs: make([]int64, 17)}), 1, api.ErrArg)
	refused(t, "Check: -1 by -1, one cost", turn.Check(turn.Table{Ins: -1, Outs: -1, Costs: []int64{0}}), 0, api.ErrArg)
}

// P201: Costs are just as many as Ins times Outs.
func TestCheckLength(t *testing.T) {
	for _, c := range []struct{ ins, outs, costs int }{
		{0, 0, 1}, {0, 3, 1}, {0, 3, 3}, {3, 0, 1}, {3, 0, 3}, {1, 1, 0}, {1, 1, 2}, {2, 3, 0}, {2, 3, 2}, {2, 3, 5}, {2, 3, 7}, {2, 3, 9}, {2, 3, 12},
		{16, 16, 0}, {16, 16, 16}, {16, 16, 255}, {16, 16, 257}, {16, 16, 4096},
	} {
		refused(t, "Check: how many Costs", turn.Check(turn.Table{Ins: c.ins, Outs: c.outs, Costs: make([]int64, c.costs)}), 2, api.ErrTurn)
	}
	refused(t, "Check: no Costs", turn.Check(turn.Table{Ins: 1, Outs: 1}), 2, api.ErrTurn)
	room := make([]int64, 5, 6)
	refused(t, "Check: the sixth in the spare room", turn.Check(turn.Table{Ins: 2, Outs: 3, Costs: room}), 2, api.ErrTurn)
}

// The table of limits, P201: each of the Costs is looked at, and told by its place.
func TestCheckRange(t *testing.T) {
	for _, bad := range []int64{math.MinInt64, -api.Inf, -1, 1<<31 + 1, 1 << 32, api.Inf / 2, api.Inf - 1, api.Inf + 1, 2 * api.Inf, math.MaxInt64} {
		for i := range 6 {
			l := make([]int64, 6)
			l[i] = bad
			refused(t, "Check: a cost", turn.Check(turn.Table{Ins: 2, Outs: 3, Costs: l}), 3+i, api.ErrRange)
			for j := i + 1; j < 6; j++ {
				l[j] = -1
			}
			refused(t, "Check: costs from here on", turn.Check(turn.Table{Ins: 2, Outs: 3, Costs: l}), 3+i, api.ErrRange)
		}
	}
	last := make([]int64, 256)
	last[255] = -1
	refused(t, "Check: the last cost", turn.Check(turn.Table{Ins: 16, Outs: 16, Costs: last}), 258, api.ErrRange)
}

// P6, P201: Ins ahead of Outs, these ahead of how many Costs there are, that ahead of the Costs.
func TestCheckOrder(t *testing.T) {
	refused(t, "Check: all", turn.Check(turn.Table{Ins: -1, Outs: 17, Costs: []int64{-1}}), 0, api.ErrArg)
	refused(t, "Check: Ins, Costs", turn.Check(turn.Table{Ins: 17, Outs: 2, Costs: []int64{-1}}), 0, api.ErrArg)
	refused(t, "Check: Outs, Costs", turn.Check(turn.Table{Ins: 2, Outs: -1, Costs: []int64{-1}}), 1, api.ErrArg)
	refused(t, "Check: too few Costs, one wrong", turn.Check(turn.Table{Ins: 2, Outs: 2, Costs: []int64{-1}}), 2, api.ErrTurn)
	refused(t, "Check: too many Costs, one wrong", turn.Check(turn.Table{Ins: 1, Outs: 1, Costs: []int64{-1, 0}}), 2, api.ErrTurn)
}

// P201: a Table of these, all 0, which Check takes.
func TestFree(t *testing.T) {
	for ins := range 17 {
		for outs := range 17 {
			got, err := turn.Free(ins, outs)
			if err != nil || !like(got, ins, outs, make([]int64, ins*outs)...) || turn.Check(got) != nil {
				t.Errorf("P201: Free(%d, %d): %v, %v", ins, outs, got, err)
			}
		}
	}
}

// P4, P201: Free's errors are Check's, and no Table stands beside one.
func TestFreeRefuses(t *testing.T) {
	for _, n := range []int{math.MinInt, -1 << 32, -17, -1, 17, 256, 1 << 31, 1 << 32, 1 << 62, math.MaxInt} {
		for _, m := range []int{0, 1, 16} {
			got, err := turn.Free(n, m)
			refused(t, "Free: ins", err, 0, api.ErrArg)
			if !zero(got) {
				t.Errorf("P4, P201: Free(%d, %d): %v beside %v", n, m, got, err)
			}
			got, err = turn.Free(m, n)
			refused(t, "Free: outs", err, 1, api.ErrArg)
			if !zero(got) {
				t.Errorf("P4, P201: Free(%d, %d): %v beside %v", m, n, got, err)
			}
		}
		got, err := turn.Free(n, n)
		refused(t, "Free: both", err, 0, api.ErrArg)
		if !zero(got) {
			t.Errorf("P4, P201: Free(%d, %d): %v beside %v", n, n, got, err)
		}
	}
}

// P201: all is 0 but from each in into the out of its number.
func TestBack(t *testing.T) {
	for n := range 17 {
		got, err := turn.Back(n)
		if err != nil || got.Ins != n || got.Outs != n || len(got.Costs) != n*n || turn.Check(got) != nil {
			t.Errorf("P201: Back(%d): %v, %v", n, got, err)
			continue
		}
		for in := range n {
			for out := range n {
				want := int64(0)
				if in == out {
					want = api.Inf
				}
				if c := got.Costs[in*n+out]; c != want {
					t.Errorf("P201: Back(%d): %d from %d into %d", n, c, in, out)
				}
			}
		}
	}
	got, err := turn.Back(3)
	if err != nil || !like(got, 3, 3, api.Inf, 0, 0, 0, api.Inf, 0, 0, 0, api.Inf) {
		t.Errorf("P201: Back(3): %v, %v", got, err)
	}
}

// P4, P201: Back's errors are Check's, of the Ins first.
func TestBackRefuses(t *testing.T) {
	for _, n := range []int{math.MinInt, -1 << 32, -17, -1, 17, 256, 1 << 31, 1 << 32, 1 << 62, math.MaxInt} {
		got, err := turn.Back(n)
		refused(t, "Back", err, 0, api.ErrArg)
		if !zero(got) {
			t.Errorf("P4, P201: Back(%d): %v beside %v", n, got, err)
		}
	}
}

// P201: in by in, of each out by out.
func TestAt(t *testing.T) {
	for ins := range 17 {
		for outs := range 17 {
			table, want := counting(ins, outs), int64(0)
			for in := range ins {
				for out := range outs {
					want++
					if got := turn.At(table, in, out); got != want {
						t.Errorf("P201: At of %d, %d: %d from %d into %d; want %d", ins, outs, got, in, out, want)
					}
				}
			}
		}
	}
	edges := turn.Table{Ins: 2, Outs: 2, Costs: []int64{0, api.Inf, 1 << 31, 5}}
	if turn.At(edges, 0, 0) != 0 || turn.At(edges, 0, 1) != api.Inf || turn.At(edges, 1, 0) != 1<<31 || turn.At(edges, 1, 1) != 5 {
		t.Errorf("P201: At of %v", edges)
	}
}

// P201: Inf where there is no such in or out, even if another turn stands at the place that they come to.
func TestAtNone(t *testing.T) {
	table := counting(3, 4)
	for _, c := range []struct{ in, out int }{
		{-1, 0}, {-1, 4}, {-1, 5}, {0, -1}, {1, -1}, {2, -4}, {2, -8}, {3, -1}, {3, 0}, {3, -12},
		{0, 4}, {0, 5}, {0, 11}, {1, 4}, {2, 4}, {3, 4}, {-2, 9}, {4, -5}, {1 << 62, 0}, {1 << 62, 3}, {0, 1 << 62}, {-1 << 62, 2},
	} {
		if got := turn.At(table, c.in, c.out); got != api.Inf {
			t.Errorf("P201: At(%d, %d): %d", c.in, c.out, got)
		}
	}
	for _, n := range no() {
		for m := range 4 {
			if a, b := turn.At(table, n, m), turn.At(table, m, n); a != api.Inf || b != api.Inf {
				t.Errorf("P201: At(%d, %d): %d, the other way %d", n, m, a, b)
			}
		}
		for _, m := range no() {
			if got := turn.At(table, n, m); got != api.Inf {
				t.Errorf("P201: At(%d, %d): %d", n, m, got)
			}
		}
	}
	for _, none := range []turn.Table{{}, {Ins: 3}, {Outs: 4}} {
		if got := turn.At(none, 0, 0); got != api.Inf {
			t.Errorf("P201: At(0, 0) of %v: %d", none, got)
		}
	}
}

// P201: just that turn costs otherwise; P5, P2: the Table that is handed in does not.
func TestWith(t *testing.T) {
	for _, c := range []int64{0, 1, 77, 1<<31 - 1, 1 << 31, api.Inf} {
		for in := range 3 {
			for out := range 4 {
				table := counting(3, 4)
				want := counting(3, 4)
				want.Costs[4*in+out] = c
				got, err := turn.With(table, in, out, c)
				if err != nil || !like(got, 3, 4, want.Costs...) {
					t.Errorf("P201: With(%d, %d, %d): %v, %v; want %v", in, out, c, got, err, want)
				}
				if !like(table, 3, 4, counting(3, 4).Costs...) {
					t.Errorf("P2, P201: With(%d, %d, %d): %v is left", in, out, c, table)
				}
			}
		}
	}
	most := counting(16, 16)
	got, err := turn.With(most, 15, 15, api.Inf)
	if err != nil || got.Ins != 16 || got.Outs != 16 || !slices.Equal(got.Costs[:255], most.Costs[:255]) || got.Costs[255] != api.Inf || len(got.Costs) != 256 {
		t.Errorf("P201: With(15, 15): %v, %v", got, err)
	}
	one, err := turn.With(turn.Table{Ins: 1, Outs: 1, Costs: []int64{api.Inf}}, 0, 0, 0)
	if err != nil || !like(one, 1, 1, 0) {
		t.Errorf("P201: With of one: %v, %v", one, err)
	}
}

// withRefused looks at With's refusal, and that nothing stands beside it or has changed.
func withRefused(t *testing.T, in, out int, c int64, at int, want api.Errno) {
	t.Helper()
	table := counting(3, 4)
	got, err := turn.With(table, in, out, c)
	refused(t, "With", err, at, want)
	if !zero(got) {
		t.Errorf("P4, P201: With(%d, %d, %d): %v beside %v", in, out, c, got, err)
	}
	if !like(table, 3, 4, counting(3, 4).Costs...) {
		t.Errorf("P5, P201: With(%d, %d, %d): %v is left", in, out, c, table)
	}
}

// P9, P201: no such in, no such out, no weight; P6: in that order.
func TestWithRefuses(t *testing.T) {
	for _, n := range append(no(), 3, 4, 5, 12) {
		withRefused(t, n, 0, 1, 0, api.ErrName)
		withRefused(t, n, 3, api.Inf, 0, api.ErrName)
		withRefused(t, n, -1, 1, 0, api.ErrName)
		withRefused(t, n, 4, -1, 0, api.ErrName)
		withRefused(t, n, 0, -1, 0, api.ErrName)
	}
	for _, n := range append(no(), 4, 5, 12) {
		withRefused(t, 0, n, 1, 1, api.ErrName)
		withRefused(t, 2, n, api.Inf, 1, api.ErrName)
		withRefused(t, 1, n, -1, 1, api.ErrName)
		withRefused(t, 1, n, math.MaxInt64, 1, api.ErrName)
		withRefused(t, 3, n, 1, 0, api.ErrName)
	}
	for _, c := range []int64{math.MinInt64, -api.Inf, -1, 1<<31 + 1, 1 << 32, api.Inf / 2, api.Inf - 1, api.Inf + 1, 2 * api.Inf, math.MaxInt64} {
		withRefused(t, 0, 0, c, 2, api.ErrRange)
		withRefused(t, 2, 3, c, 2, api.ErrRange)
	}
	for _, c := range []struct {
		none turn.Table
		at   int
	}{{turn.Table{}, 0}, {turn.Table{Outs: 4}, 0}, {turn.Table{Ins: 3}, 1}} {
		got, err := turn.With(c.none, 0, 0, -1)
		refused(t, "With of none", err, c.at, api.ErrName)
		if !zero(got) {
			t.Errorf("P4, P201: With of %v: %v", c.none, got)
		}
	}
}

// P201: At tells what With set, and elsewhere what it told ahead.
func TestAtIsWith(t *testing.T) {
	table := counting(4, 3)
	for in := range 4 {
		for out := range 3 {
			got, err := turn.With(table, in, out, 99)
			if err != nil {
				t.Errorf("P201: With(%d, %d): %v", in, out, err)
			}
			for i := range 4 {
				for o := range 3 {
					want := turn.At(table, i, o)
					if i == in && o == out {
						want = 99
					}
					if c := turn.At(got, i, o); c != want {
						t.Errorf("P201: With(%d, %d): %d from %d into %d; want %d", in, out, c, i, o, want)
					}
				}
			}
		}
	}
}

// P201: a turn is forbidden just if it costs Inf.
func TestBans(t *testing.T) {
	for i, c := range []struct {
		table turn.Table
		want  int
	}{
		{turn.Table{}, 0}, {turn.Table{Ins: 5}, 0}, {turn.Table{Outs: 5}, 0}, {counting(16, 16), 0},
		{turn.Table{Ins: 1, Outs: 1, Costs: []int64{0}}, 0}, {turn.Table{Ins: 1, Outs: 1, Costs: []int64{1 << 31}}, 0}, {turn.Table{Ins: 1, Outs: 1, Costs: []int64{api.Inf}}, 1},
		{turn.Table{Ins: 2, Outs: 3, Costs: []int64{api.Inf, 0, 1, 1 << 31, 0, api.Inf}}, 2}, {turn.Table{Ins: 1, Outs: 3, Costs: []int64{0, api.Inf, 0}}, 1},
		{turn.Table{Ins: 16, Outs: 16, Costs: slices.Repeat([]int64{api.Inf}, 256)}, 256},
	} {
		if got := turn.Bans(c.table); got != c.want {
			t.Errorf("P201: Bans %d: %d; want %d", i, got, c.want)
		}
	}
	room := []int64{api.Inf, 0, api.Inf, api.Inf}
	if got := turn.Bans(turn.Table{Ins: 1, Outs: 2, Costs: room[:2]}); got != 1 {
		t.Errorf("P201: Bans beside spare room: %d", got)
	}
	for n := range 17 {
		back, _ := turn.Back(n)
		free, _ := turn.Free(n, n)
		if turn.Bans(back) != n || turn.Bans(free) != 0 {
			t.Errorf("P201: Bans of Back(%d), Free: %d, %d", n, turn.Bans(back), turn.Bans(free))
		}
	}
}

// P2, P10, P201: Same is asked of any two; no list and an empty one are the same.
func TestSame(t *testing.T) {
	for i, c := range []struct {
		a, b turn.Table
		want bool
	}{
		{turn.Table{}, turn.Table{}, true}, {turn.Table{}, turn.Table{Costs: []int64{}}, true}, {turn.Table{Ins: 2, Costs: []int64{}}, turn.Table{Ins: 2}, true},
		{turn.Table{Ins: 2}, turn.Table{Ins: 3}, false}, {turn.Table{Outs: 2}, turn.Table{Outs: 3}, false}, {turn.Table{Ins: 2}, turn.Table{Outs: 2}, false}, {turn.Table{Ins: 2}, turn.Table{}, false},
		{counting(2, 3), counting(2, 3), true}, {counting(2, 3), counting(3, 2), false}, {counting(1, 6), counting(2, 3), false}, {counting(16, 16), counting(16, 16), true},
		{turn.Table{Ins: 1, Outs: 2, Costs: []int64{1, 2}}, turn.Table{Ins: 1, Outs: 2, Costs: []int64{2, 1}}, false},
		{turn.Table{Ins: 1, Outs: 1, Costs: []int64{api.Inf}}, turn.Table{Ins: 1, Outs: 1, Costs: []int64{api.Inf}}, true},
		{turn.Table{Ins: 1, Outs: 1, Costs: []int64{0}}, turn.Table{Ins: 1, Outs: 1, Costs: []int64{api.Inf}}, false},
		{turn.Table{Ins: 2, Outs: 2}, turn.Table{Ins: 2, Outs: 2}, true}, {turn.Table{Ins: 2, Outs: 2}, turn.Table{Ins: 2, Outs: 2, Costs: []int64{0, 0, 0, 0}}, false},
		{turn.Table{Ins: 2, Outs: 2, Costs: []int64{1, 2, 3}}, turn.Table{Ins: 2, Outs: 2, Costs: []int64{1, 2, 3, 4}}, false},
		{turn.Table{Ins: 1, Outs: 1, Costs: []int64{api.Inf}}, turn.Table{Ins: 1, Outs: 1, Costs: []int64{api.Inf + 1}}, false},
		{turn.Table{Ins: 1, Outs: 1, Costs: []int64{0}}, turn.Table{Ins: 1, Outs: 1, Costs: []int64{-1}}, false},
		{turn.Table{Ins: -1, Outs: 1 << 40, Costs: []int64{-9}}, turn.Table{Ins: -1, Outs: 1 << 40, Costs: []int64{-9}}, true},
	} {
		if turn.Same(c.a, c.b) != c.want || turn.Same(c.b, c.a) != c.want {
			t.Errorf("P201: Same %d: %v, %v: %v", i, c.a, c.b, !c.want)
		}
	}
	for i := range 6 {
		other := counting(2, 3)
		other.Costs[i] = 0
		if turn.Same(counting(2, 3), other) || turn.Same(other, counting(2, 3)) {
			t.Errorf("P201: Same, though cost %d is another one", i)
		}
	}
	for i, a := range wrong() {
		for j, b := range wrong() {
			if turn.Same(a, b) != (i == j) {
				t.Errorf("P10, P201: Same of %v, %v: %v", a, b, i != j)
			}
		}
	}
}

// P201: of two a list in one memory tells the same, but it is its length that counts.
func TestSameOfOneMemory(t *testing.T) {
	l := []int64{4, 4, 4}
	a := turn.Table{Ins: 1, Outs: 2, Costs: l[:2]}
	if !turn.Same(a, a) || !turn.Same(a, turn.Table{Ins: 1, Outs: 2, Costs: l[1:]}) || turn.Same(a, turn.Table{Ins: 1, Outs: 2, Costs: l}) {
		t.Error("P201: Same of one memory")
	}
}

// P1, P8: of a table that Check does not take no call panics; P2: it is left as it was.
func TestWrongTables(t *testing.T) {
	for _, table := range wrong() {
		if turn.Check(table) == nil {
			t.Errorf("P201: Check of %v: nil", table)
		}
		want := slices.Clone(table.Costs)
		numbers := append(no(), 0, 1, 2, 3, table.Ins-1, table.Ins, table.Outs-1, table.Outs)
		for _, in := range numbers {
			for _, out := range numbers {
				turn.At(table, in, out)
				turn.With(table, in, out, 3)
			}
		}
		turn.Bans(table)
		if !slices.Equal(table.Costs, want) {
			t.Errorf("P2: %v; want %v", table.Costs, want)
		}
	}
}

// P2: what is handed in stays as it is, its spare room too; P3: asked again, the same is told.
func TestTableStays(t *testing.T) {
	room := []int64{8, 1, 2, api.Inf, 4, 5, 6, 9, 9}
	want := slices.Clone(room)
	table := turn.Table{Ins: 2, Outs: 3, Costs: room[1:7]}
	for range 2 {
		got, err := turn.With(table, 1, 2, 0)
		if err != nil || !like(got, 2, 3, 1, 2, api.Inf, 4, 5, 0) {
			t.Errorf("P3, P201: With: %v, %v", got, err)
		}
		if turn.Check(table) != nil || turn.Bans(table) != 1 || turn.At(table, 1, 2) != 6 || turn.At(table, 1, 3) != api.Inf || !turn.Same(table, table) {
			t.Errorf("P3, P201: of %v another thing is told", table)
		}
		clear(got.Costs[:cap(got.Costs)])
		if !slices.Equal(room, want) {
			t.Fatalf("P2, P201: %v; want %v", room, want)
		}
	}
	got, _ := turn.With(table, 0, 0, 7)
	clear(room)
	if !like(got, 2, 3, 7, 2, api.Inf, 4, 5, 6) {
		t.Errorf("P2, P201: With's answer is now %v", got)
	}
}

// P2, P7: each answer is new memory.
func TestAnswersAreNew(t *testing.T) {
	a, _ := turn.Free(2, 2)
	b, _ := turn.Free(2, 2)
	c, _ := turn.Back(2)
	for _, l := range [][]int64{a.Costs, c.Costs} {
		for i := range l[:cap(l)] {
			l[:cap(l)][i] = 5
		}
	}
	d, _ := turn.Back(2)
	e, _ := turn.Free(2, 2)
	if !like(b, 2, 2, 0, 0, 0, 0) || !like(e, 2, 2, 0, 0, 0, 0) || !like(d, 2, 2, api.Inf, 0, 0, api.Inf) {
		t.Errorf("P2, P201: %v, %v, %v", b, d, e)
	}
	same, _ := turn.With(b, 0, 1, 0)
	same.Costs[0] = 8
	if !like(b, 2, 2, 0, 0, 0, 0) {
		t.Errorf("P2, P201: With what it cost ahead: %v is left", b)
	}
}

// P12: the errors are asked by errors.Is and errors.As; P7: each one is new.
func TestFaults(t *testing.T) {
	one := turn.Table{Ins: 1, Outs: 1, Costs: []int64{1}}
	for _, c := range []struct {
		call func() error
		at   int
		want api.Errno
		text string
	}{
		{func() error { return turn.Check(turn.Table{Ins: 17}) }, 0, api.ErrArg, "turn 0: arg"},
		{func() error { return turn.Check(turn.Table{Outs: 17}) }, 1, api.ErrArg, "turn 1: arg"},
		{func() error { return turn.Check(turn.Table{Ins: 1, Outs: 1}) }, 2, api.ErrTurn, "turn 2: turn"},
		{func() error { return turn.Check(turn.Table{Ins: 1, Outs: 2, Costs: []int64{0, -1}}) }, 4, api.ErrRange, "turn 4: range"},
		{func() error { _, err := turn.Free(-1, 0); return err }, 0, api.ErrArg, "turn 0: arg"},
		{func() error { _, err := turn.Free(0, -1); return err }, 1, api.ErrArg, "turn 1: arg"},
		{func() error { _, err := turn.Back(-1); return err }, 0, api.ErrArg, "turn 0: arg"},
		{func() error { _, err := turn.With(one, 1, 0, 0); return err }, 0, api.ErrName, "turn 0: name"},
		{func() error { _, err := turn.With(one, 0, 1, 0); return err }, 1, api.ErrName, "turn 1: name"},
		{func() error { _, err := turn.With(one, 0, 0, -1); return err }, 2, api.ErrRange, "turn 2: range"},
	} {
		err := c.call()
		for e := api.OK; e <= api.ErrFar; e++ {
			if errors.Is(err, e) != (e == c.want) {
				t.Errorf("P12, P201: %s: %v is %v: %v", c.text, err, e, errors.Is(err, e))
			}
		}
		var f *api.Fault
		if !errors.As(err, &f) || f.Part != "turn" || f.At != c.at || err.Error() != c.text {
			t.Errorf("P12, P201: %s: %v", c.text, err)
			continue
		}
		f.Part, f.At, f.Err = "other", 9, api.ErrSum
		refused(t, c.text, c.call(), c.at, c.want)
	}
}

// P201: what With takes is what cost.Weight takes, and Check takes what it tells.
func TestWithIsWeight(t *testing.T) {
	for _, c := range []int64{math.MinInt64, -1, 0, 1, 1<<31 - 1, 1 << 31, 1<<31 + 1, api.Inf - 1, api.Inf, api.Inf + 1, math.MaxInt64} {
		got, err := turn.With(counting(2, 2), 1, 0, c)
		if (err == nil) != cost.Weight(c) || turn.Check(got) != nil {
			t.Errorf("P201: With %d: %v, %v", c, got, err)
		}
	}
}
