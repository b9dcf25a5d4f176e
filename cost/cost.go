// Package cost: costs. See doc/01-cost.md.
package cost

import (
	"strconv"

	"roundsman/api"
)

// noWay is how Inf is told as a text.
const noWay = "-"

// Held tells a, held to what a cost may be.
func Held(a int64) int64 {
	return min(max(a, 0), api.Inf)
}

// Add tells the sum of both, each held, and held itself.
func Add(a, b int64) int64 {
	// Each is held ahead, so that the plain sum, 2 * Inf at most, can't wrap round.
	return Held(Held(a) + Held(b))
}

// Sum tells the sum of all, which stays at Inf.
func Sum(l ...int64) int64 {
	sum := int64(0)
	for _, a := range l {
		sum = Add(sum, a)
	}
	return sum
}

// Least tells the place of the least one, and it, held; of none -1 and Inf.
func Least(l ...int64) (int, int64) {
	at, least := -1, api.Inf
	for i, a := range l {
		// The first one is taken whatever it costs: where all are Inf there still is a least one.
		if c := Held(a); at < 0 || c < least {
			at, least = i, c
		}
	}
	return at, least
}

// Weight tells whether an arc or a turn may cost a.
func Weight(a int64) bool {
	return a == api.Inf || 0 <= a && a <= api.MaxWeight
}

// Text tells a, held, in decimal digits, or that there is no way.
func Text(a int64) string {
	c := Held(a)
	if c == api.Inf {
		return noWay
	}
	return strconv.FormatInt(c, 10)
}

// Read tells the cost that Text tells as s.
func Read(s string) (int64, error) {
	if s == noWay {
		return api.Inf, nil
	}
	// The whole form is looked at ahead of the amount, for ErrForm is named ahead of ErrRange.
	if !number(s) {
		return 0, fault(api.ErrForm)
	}
	c := uint64(0)
	for i := range len(s) {
		// Ten times what is below Inf wraps round in 63 bits, but not in 64.
		c = 10*c + uint64(s[i]-'0')
		if c >= uint64(api.Inf) {
			return 0, fault(api.ErrRange)
		}
	}
	return int64(c), nil
}

// number tells whether s is decimal digits, one at least, without a nought ahead of others.
func number(s string) bool {
	if s == "" || s[0] == '0' && len(s) > 1 {
		return false
	}
	for i := range len(s) {
		if s[i] < '0' || s[i] > '9' {
			return false
		}
	}
	return true
}

// fault makes a new Fault each time, so that no two callers share one.
func fault(e api.Errno) error {
	return &api.Fault{Part: "cost", Err: e}
}
