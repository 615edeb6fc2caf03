// Package fix is layer 1: numbers in millionths, their texts, and sums that stay at an end: see shared/doc/01-fix.md.
package fix

import (
	"iter"
	"math"
	"strconv"
	"strings"

	"tidemill/api"
)

const (
	million     = 1_000_000 // a whole one, in millionths
	wholeDigits = 12        // the most that Read takes: any such number is an int
	partDigits  = 6         // of a fraction
	mostTimes   = 1_000_000
)

// Text: a number's.
func Text(n int) string {
	sign := ""
	size := uint64(n)
	if n < 0 {
		// Unsigned, because the least int has no counterpart above 0.
		sign, size = "-", -size
	}
	return sign + strconv.FormatUint(size/million, 10) + fraction(size%million)
}

// fraction: the text of so many millionths, below a whole one, with its dot.
func fraction(part uint64) string {
	if part == 0 {
		return ""
	}
	behind := strconv.FormatUint(part, 10)
	ahead := strings.Repeat("0", partDigits-len(behind))
	return "." + ahead + strings.TrimRight(behind, "0")
}

// Read: a text's number.
func Read(s string) (int, api.Errno) {
	size, below := strings.CutPrefix(s, "-")
	left, right, dot := strings.Cut(size, ".")
	whole, good := digits(left, wholeDigits)
	if !good {
		return 0, api.ErrValue
	}
	part := 0
	if dot {
		if part, good = digits(right, partDigits); !good {
			return 0, api.ErrValue
		}
		for range partDigits - len(right) {
			part *= 10
		}
	}
	n := whole*million + part
	if below {
		n = -n
	}
	return n, api.OK
}

// digits: the number that one digit, or more up to most, tell; false, if s isn't that.
func digits(s string, most int) (int, bool) {
	if len(s) == 0 || len(s) > most {
		return 0, false
	}
	n := 0
	for _, r := range s {
		if r < '0' || r > '9' {
			return 0, false
		}
		n = n*10 + int(r-'0')
	}
	return n, true
}

// Add: the saturating sum; did it go over?
func Add(a, b int) (int, bool) {
	switch {
	case b > 0 && a > math.MaxInt-b:
		return math.MaxInt, true
	case b < 0 && a < math.MinInt-b:
		return math.MinInt, true
	}
	return a + b, false
}

// Times: a number so many times; did it go over?
func Times(n, k int) (int, bool) {
	return Sum(again(n, min(max(k, 0), mostTimes)))
}

// again: n, k times.
func again(n, k int) iter.Seq[int] {
	return func(yield func(int) bool) {
		for range k {
			if !yield(n) {
				return
			}
		}
	}
}

// Sum: of all; did one go over?
func Sum(l iter.Seq[int]) (int, bool) {
	if l == nil {
		// Ranging over no function panics; no list is an empty one (R5).
		return 0, false
	}
	sum, over := 0, false
	for n := range l {
		next, went := Add(sum, n)
		sum, over = next, over || went
	}
	return sum, over
}
