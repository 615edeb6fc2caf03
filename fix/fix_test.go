package fix_test

import (
	"fmt"
	"math"
	"math/big"
	"math/rand"
	"regexp"
	"slices"
	"strings"
	"testing"

	"tidemill/api"
	"tidemill/fix"
)

const mostRead = 999_999_999_999_999_999 // twelve whole digits and six of a fraction

// edges: numbers around which something changes.
func edges() []int {
	l := []int{0, 5, 10, 999_999, 1_000_000, 1_000_001, 1_500_000, 12_345_678, mostRead, mostRead + 1, math.MaxInt / 2, math.MaxInt/2 + 1, math.MaxInt - 1, math.MaxInt}
	for _, n := range slices.Clone(l) {
		l = append(l, -n, n-1, -n-1)
	}
	return l
}

// some: numbers of all sizes, the same ones at each run.
func some(seed int64, many int) []int {
	r := rand.New(rand.NewSource(seed))
	l := make([]int, many)
	for i := range l {
		l[i] = int(r.Uint64()) >> r.Intn(64)
	}
	return l
}

// asText: a number's text, by another way than the program's.
func asText(n int) string {
	whole, part := new(big.Int).QuoRem(big.NewInt(int64(n)), big.NewInt(1_000_000), new(big.Int))
	s := fmt.Sprintf("%s.%06d", whole.Abs(whole), part.Abs(part))
	s = strings.TrimSuffix(strings.TrimRight(s, "0"), ".")
	if n < 0 {
		return "-" + s
	}
	return s
}

// bounded: a sum at its end, if it is no int.
func bounded(sum *big.Int) (int, bool) {
	switch {
	case sum.IsInt64():
		return int(sum.Int64()), false
	case sum.Sign() > 0:
		return math.MaxInt, true
	}
	return math.MinInt, true
}

// asSum: a saturating sum of all, by another way than the program's.
func asSum(l []int) (int, bool) {
	so, over := 0, false
	for _, n := range l {
		next, went := bounded(new(big.Int).Add(big.NewInt(int64(so)), big.NewInt(int64(n))))
		so, over = next, over || went
	}
	return so, over
}

func TestP1_1Text(t *testing.T) {
	cases := []struct {
		n    int
		want string
	}{
		{0, "0"},
		{1, "0.000001"},
		{-1, "-0.000001"},
		{10, "0.00001"},
		{100_000, "0.1"},
		{-500_000, "-0.5"},
		{999_999, "0.999999"},
		{1_000_000, "1"},
		{-1_000_000, "-1"},
		{1_000_001, "1.000001"},
		{1_500_000, "1.5"},
		{10_000_000, "10"},
		{100_100_000, "100.1"},
		{-12_345_678, "-12.345678"},
		{mostRead, "999999999999.999999"},
		{-mostRead, "-999999999999.999999"},
		{mostRead + 1, "1000000000000"},
		{math.MaxInt, "9223372036854.775807"},
		{math.MinInt, "-9223372036854.775808"},
	}
	for _, c := range cases {
		if s := fix.Text(c.n); s != c.want {
			t.Errorf("P1.1: Text(%d): %q, want %q", c.n, s, c.want)
		}
	}
	for _, n := range append(edges(), some(1, 5000)...) {
		if s := fix.Text(n); s != asText(n) {
			t.Errorf("P1.1: Text(%d): %q, want %q", n, s, asText(n))
		}
	}
}

func TestP1_1Read(t *testing.T) {
	cases := []struct {
		s    string
		want int
	}{
		{"0", 0},
		{"-0", 0},
		{"-0.000000", 0},
		{"000000000000.000000", 0},
		{"7", 7_000_000},
		{"007", 7_000_000},
		{"-007", -7_000_000},
		{"01.50", 1_500_000},
		{"1.5", 1_500_000},
		{"1.500000", 1_500_000},
		{"-1.5", -1_500_000},
		{"0.1", 100_000},
		{"0.000001", 1},
		{"-0.000001", -1},
		{"0.0", 0},
		{"000000000001", 1_000_000},
		{"999999999999", 999_999_999_999_000_000},
		{"999999999999.999999", mostRead},
		{"-999999999999.999999", -mostRead},
		{"-999999999999.9", -999_999_999_999_900_000},
	}
	for _, c := range cases {
		if n, e := fix.Read(c.s); n != c.want || e != api.OK {
			t.Errorf("P1.1: Read(%q): %d, %d, want %d", c.s, n, e, c.want)
		}
	}
}

func TestP1_1ReadWrong(t *testing.T) {
	cases := []string{
		"", "-", "--", ".", "-.", "1.", "-1.", ".5", "-.5", "1..5", "1.5.", "1.5.5", "1.5-", "1-", "1.-5", "1-1",
		"--1", "+1", "-+1", "1.+5", " 1", "1 ", "1 .5", "1. 5", "1\n", "\t1", "1\x00", "\x001",
		"1e3", "1E3", "0x1", "1_0", "1,5", "1/2", "1:2", "a", "1a", "NaN", "Inf", "-Inf",
		"1234567890123", "0000000000000", "0000000000001", "-1000000000000", "9223372036854.775807",
		"1.1234567", "1.0000000", "0.0000001", "-1.1234567", "999999999999.9999999", "1.00000000000000000000000",
		"\u0661", "\uff11", "1.\u0661", "\u22121", "1\u00b75", "\ufffd", "\xff", "1\xff", "1.\xff", "\xb1",
		strings.Repeat("9", 20), strings.Repeat("0", 5000), "1." + strings.Repeat("0", 5000),
	}
	for _, s := range cases {
		if n, e := fix.Read(s); n != 0 || e != api.ErrValue {
			t.Errorf("P1.1: Read(%q): %d, %d, want ErrValue", s, n, e)
		}
	}
}

// isNumber: the words of Read as a pattern.
var isNumber = regexp.MustCompile(`^-?[0-9]{1,12}(\.[0-9]{1,6})?$`)

// tryRead holds Read against exact fractions.
func tryRead(t *testing.T, s string) {
	t.Helper()
	want, wantErr := 0, api.ErrValue
	if isNumber.MatchString(s) {
		r, _ := new(big.Rat).SetString(s)
		want, wantErr = int(r.Mul(r, big.NewRat(1_000_000, 1)).Num().Int64()), api.OK
	}
	if n, e := fix.Read(s); n != want || e != wantErr {
		t.Errorf("P1.1: Read(%q): %d, %d, want %d, %d", s, n, e, want, wantErr)
	}
}

func TestP1_1ReadShortTexts(t *testing.T) {
	texts := []string{""}
	for range 6 {
		var longer []string
		for _, s := range texts {
			tryRead(t, s)
			for _, c := range []string{"-", ".", "0", "5", "x"} {
				longer = append(longer, s+c)
			}
		}
		texts = longer
	}
}

func TestP1_1ReadLengths(t *testing.T) {
	digits := "98765432109876"
	for whole := range len(digits) + 1 {
		for _, sign := range []string{"", "-"} {
			tryRead(t, sign+digits[:whole])
			tryRead(t, sign+strings.Repeat("0", whole))
			for part := range 9 {
				tryRead(t, sign+digits[:whole]+"."+digits[:part])
				tryRead(t, sign+strings.Repeat("0", whole)+"."+strings.Repeat("0", part))
			}
		}
	}
}

func TestP1_2(t *testing.T) {
	for _, n := range append(edges(), some(2, 5000)...) {
		want, wantErr := n, api.OK
		if n > mostRead || n < -mostRead {
			want, wantErr = 0, api.ErrValue
		}
		if m, e := fix.Read(fix.Text(n)); m != want || e != wantErr {
			t.Errorf("P1.2: Read(%q): %d, %d, want %d, %d", fix.Text(n), m, e, want, wantErr)
		}
	}
}

func TestP1_1Add(t *testing.T) {
	cases := []struct {
		a, b, want int
		over       bool
	}{
		{0, 0, 0, false},
		{1, 2, 3, false},
		{-5, 3, -2, false},
		{math.MaxInt, 0, math.MaxInt, false},
		{0, math.MinInt, math.MinInt, false},
		{math.MaxInt - 1, 1, math.MaxInt, false},
		{math.MaxInt, 1, math.MaxInt, true},
		{1, math.MaxInt, math.MaxInt, true},
		{math.MinInt + 1, -1, math.MinInt, false},
		{math.MinInt, -1, math.MinInt, true},
		{-1, math.MinInt, math.MinInt, true},
		{math.MaxInt, math.MaxInt, math.MaxInt, true},
		{math.MinInt, math.MinInt, math.MinInt, true},
		{math.MaxInt, math.MinInt, -1, false},
		{math.MinInt, math.MaxInt, -1, false},
	}
	for _, c := range cases {
		if n, over := fix.Add(c.a, c.b); n != c.want || over != c.over {
			t.Errorf("P1.1: Add(%d, %d): %d, %v, want %d, %v", c.a, c.b, n, over, c.want, c.over)
		}
	}
}

func TestP1_3Add(t *testing.T) {
	numbers := append(edges(), some(3, 200)...)
	for _, a := range numbers {
		for _, b := range numbers {
			want, wentOver := bounded(new(big.Int).Add(big.NewInt(int64(a)), big.NewInt(int64(b))))
			if n, over := fix.Add(a, b); n != want || over != wentOver {
				t.Errorf("P1.3: Add(%d, %d): %d, %v, want %d, %v", a, b, n, over, want, wentOver)
			}
		}
	}
}

func TestP1_1Times(t *testing.T) {
	cases := []struct {
		n, k, want int
		over       bool
	}{
		{3, 5, 15, false},
		{-3, 5, -15, false},
		{7, 1, 7, false},
		{7, 0, 0, false},
		{7, -1, 0, false},
		{math.MaxInt, -1, 0, false},
		{7, math.MinInt, 0, false},
		{math.MinInt, 0, 0, false},
		{0, 1_000_000, 0, false},
		{1, 999_999, 999_999, false},
		{1, 1_000_000, 1_000_000, false},
		{1, 1_000_001, 1_000_000, false},
		{-2, math.MaxInt, -2_000_000, false},
		{math.MaxInt, 1, math.MaxInt, false},
		{math.MinInt, 1, math.MinInt, false},
		{math.MaxInt, 2, math.MaxInt, true},
		{math.MinInt, 2, math.MinInt, true},
		{math.MinInt / 2, 2, math.MinInt, false},
		{math.MinInt / 2, 3, math.MinInt, true},
		{math.MaxInt / 2, 3, math.MaxInt, true},
		{math.MaxInt / 1_000_000, 1_000_000, math.MaxInt / 1_000_000 * 1_000_000, false},
		{math.MaxInt/1_000_000 + 1, 1_000_000, math.MaxInt, true},
		{math.MaxInt / 1_000_000, 2_000_000, math.MaxInt / 1_000_000 * 1_000_000, false},
		{math.MinInt/1_000_000 - 1, math.MaxInt, math.MinInt, true},
	}
	for _, c := range cases {
		if n, over := fix.Times(c.n, c.k); n != c.want || over != c.over {
			t.Errorf("P1.1: Times(%d, %d): %d, %v, want %d, %v", c.n, c.k, n, over, c.want, c.over)
		}
	}
}

func TestP1_1Sum(t *testing.T) {
	cases := []struct {
		l    []int
		want int
		over bool
	}{
		{nil, 0, false},
		{[]int{0}, 0, false},
		{[]int{5}, 5, false},
		{[]int{1, 2, 3, -10}, -4, false},
		{[]int{math.MaxInt, math.MinInt, 1}, 0, false},
		{[]int{math.MaxInt, -1, 1}, math.MaxInt, false},
	}
	for _, c := range cases {
		if n, over := fix.Sum(slices.Values(c.l)); n != c.want || over != c.over {
			t.Errorf("P1.1: Sum(%v): %d, %v, want %d, %v", c.l, n, over, c.want, c.over)
		}
	}
	if n, over := fix.Sum(nil); n != 0 || over {
		t.Errorf("P7: Sum(nil): %d, %v, want 0, false", n, over)
	}
}

func TestP1_3Sum(t *testing.T) {
	cases := []struct {
		l    []int
		want int
		over bool
	}{
		{[]int{math.MaxInt, 1}, math.MaxInt, true},
		{[]int{math.MaxInt, 1, 0}, math.MaxInt, true},
		{[]int{math.MaxInt, 1, 2, math.MaxInt}, math.MaxInt, true},
		{[]int{math.MaxInt, 1, -1}, math.MaxInt - 1, true},
		{[]int{math.MaxInt, -1, 1, 1}, math.MaxInt, true},
		{[]int{math.MaxInt, 1, math.MinInt}, -1, true},
		{[]int{math.MinInt, -1, -1}, math.MinInt, true},
		{[]int{math.MinInt, -1, 1}, math.MinInt + 1, true},
		{[]int{math.MinInt, -1, math.MaxInt, math.MaxInt, 5}, math.MaxInt, true},
	}
	for _, c := range cases {
		if n, over := fix.Sum(slices.Values(c.l)); n != c.want || over != c.over {
			t.Errorf("P1.3: Sum(%v): %d, %v, want %d, %v", c.l, n, over, c.want, c.over)
		}
	}
	numbers := append(edges(), some(4, 2000)...)
	for from := range numbers {
		l := numbers[from:min(from+7, len(numbers))]
		want, wentOver := asSum(l)
		if n, over := fix.Sum(slices.Values(l)); n != want || over != wentOver {
			t.Errorf("P1.3: Sum(%v): %d, %v, want %d, %v", l, n, over, want, wentOver)
		}
	}
}

func TestP8SumLeavesItsArgument(t *testing.T) {
	l := []int{math.MaxInt, 1, -1}
	before := slices.Clone(l)
	seq := slices.Values(l)
	first, firstOver := fix.Sum(seq)
	again, againOver := fix.Sum(seq)
	if first != again || firstOver != againOver {
		t.Errorf("P8: Sum twice: %d, %v, then %d, %v", first, firstOver, again, againOver)
	}
	if !slices.Equal(l, before) {
		t.Errorf("P8: Sum changed its list to %v", l)
	}
}
