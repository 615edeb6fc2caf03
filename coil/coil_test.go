package coil_test

import (
	"bytes"
	"iter"
	"math"
	"math/big"
	"math/rand"
	"reflect"
	"slices"
	"strings"
	"testing"

	"tidemill/api"
	"tidemill/coil"
)

const (
	mostInt  = 1<<62 - 1 // the greatest that is coiled as any number
	leastInt = -1 << 62  // the least
)

// asUp: a number from 0 on as bytes, by another way than the program's.
func asUp(n uint64) []byte {
	if n < 128 {
		return []byte{byte(n)}
	}
	l := asUp(n / 128)
	l[len(l)-1] += 128
	return append(l, byte(n%128))
}

// asInt: any number as bytes, by another way than the program's; false, if it isn't coiled.
func asInt(n int) ([]byte, bool) {
	double := new(big.Int).Lsh(big.NewInt(int64(n)), 1)
	if n < 0 {
		double.Neg(double)
		double.Sub(double, big.NewInt(1))
	}
	if !double.IsInt64() {
		return nil, false
	}
	return asUp(double.Uint64()), true
}

// numbers: those around which something changes, and some of all sizes, the same ones at each run.
func numbers(seed int64) []int {
	l := []int{0, 1, 63, 64, 127, 128, 300, mostInt, leastInt, math.MaxInt, math.MinInt, math.MaxInt / 2, math.MinInt / 2}
	for k := range 63 {
		l = append(l, 1<<k)
	}
	for _, n := range slices.Clone(l) {
		l = append(l, -n, n-1, n+1, -n-1, -n+1)
	}
	r := rand.New(rand.NewSource(seed))
	for range 3000 {
		l = append(l, int(r.Uint64())>>r.Intn(64))
	}
	return l
}

// bytesOf: what puts have coiled.
func bytesOf(puts ...func(c *coil.Coil)) []byte {
	c := coil.Coil{}
	for _, put := range puts {
		put(&c)
	}
	return c.Bytes()
}

func TestP3_1UpPuts(t *testing.T) {
	cases := []struct {
		n    int
		want string
	}{
		{0, "\x00"},
		{1, "\x01"},
		{127, "\x7f"},
		{128, "\x81\x00"},
		{300, "\x82\x2c"},
		{16383, "\xff\x7f"},
		{16384, "\x81\x80\x00"},
		{1<<56 - 1, "\xff\xff\xff\xff\xff\xff\xff\x7f"},
		{1 << 56, "\x81\x80\x80\x80\x80\x80\x80\x80\x00"},
		{math.MaxInt, "\xff\xff\xff\xff\xff\xff\xff\xff\x7f"},
	}
	for _, c := range cases {
		if b := bytesOf(func(k *coil.Coil) { k.Up(c.n) }); string(b) != c.want {
			t.Errorf("P3.1: Up(%d): %x, want %x", c.n, b, c.want)
		}
	}
	for _, n := range numbers(1) {
		c := coil.Coil{}
		c.Mark(true)
		want := []byte{1}
		if n >= 0 {
			want = append(want, asUp(uint64(n))...)
		}
		if ok := c.Up(n); ok != (n >= 0) || !bytes.Equal(c.Bytes(), want) {
			t.Errorf("P3.1: Up(%d): %v, %x, want %x", n, ok, c.Bytes(), want)
		}
	}
}

func TestP3_1IntPuts(t *testing.T) {
	cases := []struct {
		n    int
		want string
	}{
		{0, "\x00"},
		{-1, "\x01"},
		{1, "\x02"},
		{-2, "\x03"},
		{63, "\x7e"},
		{-64, "\x7f"},
		{64, "\x81\x00"},
		{-65, "\x81\x01"},
		{mostInt, "\xff\xff\xff\xff\xff\xff\xff\xff\x7e"},
		{leastInt, "\xff\xff\xff\xff\xff\xff\xff\xff\x7f"},
	}
	for _, c := range cases {
		if b := bytesOf(func(k *coil.Coil) { k.Int(c.n) }); string(b) != c.want {
			t.Errorf("P3.1: Int(%d): %x, want %x", c.n, b, c.want)
		}
	}
	for _, n := range append(numbers(2), mostInt+1, leastInt-1) {
		c := coil.Coil{}
		c.Mark(true)
		of, coiled := asInt(n)
		want := append([]byte{1}, of...)
		if ok := c.Int(n); ok != coiled || !bytes.Equal(c.Bytes(), want) {
			t.Errorf("P3.1: Int(%d): %v, %x, want %v, %x", n, ok, c.Bytes(), coiled, want)
		}
	}
}

func TestP3_1TextAndMarkPut(t *testing.T) {
	c := coil.Coil{}
	if b := c.Bytes(); len(b) != 0 {
		t.Errorf("P3.1: a zero Coil has %x", b)
	}
	want := []byte{}
	for _, s := range []string{"", "a", "ab", "\x00\x80\xff", "\u00e4", strings.Repeat("x", 127), strings.Repeat("y", 128), strings.Repeat("z", 20_000)} {
		c.Text(s)
		want = append(append(want, asUp(uint64(len(s)))...), s...)
		c.Mark(len(s)%2 == 0)
		want = append(want, byte(1-len(s)%2))
		if !bytes.Equal(c.Bytes(), want) {
			t.Fatalf("P3.1: behind Text(%q): %x, want %x", s, c.Bytes(), want)
		}
	}
}

func TestP3_1Put(t *testing.T) {
	for _, many := range []int{0, 1, 2, 127, 128, 300, 20_000} {
		c := coil.Coil{}
		c.Text("ahead")
		want := append([]byte("\x05ahead"), asUp(uint64(many))...)
		l := []int{}
		for n := range many {
			l = append(l, -n)
			of, _ := asInt(-n)
			want = append(want, of...)
		}
		coil.Put(&c, slices.Values(l), func(c *coil.Coil, n int) { c.Int(n) })
		c.Mark(true)
		if want = append(want, 1); !bytes.Equal(c.Bytes(), want) {
			t.Errorf("P3.1: Put of %d: %x, want %x", many, c.Bytes(), want)
		}
	}
}

func TestP3_1PutOfLists(t *testing.T) {
	c := coil.Coil{}
	coil.Put(&c, slices.Values([][]string{{}, {"a", ""}, nil, {"bc"}}), func(c *coil.Coil, l []string) {
		coil.Put(c, slices.Values(l), (*coil.Coil).Text)
	})
	if want := "\x04" + "\x00" + "\x02\x01a\x00" + "\x00" + "\x01\x02bc"; string(c.Bytes()) != want {
		t.Errorf("P3.1: Put of lists: %x, want %x", c.Bytes(), want)
	}
	c = coil.Coil{}
	coil.Put(&c, slices.Values([]int{1, -1, 2}), func(c *coil.Coil, n int) { c.Up(n) })
	if string(c.Bytes()) != "\x03\x01\x02" {
		t.Errorf("P3.1: Put, one of which isn't coiled: %x", c.Bytes())
	}
}

// once: a list that gives its things but once, all in the same place.
func once(l ...string) iter.Seq[[]byte] {
	place := make([]byte, 1)
	return func(yield func([]byte) bool) {
		for len(l) > 0 {
			copy(place, l[0])
			l = l[1:]
			if !yield(place) {
				return
			}
		}
	}
}

func TestP3_1PutGoesThroughOnce(t *testing.T) {
	c := coil.Coil{}
	coil.Put(&c, once("a", "b", "c"), func(c *coil.Coil, b []byte) { c.Text(string(b)) })
	if string(c.Bytes()) != "\x03\x01a\x01b\x01c" {
		t.Errorf("P3.1: Put: %x", c.Bytes())
	}
}

// The ways to take, by which the tests below speak of them.
func up(most int) func(r *coil.Reel) any   { return func(r *coil.Reel) any { return r.Up(most) } }
func text(most int) func(r *coil.Reel) any { return func(r *coil.Reel) any { return r.Text(most) } }
func anyInt(r *coil.Reel) any              { return r.Int() }
func mark(r *coil.Reel) any                { return r.Mark() }
func ints(most int) func(r *coil.Reel) any {
	return func(r *coil.Reel) any { return sure(coil.Take(r, most, (*coil.Reel).Int)) }
}
func texts(most, each int) func(r *coil.Reel) any {
	return func(r *coil.Reel) any {
		return sure(coil.Take(r, most, func(r *coil.Reel) string { return r.Text(each) }))
	}
}

// sure: a list that isn't nil, as an empty one may be either.
func sure[T any](l []T) []T {
	return append([]T{}, l...)
}

func TestP3_1Taken(t *testing.T) {
	nine := "\xff\xff\xff\xff\xff\xff\xff\xff"
	long := strings.Repeat("l", 300)
	cases := []struct {
		name string
		b    string
		take func(r *coil.Reel) any
		want any
		left int
	}{
		{"Up", "\x00", up(0), 0, 0},
		{"Up", "\x7f", up(127), 127, 0},
		{"Up", "\x82\x2c\x82", up(300), 300, 1},
		{"Up", "\x81\x00", up(128), 128, 0},
		{"Up", "\x81\x80\x80\x80\x80\x80\x80\x80\x00", up(1 << 56), 1 << 56, 0},
		{"Up", nine + "\x7f\x00\x00", up(math.MaxInt), math.MaxInt, 2},
		{"Int", "\x01", anyInt, -1, 0},
		{"Int", "\x02\x80", anyInt, 1, 1},
		{"Int", nine + "\x7e", anyInt, mostInt, 0},
		{"Int", nine + "\x7f", anyInt, leastInt, 0},
		{"Text", "\x00", text(0), "", 0},
		{"Text", "\x02abc", text(2), "ab", 1},
		{"Text", "\x02\xff\x00", text(math.MaxInt), "\xff\x00", 0},
		{"Text", "\x82\x2c" + long + "!", text(300), long, 1},
		{"Mark", "\x00\x01", mark, false, 1},
		{"Mark", "\x01\x02", mark, true, 1},
		{"Take", "\x00", ints(0), []int{}, 0},
		{"Take", "\x00\x80", ints(5), []int{}, 1},
		{"Take", "\x02\x02\x01\x00", ints(2), []int{1, -1}, 1},
		{"Take", "\x03\x00\x01a\x02bc", texts(3, 2), []string{"", "a", "bc"}, 0},
	}
	for _, c := range cases {
		r := coil.Open([]byte(c.b))
		if got := c.take(r); !reflect.DeepEqual(got, c.want) || r.Left() != c.left || r.Fail() != api.OK {
			t.Errorf("P3.1: %s of %x: %v, left %d, failed %d, want %v, left %d", c.name, c.b, got, r.Left(), r.Fail(), c.want, c.left)
		}
		wantEnd := api.OK
		if c.left > 0 {
			wantEnd = api.ErrForm
		}
		if r.End() != wantEnd {
			t.Errorf("P3.1: End behind %s of %x: %d, want %d", c.name, c.b, r.End(), wantEnd)
		}
	}
}

func TestP3_1Fails(t *testing.T) {
	eight := strings.Repeat("\x80", 8)
	cases := []struct {
		name string
		b    string
		take func(r *coil.Reel) any
		want api.Errno
	}{
		{"Up: no byte", "", up(9), api.ErrTorn},
		{"Up: no byte, most below 0", "", up(-1), api.ErrTorn},
		{"Up: no last digit", "\x81", up(0), api.ErrTorn},
		{"Up: eight digits, no last", "\x81" + eight[:7], up(9), api.ErrTorn},
		{"Up: nine digits, no last", "\x81" + eight, up(9), api.ErrTorn},
		{"Up: a tenth digit, the last", "\x81" + eight + "\x00", up(math.MaxInt), api.ErrForm},
		{"Up: a tenth digit, not the last", "\x81" + eight + "\x80", up(math.MaxInt), api.ErrForm},
		{"Up: eleven digits", "\xff" + eight + "\x80\x00", up(math.MaxInt), api.ErrForm},
		{"Up: a 0 ahead", "\x80\x01", up(9), api.ErrForm},
		{"Up: a 0 ahead, and no more", "\x80", up(9), api.ErrForm},
		{"Up: a 0 ahead, above most", "\x80\x7f", up(9), api.ErrForm},
		{"Up: one above most", "\x0a", up(9), api.ErrRange},
		{"Up: above 0", "\x01", up(0), api.ErrRange},
		{"Up: most below 0", "\x00", up(-1), api.ErrRange},
		{"Up: most the least", "\x00", up(math.MinInt), api.ErrRange},
		{"Up: the greatest, one above most", "\xff\xff\xff\xff\xff\xff\xff\xff\x7f", up(math.MaxInt - 1), api.ErrRange},
		{"Int: no byte", "", anyInt, api.ErrTorn},
		{"Int: no last digit", "\xff\xff", anyInt, api.ErrTorn},
		{"Int: a 0 ahead", "\x80", anyInt, api.ErrForm},
		{"Int: ten digits", "\xff" + eight + "\x00", anyInt, api.ErrForm},
		{"Text: no byte", "", text(9), api.ErrTorn},
		{"Text: no last digit", "\x81", text(9), api.ErrTorn},
		{"Text: a byte too few", "\x03ab", text(9), api.ErrTorn},
		{"Text: no byte of it", "\x01", text(9), api.ErrTorn},
		{"Text: far too few", "\xff\xff\xff\xff\xff\xff\xff\xff\x7fab", text(math.MaxInt), api.ErrTorn},
		{"Text: a length with a 0 ahead", "\x80\x01a", text(9), api.ErrForm},
		{"Text: a length of ten digits", "\x81" + eight + "\x00a", text(9), api.ErrForm},
		{"Text: one longer", "\x03abc", text(2), api.ErrRange},
		{"Text: longer, and its end isn't there", "\x03ab", text(2), api.ErrRange},
		{"Text: most below 0", "\x00", text(-1), api.ErrRange},
		{"Mark: no byte", "", mark, api.ErrTorn},
		{"Mark: 2", "\x02", mark, api.ErrForm},
		{"Mark: 80", "\x80\x00", mark, api.ErrForm},
		{"Mark: 81", "\x81", mark, api.ErrForm},
		{"Mark: ff", "\xff", mark, api.ErrForm},
		{"Take: no byte", "", ints(9), api.ErrTorn},
		{"Take: a length with a 0 ahead", "\x80\x01\x00", ints(9), api.ErrForm},
		{"Take: a length of ten digits", "\x81" + eight + "\x00", ints(9), api.ErrForm},
		{"Take: one longer", "\x03\x00\x00\x00", ints(2), api.ErrRange},
		{"Take: longer, and not there", "\x03", ints(2), api.ErrRange},
		{"Take: most below 0", "\x00", ints(-1), api.ErrRange},
		{"Take: one too few", "\x03\x00\x00", ints(3), api.ErrTorn},
		{"Take: far too few", "\xff\xff\xff\xff\xff\xff\xff\xff\x7f\x00\x00", ints(math.MaxInt), api.ErrTorn},
		{"Take: the second is none", "\x03\x00\x80\x00", ints(3), api.ErrForm},
		{"Take: the last is longer", "\x02\x01a\x02bc", texts(2, 1), api.ErrRange},
	}
	for _, c := range cases {
		r := coil.Open([]byte(c.b))
		if got := c.take(r); !isZero(got) || r.Fail() != c.want || r.End() != c.want {
			t.Errorf("P3.1: %s: %v, failed %d, ended %d, want %d", c.name, got, r.Fail(), r.End(), c.want)
		}
		if r.Left() != len(c.b) {
			t.Errorf("P3.1: %s: left %d, want all %d", c.name, r.Left(), len(c.b))
		}
	}
}

// isZero: 0, empty or no.
func isZero(x any) bool {
	v := reflect.ValueOf(x)
	return v.IsZero() || v.Kind() == reflect.Slice && v.Len() == 0
}

func TestP3_1BehindTheFirstFailure(t *testing.T) {
	behind := "\x01\x01\x01\x01" // a number, a text, a mark and a list could be taken of it
	fails := []struct {
		b    string
		take func(r *coil.Reel) any
		want api.Errno
	}{
		{"\x02", mark, api.ErrForm},
		{"\x80", anyInt, api.ErrForm},
		{"\x0a", up(9), api.ErrRange},
		{"\x02", text(1), api.ErrRange},
		{"\x7f", text(127), api.ErrTorn},
		{"\x02", ints(1), api.ErrRange},
		{"\x09", ints(9), api.ErrTorn},
	}
	takes := []func(r *coil.Reel) any{up(9), up(-1), anyInt, text(9), text(-1), mark, ints(9), ints(-1), texts(9, 9)}
	for k, f := range fails {
		for j, take := range takes {
			r := coil.Open([]byte("\x01" + f.b + behind))
			if !r.Mark() {
				t.Fatalf("P3.1: %d: the mark ahead", k)
			}
			f.take(r)
			for range 2 {
				if got := take(r); !isZero(got) || r.Fail() != f.want || r.End() != f.want || r.Left() != len(f.b)+len(behind) {
					t.Errorf("P3.1: %d, then %d: %v, failed %d, left %d, want %d", k, j, got, r.Fail(), r.Left(), f.want)
				}
			}
		}
	}
	r := coil.Open([]byte("\x02\x01"))
	if r.Mark() || r.Fail() != api.ErrForm {
		t.Errorf("P3.1: Mark of 2: failed %d", r.Fail())
	}
	if r.Text(0) != "" || r.Fail() != api.ErrForm {
		t.Errorf("P3.1: the first error stays: %d", r.Fail())
	}
}

func TestP3_1FailAndEndOfAFreshOne(t *testing.T) {
	for _, c := range []struct {
		b   []byte
		end api.Errno
	}{{nil, api.OK}, {[]byte{}, api.OK}, {[]byte{0}, api.ErrForm}, {[]byte{1, 2}, api.ErrForm}} {
		r := coil.Open(c.b)
		if r.Fail() != api.OK || r.End() != c.end || r.Left() != len(c.b) {
			t.Errorf("P3.1: Open(%x): failed %d, ended %d, left %d", c.b, r.Fail(), r.End(), r.Left())
		}
		// End takes nothing, and isn't a failure.
		if r.Fail() != api.OK || r.Left() != len(c.b) {
			t.Errorf("P3.1: Open(%x) behind End: failed %d, left %d", c.b, r.Fail(), r.Left())
		}
	}
	r := coil.Open([]byte{1, 0})
	if r.Mark(); r.End() != api.ErrForm || r.Mark() || r.End() != api.OK {
		t.Errorf("P3.1: a byte that was left can't be taken behind End: %d", r.End())
	}
}

func TestP3_1TakeCallsOne(t *testing.T) {
	cases := []struct {
		b    string
		most int
		want int
	}{
		{"\x03\x00\x01\x01", 3, 3},
		{"\x03\x00\x01\x01", 2, 0}, // longer
		{"\x00\x01", 2, 0},
		{"\x03\x00\x02\x01\x01", 3, 2}, // the second fails
		{"\x05\x00\x01", 5, 3},         // the third fails
		{"\x80\x01", 5, 0},
		{"", 5, 0},
	}
	for _, c := range cases {
		r, calls := coil.Open([]byte(c.b)), 0
		one := func(r *coil.Reel) bool {
			calls++
			return r.Mark()
		}
		coil.Take(r, c.most, one)
		if calls != c.want {
			t.Errorf("P3.1: Take of %x: %d calls, want %d", c.b, calls, c.want)
		}
		if r.Fail() == api.OK {
			continue
		}
		if coil.Take(r, c.most, one); calls != c.want {
			t.Errorf("P3.1: Take of %x, which failed: %d calls, want %d", c.b, calls, c.want)
		}
	}
	r := coil.Open([]byte("\x03\x09"))
	l := coil.Take(r, 3, func(r *coil.Reel) int { return r.Left() })
	if !slices.Equal(l, []int{1, 1, 1}) || r.Left() != 1 {
		t.Errorf("P3.1: Take with one that takes nothing: %v, left %d", l, r.Left())
	}
}

func TestP3_1TakeOfLists(t *testing.T) {
	inner := func(r *coil.Reel) []int { return coil.Take(r, 2, (*coil.Reel).Int) }
	r := coil.Open([]byte("\x03\x01\x02\x00\x02\x04\x06\x01"))
	l := coil.Take(r, 3, inner)
	if len(l) != 3 || !slices.Equal(l[0], []int{1}) || len(l[1]) != 0 || !slices.Equal(l[2], []int{2, 3}) || r.Left() != 1 {
		t.Errorf("P3.1: Take of lists: %v, left %d", l, r.Left())
	}
	b := []byte("\x01\x03\x01\x02\x00\x03\x04\x06\x01")
	r = coil.Open(b)
	r.Mark()
	if l := coil.Take(r, 3, inner); len(l) != 0 || r.Fail() != api.ErrRange || r.Left() != len(b)-1 {
		t.Errorf("P3.1: Take of lists, one too long: %v, failed %d, left %d", l, r.Fail(), r.Left())
	}
}

// reader: the chapter's words of a Reel, by another way than the program's.
type reader struct {
	b string
	e api.Errno
}

// number: that at a text's beginning, what stands behind it, and the error.
func number(b string, most int) (int, string, api.Errno) {
	end := slices.IndexFunc([]byte(b), func(x byte) bool { return x < 128 })
	switch {
	case strings.HasPrefix(b, "\x80"), end >= 9, end < 0 && len(b) > 9:
		return 0, "", api.ErrForm
	case end < 0:
		return 0, "", api.ErrTorn
	}
	n := new(big.Int)
	for _, x := range []byte(b[:end+1]) {
		n.Mul(n, big.NewInt(128)).Add(n, big.NewInt(int64(x&127)))
	}
	if n.Cmp(big.NewInt(int64(most))) > 0 {
		return 0, "", api.ErrRange
	}
	return int(n.Int64()), b[end+1:], api.OK
}

// taken: what of the bytes is left, if there is no error.
func (r *reader) taken(left string, e api.Errno) bool {
	if r.e == api.OK {
		r.e = e
		if e == api.OK {
			r.b = left
			return true
		}
	}
	return false
}

func (r *reader) up(most int) int {
	n, left, e := number(r.b, most)
	if !r.taken(left, e) {
		return 0
	}
	return n
}

func (r *reader) anyInt() int {
	n := r.up(math.MaxInt)
	return n>>1 ^ -(n & 1)
}

func (r *reader) text(most int) string {
	n, left, e := number(r.b, most)
	if e == api.OK && len(left) < n {
		e = api.ErrTorn
	}
	if e != api.OK {
		n, left = 0, ""
	}
	if !r.taken(left[n:], e) {
		return ""
	}
	return left[:n]
}

func (r *reader) mark() bool {
	switch {
	case r.b == "":
		return r.taken("", api.ErrTorn)
	case r.b[0] != 0 && r.b[0] != 1:
		return r.taken("", api.ErrForm)
	}
	first := r.b[0]
	return r.taken(r.b[1:], api.OK) && first == 1
}

func (r *reader) texts(most, each int) []string {
	all := *r
	l := []string{}
	for range all.up(most) {
		if l = append(l, all.text(each)); all.e != api.OK {
			break
		}
	}
	if !r.taken(all.b, all.e) {
		return []string{}
	}
	return l
}

// both: the same call of a Reel and of a reader.
func both(r *coil.Reel, w *reader, which, most int) (any, any) {
	switch which {
	case 0:
		return r.Up(most), w.up(most)
	case 1:
		return r.Int(), w.anyInt()
	case 2:
		return r.Text(most), w.text(most)
	case 3:
		return r.Mark(), w.mark()
	}
	return texts(most, most)(r), w.texts(most, most)
}

func TestP3_1AnyBytes(t *testing.T) {
	random := rand.New(rand.NewSource(3))
	some := "\x00\x00\x01\x01\x02\x03\x7f\x80\x80\x81\x82\xfe\xffa"
	mosts := []int{-1, 0, 1, 2, 3, 127, 128, 300, mostInt, math.MaxInt}
	for range 60_000 {
		b := make([]byte, random.Intn(16))
		for i := range b {
			b[i] = some[random.Intn(len(some))]
		}
		if random.Intn(4) == 0 {
			for i := range b[:len(b)*3/4] {
				b[i] |= 128 // so that some numbers are long
			}
		}
		r, w := coil.Open(b), &reader{b: string(b)}
		for range 1 + random.Intn(6) {
			which, most := random.Intn(5), mosts[random.Intn(len(mosts))]
			got, want := both(r, w, which, most)
			if !reflect.DeepEqual(got, want) || r.Fail() != w.e || r.Left() != len(w.b) {
				t.Fatalf("P3.1: %x, call %d with most %d: %v, failed %d, left %d, want %v, %d, %d", b, which, most, got, r.Fail(), r.Left(), want, w.e, len(w.b))
			}
		}
	}
}

func TestP3_2NumbersAreTakenAsTheyWere(t *testing.T) {
	for _, n := range numbers(4) {
		if n >= 0 {
			b := bytesOf(func(c *coil.Coil) { c.Up(n) })
			if r := coil.Open(b); r.Up(n) != n || r.End() != api.OK {
				t.Errorf("P3.2: Up of %x: not %d, or ended %d", b, n, r.End())
			}
		}
		if n >= leastInt && n <= mostInt {
			b := bytesOf(func(c *coil.Coil) { c.Int(n) })
			if r := coil.Open(b); r.Int() != n || r.End() != api.OK {
				t.Errorf("P3.2: Int of %x: not %d, or ended %d", b, n, r.End())
			}
		}
	}
}

// thing: what is coiled together.
type thing struct {
	up, any int
	yes     bool
	text    string
	parts   [][]string
}

func put(c *coil.Coil, x thing) {
	c.Up(x.up)
	c.Int(x.any)
	c.Mark(x.yes)
	c.Text(x.text)
	coil.Put(c, slices.Values(x.parts), func(c *coil.Coil, l []string) {
		coil.Put(c, slices.Values(l), (*coil.Coil).Text)
	})
}

func take(r *coil.Reel) thing {
	x := thing{up: r.Up(math.MaxInt), any: r.Int(), yes: r.Mark(), text: r.Text(500)}
	x.parts = coil.Take(r, 9, func(r *coil.Reel) []string {
		return sure(coil.Take(r, 9, func(r *coil.Reel) string { return r.Text(9) }))
	})
	return x
}

func anyThing(r *rand.Rand) thing {
	x := thing{up: int(r.Uint64()>>1) >> r.Intn(63), any: int(r.Uint64()) >> (1 + r.Intn(62)), yes: r.Intn(2) == 0}
	x.text = strings.Repeat(string([]byte{byte(r.Intn(256))}), r.Intn(400))
	for range r.Intn(4) {
		l := []string{}
		for range r.Intn(4) {
			l = append(l, strings.Repeat("p", r.Intn(9)))
		}
		x.parts = append(x.parts, l)
	}
	return x
}

func TestP3_2ThingsAreTakenAsTheyWere(t *testing.T) {
	random := rand.New(rand.NewSource(5))
	for range 300 {
		l := []thing{}
		for range random.Intn(150) {
			l = append(l, anyThing(random))
		}
		c := coil.Coil{}
		coil.Put(&c, slices.Values(l), put)
		r := coil.Open(c.Bytes())
		got := sure(coil.Take(r, len(l), take))
		if !reflect.DeepEqual(got, l) || r.End() != api.OK || r.Left() != 0 {
			t.Fatalf("P3.2: of %d things %d taken, ended %d", len(l), len(got), r.End())
		}
	}
}

// everyShort: all bytes of at most so many, made of some.
func everyShort(some string, most int) iter.Seq[[]byte] {
	return func(yield func([]byte) bool) {
		all := [][]byte{{}}
		for len(all) > 0 {
			b := all[0]
			all = all[1:]
			if !yield(b) {
				return
			}
			if len(b) < most {
				for i := range len(some) {
					all = append(all, append(slices.Clone(b), some[i]))
				}
			}
		}
	}
}

// recoiled: bytes taken in each way, and put again; false, if they weren't taken whole.
var recoiled = []func(b []byte) ([]byte, bool){
	func(b []byte) ([]byte, bool) {
		r := coil.Open(b)
		n := r.Up(math.MaxInt)
		return bytesOf(func(c *coil.Coil) { c.Up(n) }), r.End() == api.OK
	},
	func(b []byte) ([]byte, bool) {
		r := coil.Open(b)
		n := r.Int()
		return bytesOf(func(c *coil.Coil) { c.Int(n) }), r.End() == api.OK
	},
	func(b []byte) ([]byte, bool) {
		r := coil.Open(b)
		s := r.Text(math.MaxInt)
		return bytesOf(func(c *coil.Coil) { c.Text(s) }), r.End() == api.OK
	},
	func(b []byte) ([]byte, bool) {
		r := coil.Open(b)
		yes := r.Mark()
		return bytesOf(func(c *coil.Coil) { c.Mark(yes) }), r.End() == api.OK
	},
	func(b []byte) ([]byte, bool) {
		r := coil.Open(b)
		l := coil.Take(r, math.MaxInt, (*coil.Reel).Int)
		return bytesOf(func(c *coil.Coil) {
			coil.Put(c, slices.Values(l), func(c *coil.Coil, n int) { c.Int(n) })
		}), r.End() == api.OK
	},
	func(b []byte) ([]byte, bool) {
		r := coil.Open(b)
		l := coil.Take(r, math.MaxInt, take)
		return bytesOf(func(c *coil.Coil) { coil.Put(c, slices.Values(l), put) }), r.End() == api.OK
	},
}

func TestP3_2WhatIsTakenWholeHasItsBytes(t *testing.T) {
	whole := make([]int, len(recoiled))
	try := func(b []byte) {
		for k, way := range recoiled {
			again, all := way(b)
			if !all {
				continue
			}
			whole[k]++
			if !bytes.Equal(again, b) {
				t.Errorf("P3.2: way %d: %x is taken whole, and %x coiled again", k, b, again)
			}
		}
	}
	for b := range everyShort("\x00\x01\x02\x7f\x80\x81\xff", 6) {
		try(b)
	}
	for _, last := range []byte{0, 1, 0x7e, 0x7f} {
		for _, first := range []byte{0x80, 0x81, 0xff} {
			for many := range 10 {
				try(append(append([]byte{first}, bytes.Repeat([]byte{0x80}, many)...), last))
				try(append(append([]byte{first}, bytes.Repeat([]byte{0xff}, many)...), last))
			}
		}
	}
	for k, many := range whole {
		if many == 0 {
			t.Errorf("P3.2: way %d: none taken whole", k)
		}
	}
}

func TestP3_3BytesAreNewMemory(t *testing.T) {
	c := coil.Coil{}
	c.Text("abc")
	first := c.Bytes()
	second := c.Bytes()
	clear(first[:cap(first)])
	if string(second) != "\x03abc" || string(c.Bytes()) != "\x03abc" {
		t.Errorf("P3.3: Bytes shares memory: %x, %x", second, c.Bytes())
	}
	third := c.Bytes()
	room := slices.Clone(third[:cap(third)])
	c.Text("more of it")
	coil.Put(&c, slices.Values([]int{1, 2}), func(c *coil.Coil, n int) { c.Int(n) })
	if !bytes.Equal(third[:cap(third)], room) {
		t.Errorf("P3.3: an answer of Bytes was changed to %x", third[:cap(third)])
	}
	fourth := c.Bytes()
	_ = append(fourth, "xxxxxxxx"...)
	if c.Mark(true); !bytes.HasSuffix(c.Bytes(), []byte{2, 4, 1}) {
		t.Errorf("P3.3: a Coil was changed by its answer: %x", c.Bytes())
	}
}

func TestP3_3WhatIsHandedInStays(t *testing.T) {
	whole := []byte("\x01\x02ab\x02\x02\x01behind")
	b := whole[:len(whole)-len("behind")]
	before := slices.Clone(whole)
	r := coil.Open(b)
	yes, s, l := r.Mark(), r.Text(9), coil.Take(r, 9, (*coil.Reel).Int)
	if !yes || s != "ab" || !slices.Equal(l, []int{1, -1}) || r.End() != api.OK {
		t.Fatalf("P3.3: taken: %v, %q, %v, ended %d", yes, s, l, r.End())
	}
	_ = append(l, 7, 7, 7, 7, 7, 7, 7, 7)
	if !bytes.Equal(whole, before) {
		t.Errorf("P3.3: Open's bytes, or the room behind them, were changed to %x", whole)
	}
	if r.Mark() || r.Fail() != api.ErrTorn {
		t.Errorf("P3.3: the room behind Open's bytes was taken")
	}
	list := []string{"a", "b", "spare"}
	c := coil.Coil{}
	coil.Put(&c, slices.Values(list[:2]), (*coil.Coil).Text)
	if !slices.Equal(list, []string{"a", "b", "spare"}) {
		t.Errorf("P3.3: Put changed its list to %q", list)
	}
	if list[0] = "x"; string(c.Bytes()) != "\x02\x01a\x01b" {
		t.Errorf("P3.3: Put kept its list: %x", c.Bytes())
	}
}

func TestP3_3WhatIsTakenIsNewMemory(t *testing.T) {
	b := []byte("\x02ab\x02\x02\x01\x02\x01c\x01d")
	r := coil.Open(b)
	s := r.Text(9)
	l := coil.Take(r, 9, (*coil.Reel).Int)
	parts := coil.Take(r, 9, func(r *coil.Reel) string { return r.Text(9) })
	clear(b)
	if s != "ab" || !slices.Equal(l, []int{1, -1}) || !slices.Equal(parts, []string{"c", "d"}) {
		t.Errorf("P3.3: what was taken changed with the bytes: %q, %v, %q", s, l, parts)
	}
	lists := coil.Take(coil.Open([]byte("\x03\x01\x02\x01\x02\x01\x02")), 9, func(r *coil.Reel) []int {
		return coil.Take(r, 9, (*coil.Reel).Int)
	})
	for i, l := range lists {
		room := l[:cap(l)]
		for k := range room {
			room[k] = 100 + i
		}
	}
	if lists[0][0] != 100 || lists[1][0] != 101 || lists[2][0] != 102 {
		t.Errorf("P3.3: lists of one answer share memory: %v", lists)
	}
}

func TestP3_3TwoUponTheSameBytes(t *testing.T) {
	b := []byte("\x02ab\x01")
	one, other := coil.Open(b), coil.Open(b)
	if one.Text(1) != "" || one.Fail() != api.ErrRange {
		t.Errorf("P3.3: Text: failed %d", one.Fail())
	}
	if other.Text(2) != "ab" || !other.Mark() || other.End() != api.OK {
		t.Errorf("P3.3: one Reel changed another: ended %d", other.End())
	}
}

func TestP7NoList(t *testing.T) {
	c := coil.Coil{}
	c.Mark(true)
	coil.Put(&c, nil, (*coil.Coil).Text)
	if string(c.Bytes()) != "\x01\x00" {
		t.Errorf("P7: Put of no list: %x", c.Bytes())
	}
	coil.Put[int](&c, slices.Values([]int{1}), nil)
	if string(c.Bytes()) != "\x01\x00" {
		t.Errorf("P7: Put without one: %x", c.Bytes())
	}
	r := coil.Open([]byte("\x02\x00\x00"))
	if l := coil.Take[int](r, 9, nil); len(l) != 0 || r.Left() != 3 || r.Fail() != api.OK {
		t.Errorf("P7: Take without one: %v, left %d, failed %d", l, r.Left(), r.Fail())
	}
	coil.Put(&c, slices.Values([]int{5, 6}), func(c *coil.Coil, n int) {
		*c = coil.Coil{}
		c.Up(n)
	})
	if !bytes.Contains(c.Bytes(), []byte{2}) {
		t.Errorf("P7: Put with one that begins its Coil anew: %x", c.Bytes())
	}
}
