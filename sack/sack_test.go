package sack_test

import (
	"cmp"
	"iter"
	"math"
	"math/rand"
	"slices"
	"strings"
	"testing"

	"tidemill/api"
	"tidemill/sack"
)

// run: a thing, and how often it is there.
type run[T any] struct {
	thing T
	many  int
}

// plain: a sack by another way than the program's: a list in order, each thing as often as it is there.
type plain[T cmp.Ordered] struct {
	room   int
	things []T
}

func (l *plain[T]) add(x T) api.Errno {
	if len(l.things) >= l.room {
		return api.ErrFull
	}
	l.things = append(l.things, x)
	slices.Sort(l.things)
	return api.OK
}

func (l *plain[T]) drop(x T) api.Errno {
	at := slices.Index(l.things, x)
	if at < 0 {
		return api.ErrNone
	}
	l.things = slices.Delete(l.things, at, at+1)
	return api.OK
}

func (l *plain[T]) merge(o *plain[T]) api.Errno {
	if len(l.things)+len(o.things) > l.room {
		return api.ErrFull
	}
	l.things = append(slices.Clone(l.things), o.things...)
	slices.Sort(l.things)
	return api.OK
}

func (l *plain[T]) many(x T) int {
	n := 0
	for _, y := range l.things {
		if y == x {
			n++
		}
	}
	return n
}

func (l *plain[T]) runs() []run[T] {
	var runs []run[T]
	for i, x := range l.things {
		if i == 0 || l.things[i-1] != x {
			runs = append(runs, run[T]{x, l.many(x)})
		}
	}
	return runs
}

// near: by trying place after place.
func (l *plain[T]) near(p, q int) (T, api.Errno) {
	var none T
	if q < 1 || p < 0 || p > q || q > 1000000 {
		return none, api.ErrRange
	}
	for i, x := range l.things {
		if (i+1)*q >= p*len(l.things) {
			return x, api.OK
		}
	}
	return none, api.ErrNone
}

// gone: what a sequence of runs gives, gone through to its end.
func gone[T any](s iter.Seq2[T, int]) []run[T] {
	var l []run[T]
	for x, n := range s {
		l = append(l, run[T]{x, n})
	}
	return l
}

func made[T cmp.Ordered](t *testing.T, room int) *sack.Sack[T] {
	t.Helper()
	s, e := sack.New[T](room)
	if s == nil || e != api.OK {
		t.Fatalf("P6.1: New(%d): %v, %d", room, s, e)
	}
	return s
}

// of: a sack of things, added in this order.
func of[T cmp.Ordered](t *testing.T, room int, things ...T) *sack.Sack[T] {
	t.Helper()
	s := made[T](t, room)
	for _, x := range things {
		if e := s.Add(x); e != api.OK {
			t.Fatalf("P6.1: Add(%v): %d", x, e)
		}
	}
	return s
}

func listed[T cmp.Ordered](room int, things ...T) *plain[T] {
	return &plain[T]{room, slices.Sorted(slices.Values(things))}
}

// parts: parts p of q, some of them such as may not be.
var parts = [][2]int{
	{0, 1}, {1, 1}, {0, 2}, {1, 2}, {2, 2}, {1, 3}, {2, 3}, {1, 4}, {3, 4}, {9, 10}, {50, 100}, {90, 100}, {95, 100}, {99, 100}, {100, 100},
	{0, 1000000}, {1, 1000000}, {499999, 1000000}, {500000, 1000000}, {500001, 1000000}, {999999, 1000000}, {1000000, 1000000},
	{0, 0}, {1, 0}, {0, -1}, {-1, -1}, {-1, 1}, {2, 1}, {-1, 1000000}, {1000001, 1000000}, {0, 1000001}, {1, 1000001}, {1000001, 1000001},
	{math.MinInt, math.MinInt}, {math.MaxInt, math.MaxInt}, {math.MinInt, 1}, {math.MaxInt, 1}, {0, math.MinInt}, {0, math.MaxInt},
}

// check: are all that a sack answers a list's answers?
func check[T cmp.Ordered](t *testing.T, promise string, s *sack.Sack[T], want *plain[T], asked ...T) {
	t.Helper()
	if s.Len() != len(want.things) || s.Room() != want.room-len(want.things) {
		t.Fatalf("%s: Len, Room: %d, %d, want %d of %d", promise, s.Len(), s.Room(), len(want.things), want.room)
	}
	if l := slices.Collect(s.All()); !slices.Equal(l, want.things) {
		t.Fatalf("%s: All: %v, want %v", promise, l, want.things)
	}
	if l := gone(s.Runs()); !slices.Equal(l, want.runs()) {
		t.Fatalf("%s: Runs: %v, want %v", promise, l, want.runs())
	}
	for _, x := range asked {
		if n := s.Many(x); n != want.many(x) {
			t.Fatalf("%s: Many(%v): %d, want %d", promise, x, n, want.many(x))
		}
	}
	for _, c := range parts {
		x, e := s.Near(c[0], c[1])
		if y, f := want.near(c[0], c[1]); x != y || e != f {
			t.Fatalf("%s: Near(%d, %d) of %v: %v, %d, want %v, %d", promise, c[0], c[1], want.things, x, e, y, f)
		}
	}
}

func TestP6_1Rooms(t *testing.T) {
	for _, room := range []int{math.MinInt, -1001, -1, 1001, 1002, math.MaxInt} {
		if s, e := sack.New[int](room); s != nil || e != api.ErrRange {
			t.Errorf("P6.1: New(%d): %v, %d, want ErrRange", room, s, e)
		}
	}
	for _, room := range []int{0, 1, 2, 999, 1000} {
		s, want := made[int](t, room), listed[int](room)
		check(t, "P6.1", s, want, 0, 1)
		for i := range room {
			if e, f := s.Add(i%7), want.add(i%7); e != api.OK || f != api.OK {
				t.Fatalf("P6.1: Add %d of %d: %d", i, room, e)
			}
		}
		for _, x := range []int{0, 3, 9} {
			if e := s.Add(x); e != api.ErrFull {
				t.Errorf("P6.1: Add(%d) to a full one of %d: %d, want ErrFull", x, room, e)
			}
		}
		check(t, "P6.1", s, want, -1, 0, 1, 2, 3, 4, 5, 6, 7, 9)
	}
}

func TestP6_1Example(t *testing.T) {
	s := of(t, 4, 9, 2, 1, 2)
	for _, c := range []struct{ p, q, x int }{{1, 2, 2}, {9, 10, 9}, {0, 1, 1}, {1, 1, 9}, {1, 4, 1}, {26, 100, 2}, {3, 4, 2}, {76, 100, 9}} {
		if x, e := s.Near(c.p, c.q); x != c.x || e != api.OK {
			t.Errorf("P6.1: Near(%d, %d) of 1, 2, 2, 9: %d, %d, want %d", c.p, c.q, x, e, c.x)
		}
	}
	check(t, "P6.1", s, listed(4, 1, 2, 2, 9), 0, 1, 2, 3, 9)
}

func TestP6_1AddDrop(t *testing.T) {
	s := of(t, 5, "b", "a", "b", "b", "")
	want := listed(5, "", "a", "b", "b", "b")
	check(t, "P6.1", s, want, "", "a", "b", "c", "ab")
	for _, c := range []struct {
		x string
		e api.Errno
	}{{"c", api.ErrNone}, {"ab", api.ErrNone}, {"b", api.OK}, {"a", api.OK}, {"a", api.ErrNone}, {"b", api.OK}, {"", api.OK}, {"", api.ErrNone}, {"b", api.OK}, {"b", api.ErrNone}} {
		if e := s.Drop(c.x); e != c.e {
			t.Errorf("P6.1: Drop(%q): %d, want %d", c.x, e, c.e)
		}
		want.drop(c.x)
		check(t, "P6.1", s, want, "", "a", "b", "c", "ab")
	}
	if e := s.Add("c"); e != api.OK || s.Len() != 1 || s.Room() != 4 {
		t.Errorf("P6.1: Add behind the last Drop: %d, %d", e, s.Len())
	}
}

func TestP6_1FullOneHasRoomAgain(t *testing.T) {
	s := of(t, 2, 5, 5)
	if e := s.Drop(6); e != api.ErrNone || s.Add(6) != api.ErrFull {
		t.Errorf("P6.1: Drop of what isn't in a full one: %d", e)
	}
	if s.Drop(5) != api.OK || s.Room() != 1 || s.Add(4) != api.OK || s.Add(4) != api.ErrFull {
		t.Errorf("P6.1: Add where a Drop made room: %d", s.Len())
	}
	check(t, "P6.1", s, listed(2, 4, 5), 4, 5, 6)
}

func TestP6_1Merge(t *testing.T) {
	for _, c := range []struct {
		room   int
		things []int
		other  []int
		e      api.Errno
	}{
		{0, nil, nil, api.OK},
		{0, nil, []int{1}, api.ErrFull},
		{3, nil, []int{1, 1, 2}, api.OK},
		{2, nil, []int{1, 1, 2}, api.ErrFull},
		{5, []int{2, 3}, []int{1, 2, 2}, api.OK},
		{4, []int{2, 3}, []int{1, 2, 2}, api.ErrFull},
		{4, []int{2, 3}, []int{2, 2, 2}, api.ErrFull},
		{6, []int{2, 3}, []int{1, 2, 2}, api.OK},
		{2, []int{2, 3}, nil, api.OK},
	} {
		s, o := of(t, c.room, c.things...), of(t, 1000, c.other...)
		want, other := listed(c.room, c.things...), listed(1000, c.other...)
		if e := s.Merge(o); e != c.e || want.merge(other) != c.e {
			t.Errorf("P6.1: Merge of %v into %v of %d: %d, want %d", c.other, c.things, c.room, e, c.e)
		}
		check(t, "P6.1", s, want, 0, 1, 2, 3, 4)
		check(t, "P6.3", o, other, 0, 1, 2, 3, 4)
	}
}

func TestP6_1MergeWithItself(t *testing.T) {
	for _, things := range [][]int{nil, {7}, {7, 7}, {3, 1, 2}, {5, 1, 5, 9, 5, 1}} {
		n := len(things)
		s, want := of(t, 2*n, things...), listed(2*n, append(slices.Clone(things), things...)...)
		if e := s.Merge(s); e != api.OK {
			t.Errorf("P6.1: Merge of %v with itself: %d", things, e)
		}
		check(t, "P6.1", s, want, 0, 1, 2, 3, 5, 7, 9)
		if n == 0 {
			continue
		}
		s, want = of(t, 2*n-1, things...), listed(2*n-1, things...)
		if e := s.Merge(s); e != api.ErrFull {
			t.Errorf("P6.1: Merge of %v with itself, in too little room: %d, want ErrFull", things, e)
		}
		check(t, "P6.1", s, want, 0, 1, 2, 3, 5, 7, 9)
	}
	many := made[int](t, 1000)
	for i := range 500 {
		many.Add(i * 37 % 250)
	}
	if many.Merge(many) != api.OK || many.Len() != 1000 || many.Room() != 0 || many.Many(249) != 4 || len(gone(many.Runs())) != 250 {
		t.Errorf("P6.1: Merge of 500 things with themselves: %d", many.Len())
	}
}

func TestP6_1NearAtEachPart(t *testing.T) {
	for n := 1; n <= 9; n++ {
		s, want := made[int](t, n), listed[int](n)
		for i := range n {
			s.Add(n - i)
			want.add(n - i)
		}
		for q := 1; q <= 20; q++ {
			for p := -1; p <= q+1; p++ {
				x, e := s.Near(p, q)
				if y, f := want.near(p, q); x != y || e != f {
					t.Errorf("P6.1: Near(%d, %d) of 1 to %d: %d, %d, want %d, %d", p, q, n, x, e, y, f)
				}
			}
		}
	}
}

func TestP6_1NearOfMany(t *testing.T) {
	s, want := made[int](t, 1000), listed[int](1000)
	for i := range 1000 {
		x := i * i % 997
		s.Add(x)
		want.things = append(want.things, x)
	}
	slices.Sort(want.things)
	check(t, "P6.1", s, want, 0, 1, 4, 996)
	for p := 0; p <= 1000000; p += 499 {
		x, e := s.Near(p, 1000000)
		if y, f := want.near(p, 1000000); x != y || e != f {
			t.Fatalf("P6.1: Near(%d, 1000000): %d, %d, want %d, %d", p, x, e, y, f)
		}
	}
}

func TestP6_1NearErrorsInOrder(t *testing.T) {
	s := made[string](t, 3)
	for _, c := range []struct {
		p, q int
		e    api.Errno
	}{{0, 1, api.ErrNone}, {1, 1, api.ErrNone}, {1000000, 1000000, api.ErrNone}, {2, 1, api.ErrRange}, {0, 0, api.ErrRange}, {-1, 5, api.ErrRange}, {0, 1000001, api.ErrRange}} {
		if x, e := s.Near(c.p, c.q); x != "" || e != c.e {
			t.Errorf("P6.1: Near(%d, %d) of an empty one: %q, %d, want %d", c.p, c.q, x, e, c.e)
		}
	}
	s.Add("x")
	for _, c := range [][2]int{{2, 1}, {0, 0}, {-1, 5}, {0, 1000001}} {
		if x, e := s.Near(c[0], c[1]); x != "" || e != api.ErrRange {
			t.Errorf("P8: Near(%d, %d): %q beside error %d", c[0], c[1], x, e)
		}
	}
}

// kind: a type that is ordered as the one below it is.
type kind uint8

func TestP6_1OrderedTypes(t *testing.T) {
	check(t, "P6.1", of[kind](t, 4, 255, 0, 200, 0), listed[kind](4, 0, 0, 200, 255), 0, 1, 200, 255)
	check(t, "P6.1", of[int8](t, 4, 127, -128, 0, -128), listed[int8](4, -128, -128, 0, 127), -128, 0, 1, 127)
	check(t, "P6.1", of(t, 3, math.MaxInt, math.MinInt, 0), listed(3, math.MinInt, 0, math.MaxInt), math.MinInt, 0, math.MaxInt)
	check(t, "P6.1", of(t, 4, math.Inf(1), 0.5, math.Inf(-1), 0.5), listed(4, math.Inf(-1), 0.5, 0.5, math.Inf(1)), 0, 0.5, math.Inf(1))
	check(t, "P6.1", of(t, 4, "\xff", "a\x00", "a", "é"), listed(4, "a", "a\x00", "é", "\xff"), "", "a", "b", "\xff")
}

func TestP6_1NoNumbers(t *testing.T) {
	// What isn't a number isn't the same as itself by ==, but it is in the order, ahead of all others.
	s := of(t, 4, 1, math.NaN(), math.Inf(-1), math.NaN())
	l := slices.Collect(s.All())
	if len(l) != 4 || l[0] == l[0] || l[1] == l[1] || l[2] != math.Inf(-1) || l[3] != 1 || s.Many(math.NaN()) != 2 {
		t.Errorf("P6.1: All: %v", l)
	}
	if s.Drop(math.NaN()) != api.OK || s.Drop(math.NaN()) != api.OK || s.Drop(math.NaN()) != api.ErrNone || s.Len() != 2 {
		t.Errorf("P6.1: Drop of what isn't a number: %d left", s.Len())
	}
}

func TestP6_1Random(t *testing.T) {
	random := rand.New(rand.NewSource(6))
	for round := range 150 {
		room := random.Intn(30)
		sacks := [2]*sack.Sack[int]{made[int](t, room), made[int](t, 30)}
		lists := [2]*plain[int]{listed[int](room), listed[int](30)}
		for step := range 60 {
			at, x := random.Intn(2), random.Intn(8)
			s, l := sacks[at], lists[at]
			var e, f api.Errno
			switch random.Intn(10) {
			case 0:
				other := random.Intn(2)
				e, f = s.Merge(sacks[other]), l.merge(lists[other])
			case 1:
				sacks[at], lists[at] = s.Clone(), &plain[int]{l.room, slices.Clone(l.things)}
			case 2, 3, 4:
				e, f = s.Drop(x), l.drop(x)
			default:
				e, f = s.Add(x), l.add(x)
			}
			if e != f {
				t.Fatalf("P6.1: round %d, step %d: %d, want %d", round, step, e, f)
			}
			for i := range sacks {
				check(t, "P6.1", sacks[i], lists[i], 0, 1, 2, 3, 4, 5, 6, 7, 8)
			}
		}
	}
}

// orders: calls with each order of a list's things.
func orders(l []string, ahead int, each func([]string)) {
	if ahead == len(l) {
		each(l)
		return
	}
	for i := ahead; i < len(l); i++ {
		l[ahead], l[i] = l[i], l[ahead]
		orders(l, ahead+1, each)
		l[ahead], l[i] = l[i], l[ahead]
	}
}

func TestP6_2EachOrder(t *testing.T) {
	want := listed(6, "a", "b", "b", "c", "d", "d")
	orders([]string{"a", "b", "b", "c", "d", "d"}, 0, func(l []string) {
		check(t, "P6.2", of(t, 6, l...), want, "a", "b", "c", "d", "e")
	})
}

func TestP6_2EachMerge(t *testing.T) {
	want := listed(6, "a", "b", "b", "c", "d", "d")
	orders([]string{"a", "b", "b", "c", "d", "d"}, 0, func(l []string) {
		for cut := range len(l) + 1 {
			s, o := of(t, 6, l[:cut]...), of(t, 6, l[cut:]...)
			if e := s.Merge(o); e != api.OK {
				t.Fatalf("P6.2: Merge of %v into %v: %d", l[cut:], l[:cut], e)
			}
			check(t, "P6.2", s, want, "a", "b", "c", "d", "e")
		}
	})
}

func TestP6_2DropsBetween(t *testing.T) {
	want := listed(4, "a", "b")
	orders([]string{"a", "b", "x", "x"}, 0, func(l []string) {
		s := of(t, 4, l...)
		if s.Drop("x") != api.OK || s.Drop("x") != api.OK {
			t.Fatalf("P6.1: Drop, behind %v", l)
		}
		check(t, "P6.2", s, want, "a", "b", "x")
	})
}

// signs: of each zero of a sequence, its sign.
func signs(s iter.Seq[float64]) string {
	var b strings.Builder
	for x := range s {
		if math.Signbit(x) {
			b.WriteByte('-')
		} else {
			b.WriteByte('+')
		}
	}
	return b.String()
}

func TestP6_2TwoZeros(t *testing.T) {
	below := math.Copysign(0, -1)
	one, other := of(t, 2, 0, below), of(t, 2, below, 0)
	if a, b := signs(one.All()), signs(other.All()); a != b {
		t.Errorf("P6.2: All: %s, and in another order %s", a, b)
	}
	if one.Many(0) != 2 || one.Many(below) != 2 || other.Drop(0) != api.OK || other.Drop(0) != api.OK || other.Len() != 0 {
		t.Errorf("P6.1: zeros: %d of 2, %d left", one.Many(0), other.Len())
	}
	first, second := of(t, 2, 0.0), of(t, 2, below)
	if first.Merge(of(t, 1, below)) != api.OK || second.Merge(of(t, 1, 0.0)) != api.OK || signs(first.All()) != signs(second.All()) {
		t.Errorf("P6.2: merged: %s, and otherwise %s", signs(first.All()), signs(second.All()))
	}
}

func TestP6_3CloneStays(t *testing.T) {
	s := of(t, 5, 3, 1, 3)
	c := s.Clone()
	if c == s {
		t.Fatal("P6.3: Clone: the same one")
	}
	check(t, "P6.1", c, listed(5, 1, 3, 3), 1, 2, 3)
	s.Add(2)
	s.Drop(3)
	check(t, "P6.3", c, listed(5, 1, 3, 3), 1, 2, 3)
	c.Merge(of(t, 2, 9, 9))
	c.Drop(1)
	check(t, "P6.3", s, listed(5, 1, 2, 3), 1, 2, 3, 9)
	check(t, "P6.3", c, listed(5, 3, 3, 9, 9), 1, 2, 3, 9)
	full := of(t, 1, 4).Clone()
	if full.Room() != 0 || full.Add(4) != api.ErrFull {
		t.Errorf("P6.1: Clone of a full one: room %d", full.Room())
	}
	check(t, "P6.1", made[int](t, 0).Clone(), listed[int](0), 0)
	check(t, "P6.1", made[int](t, 1000).Clone(), listed[int](1000), 0)
}

func TestP6_3MergedOneStays(t *testing.T) {
	s, o := of(t, 9, 1), of(t, 3, 2, 2, 1)
	s.Merge(o)
	s.Drop(2)
	s.Drop(1)
	check(t, "P6.3", o, listed(3, 1, 2, 2), 1, 2)
	o.Drop(2)
	o.Drop(2)
	check(t, "P6.3", s, listed(9, 1, 2), 1, 2)
}

func TestP8SequencesEndWhenTold(t *testing.T) {
	s := of(t, 6, 1, 2, 2, 2, 5, 5)
	for most := 1; most <= 7; most++ {
		given := 0
		s.All()(func(int) bool {
			given++
			return given < most
		})
		if given != min(most, 6) {
			t.Errorf("P8: All gave %d, asked for %d", given, most)
		}
		given = 0
		s.Runs()(func(int, int) bool {
			given++
			return given < most
		})
		if given != min(most, 3) {
			t.Errorf("P8: Runs gave %d, asked for %d", given, most)
		}
	}
}

func TestP8SequencesAgain(t *testing.T) {
	s := of(t, 4, 2, 1, 2)
	all, runs := s.All(), s.Runs()
	for range all {
		break
	}
	for range runs {
		break
	}
	for range 2 {
		if l := slices.Collect(all); !slices.Equal(l, []int{1, 2, 2}) {
			t.Errorf("P8: All, gone through again: %v", l)
		}
		if l := gone(runs); !slices.Equal(l, []run[int]{{1, 1}, {2, 2}}) {
			t.Errorf("P8: Runs, gone through again: %v", l)
		}
	}
}

func TestP7ChangedWhileGoneThrough(t *testing.T) {
	s := of(t, 9, 1, 2, 2)
	for x := range s.All() {
		s.Add(x)
		s.Add(x + 10)
	}
	check(t, "P6.1", s, listed(9, 1, 1, 2, 2, 2, 2, 11, 12, 12), 1, 2, 11, 12)
	for x := range s.Runs() {
		for s.Drop(x) == api.OK {
		}
	}
	check(t, "P6.1", s, listed[int](9), 1, 2, 11, 12)
}

func TestP7MergeOfNone(t *testing.T) {
	s := of(t, 1, 4)
	if e := s.Merge(nil); e != api.OK {
		t.Errorf("P7: Merge of none: %d", e)
	}
	check(t, "P6.1", s, listed(1, 4), 4)
}

func TestP8ErrorsChangeNothing(t *testing.T) {
	s, want := of(t, 3, 7, 7, 1), listed(3, 1, 7, 7)
	errors := []api.Errno{s.Add(7), s.Add(0), s.Drop(0), s.Merge(s), s.Merge(of(t, 1, 7))}
	if !slices.Equal(errors, []api.Errno{api.ErrFull, api.ErrFull, api.ErrNone, api.ErrFull, api.ErrFull}) {
		t.Errorf("P6.1: errors: %v", errors)
	}
	check(t, "P8", s, want, 0, 1, 7)
}
