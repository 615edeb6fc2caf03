package tag_test

import (
	"fmt"
	"math/rand"
	"reflect"
	"regexp"
	"slices"
	"strings"
	"testing"

	"tidemill/api"
	"tidemill/tag"
)

// The words of the chapter, by another way than the program's.
var (
	aName      = regexp.MustCompile(`^[a-z][a-z0-9_.]{0,23}$`)
	aLabelName = regexp.MustCompile(`^[a-z][a-z0-9_]{0,23}$`)
	aText      = regexp.MustCompile(`^([^{]*)(\{([^{}]*)\})?$`)
)

// isValue: a value, byte by byte as the chapter lists them.
func isValue(s string) bool {
	if len(s) < 1 || len(s) > 24 {
		return false
	}
	for _, b := range []byte(s) {
		if b < 0x21 || b > 0x7e || slices.Contains([]byte{',', ':', ';', '=', '|', '#', '"', '{', '}'}, b) {
			return false
		}
	}
	return true
}

// isGood: a good series, by another way than the program's.
func isGood(s api.Series) bool {
	names := []string{}
	for _, l := range s.Labels {
		if !aLabelName.MatchString(l.Name) || !isValue(l.Value) {
			return false
		}
		names = append(names, l.Name)
	}
	rising := slices.Clone(names)
	slices.Sort(rising)
	rising = slices.Compact(rising)
	return aName.MatchString(s.Metric) && len(names) <= 6 && slices.Equal(names, rising)
}

// read: what a text tells, if it is some good series'.
func read(s string) (api.Series, bool) {
	m := aText.FindStringSubmatch(s)
	if m == nil {
		return api.Series{}, false
	}
	got := api.Series{Metric: m[1]}
	if m[2] != "" {
		for _, part := range strings.Split(m[3], ",") {
			l := strings.Split(part, "=")
			if len(l) != 2 {
				return api.Series{}, false
			}
			got.Labels = append(got.Labels, api.Label{Name: l[0], Value: l[1]})
		}
	}
	return got, isGood(got)
}

// labels: of names and values, one after the other.
func labels(l ...string) []api.Label {
	var all []api.Label
	for i := 0; i < len(l); i += 2 {
		all = append(all, api.Label{Name: l[i], Value: l[i+1]})
	}
	return all
}

// many: so many good labels, in order.
func many(n int) []api.Label {
	var all []api.Label
	for i := range n {
		all = append(all, api.Label{Name: fmt.Sprintf("l%02d", i), Value: fmt.Sprint(i)})
	}
	return all
}

func series(metric string, l ...string) api.Series {
	return api.Series{Metric: metric, Labels: labels(l...)}
}

// same: the same series; a list that is empty may be nil.
func same(a, b api.Series) bool {
	return a.Metric == b.Metric && slices.Equal(a.Labels, b.Labels)
}

func none(s api.Series) bool {
	return s.Metric == "" && len(s.Labels) == 0
}

// long: so many bytes that begin with a letter.
func long(n int) string {
	return strings.Repeat("x", n)
}

func pick(r *rand.Rand, bytes string, least, most int) string {
	l := make([]byte, least+r.Intn(most-least+1))
	for i := range l {
		l[i] = bytes[r.Intn(len(bytes))]
	}
	return string(l)
}

// anySeries: a good one; few letters, so that some are near to others.
func anySeries(r *rand.Rand) api.Series {
	s := api.Series{Metric: "m" + pick(r, "a._0", 0, 3)}
	taken := map[string]bool{}
	for range r.Intn(7) {
		name := "a" + pick(r, "ab_0", 0, 2)
		if !taken[name] {
			taken[name] = true
			s.Labels = append(s.Labels, api.Label{Name: name, Value: pick(r, "a1!~*[", 1, 3)})
		}
	}
	slices.SortFunc(s.Labels, func(a, b api.Label) int { return strings.Compare(a.Name, b.Name) })
	return s
}

func TestP2_1NameAndValue(t *testing.T) {
	cases := []struct {
		s           string
		name, value bool
	}{
		{"a", true, true},
		{"z", true, true},
		{"a.b_1", true, true},
		{"a..", true, true},
		{"", false, false},
		{".a", false, true},
		{"_a", false, true},
		{"0a", false, true},
		{"A", false, true},
		{"aA", false, true},
		{"a-b", false, true},
		{"a b", false, false},
		{"a\n", false, false},
		{"a\x00", false, false},
		{"a\x7f", false, false},
		{"a\x20", false, false},
		{"a\x80", false, false},
		{"ä", false, false},
		{"aä", false, false},
		{"!", false, true},
		{"~", false, true},
		{"*?[]()@%&'/\\^`<>+-$.", false, true},
		{long(23), true, true},
		{long(24), true, true},
		{long(25), false, false},
		{strings.Repeat("~", 24), false, true},
		{strings.Repeat("~", 25), false, false},
		{strings.Repeat("ä", 12), false, false},
	}
	for _, c := range cases {
		if got := tag.Name(c.s); got != c.name {
			t.Errorf("Name(%q) = %v", c.s, got)
		}
		if got := tag.Value(c.s); got != c.value {
			t.Errorf("Value(%q) = %v", c.s, got)
		}
	}
}

func TestP2_1NameAndValueOfEachByte(t *testing.T) {
	for b := range 256 {
		for _, s := range []string{string([]byte{byte(b)}), string([]byte{'a', byte(b)}), string([]byte{byte(b), 'a'}), string([]byte{'a', byte(b), 'a'})} {
			if got := tag.Name(s); got != aName.MatchString(s) {
				t.Errorf("Name(%q) = %v", s, got)
			}
			if got := tag.Value(s); got != isValue(s) {
				t.Errorf("Value(%q) = %v", s, got)
			}
		}
	}
}

func TestP2_1Good(t *testing.T) {
	cases := []struct {
		s    api.Series
		want bool
	}{
		{api.Series{Metric: "m"}, true},
		{api.Series{Metric: "m", Labels: []api.Label{}}, true},
		{series("m.x", "a", "1"), true},
		{series("m", "a", "1", "a0", "1", "a_", "1", "aa", "1", "b", "1"), true},
		{series("m", "a", "2", "b", "1"), true},
		{series(long(24), long(24), strings.Repeat("~", 24)), true},
		{series("m", "a", "x.y"), true},
		{api.Series{Metric: "m", Labels: many(6)}, true},
		{api.Series{Metric: "m", Labels: many(7)}, false},
		{api.Series{}, false},
		{series("", "a", "1"), false},
		{series("M", "a", "1"), false},
		{series(long(25)), false},
		{series("m", "", "1"), false},
		{series("m", "a", ""), false},
		{series("m", "a.b", "1"), false},
		{series("m", "a.", "1"), false},
		{series("m", "A", "1"), false},
		{series("m", "a", "1", "b", "x y"), false},
		{series("m", "a", "1,2"), false},
		{series("m", long(25), "1"), false},
		{series("m", "a", long(25)), false},
		{series("m", "b", "1", "a", "2"), false},
		{series("m", "a", "1", "c", "2", "b", "3"), false},
		{series("m", "a", "1", "a", "1"), false},
		{series("m", "a", "1", "a", "2"), false},
		{series("m", "a", "1", "b", "2", "a", "1"), false},
	}
	for _, c := range cases {
		if got := tag.Good(c.s); got != c.want {
			t.Errorf("Good(%v) = %v", c.s, got)
		}
	}
}

func TestP2_1Make(t *testing.T) {
	cases := []struct {
		metric string
		labels []api.Label
		text   string
	}{
		{"m", nil, "m"},
		{"m", []api.Label{}, "m"},
		{"reqs", labels("zone", "b", "code", "200"), "reqs{code=200,zone=b}"},
		{"m.x", labels("a", "1"), "m.x{a=1}"},
		{"m", labels("b", "1", "aa", "2", "a_", "3", "a", "4", "a0", "5"), "m{a=4,a0=5,a_=3,aa=2,b=1}"},
		{"m", labels("f", "1", "e", "2", "d", "3", "c", "4", "b", "5", "a", "6"), "m{a=6,b=5,c=4,d=3,e=2,f=1}"},
		{long(24), labels(long(24), long(24)), long(24) + "{" + long(24) + "=" + long(24) + "}"},
	}
	for _, c := range cases {
		s, e := tag.Make(c.metric, c.labels)
		if got := tag.Text(s); e != api.OK || got != c.text || !isGood(s) {
			t.Errorf("Make(%q, %v) = %q, %d", c.metric, c.labels, got, e)
		}
	}
}

func TestP2_1MakeRefuses(t *testing.T) {
	cases := []struct {
		metric string
		labels []api.Label
		want   api.Errno
	}{
		{"", nil, api.ErrName},
		{"M", nil, api.ErrName},
		{long(25), nil, api.ErrName},
		{"m{a=1}", nil, api.ErrName},
		{"m", labels("", "1"), api.ErrTag},
		{"m", labels("a", ""), api.ErrTag},
		{"m", labels("a.b", "1"), api.ErrTag},
		{"m", labels("A", "1"), api.ErrTag},
		{"m", labels("a", "1", "b", "x=y"), api.ErrTag},
		{"m", labels(long(25), "1"), api.ErrTag},
		{"m", labels("a", long(25)), api.ErrTag},
		{"m", labels("a", "1", "a", "1"), api.ErrTwice},
		{"m", labels("a", "1", "b", "2", "a", "3"), api.ErrTwice},
		{"m", many(7), api.ErrFull},
		{"m", many(1000), api.ErrFull},
		// The first of more than one, in the order of the chapter's words.
		{"", labels("", ""), api.ErrName},
		{"", labels("a", "1", "a", "1"), api.ErrName},
		{"", many(7), api.ErrName},
		{"m", labels("a", "1", "a", "1", "b", ""), api.ErrTag},
		{"m", append(many(7), labels("l00", "1", "a.b", "1")...), api.ErrTag},
		{"m", append(many(7), labels("l06", "1")...), api.ErrTwice},
		{"m", append(many(6), labels("l00", "1")...), api.ErrTwice},
	}
	for _, c := range cases {
		if s, e := tag.Make(c.metric, c.labels); e != c.want || !none(s) {
			t.Errorf("Make(%q, %v) = %v, %d, not %d", c.metric, c.labels, s, e, c.want)
		}
	}
}

func TestP2_1Text(t *testing.T) {
	cases := []struct {
		s    api.Series
		want string
	}{
		{series("m"), "m"},
		{api.Series{Metric: "m", Labels: []api.Label{}}, "m"},
		{series("m", "a", "1"), "m{a=1}"},
		{series("reqs", "code", "200", "zone", "b"), "reqs{code=200,zone=b}"},
		{series("a.b", "x", "~!", "y", "."), "a.b{x=~!,y=.}"},
	}
	for _, c := range cases {
		if got := tag.Text(c.s); got != c.want {
			t.Errorf("Text(%v) = %q", c.s, got)
		}
	}
}

func TestP2_1Read(t *testing.T) {
	good := []string{"m", "m.x", "m{a=1}", "m{a=1,b=2}", "m{a=b,b=a}", long(24), "m{" + long(24) + "=" + strings.Repeat("~", 24) + "}", "m{a=1,b=1,c=1,d=1,e=1,f=1}", "m{a=.,b=!}"}
	for _, s := range good {
		got, e := tag.Read(s)
		want, is := read(s)
		if e != api.OK || !is || !same(got, want) {
			t.Errorf("Read(%q) = %v, %d", s, got, e)
		}
	}
	wrong := []string{"", " ", "M", "1", ".", "{", "}", "{}", "m{", "m}", "m{}", "m{,}", "m{a", "m{a}", "m{a=", "m{a=}", "m{=1}", "m{=}", "m{a=1", "m{a=1,", "m{a=1,}", "m{,a=1}", "m{a=1,,b=2}", "m{a=1}}", "m{{a=1}}", "m{{a=1}", "m{a=1}{b=1}", "m{a=1}x", "m{a=1} ", " m{a=1}", "m {a=1}", "m{ a=1}", "m{a =1}", "m{a=1, b=2}", "{a=1}", "m{a.b=1}", "m{b=1,a=2}", "m{a=1,a=1}", "m{a=1,a=2}", "m{a=1=2}", "m{a==1}", "m{A=1}", "m{a=1,b=1,c=1,d=1,e=1,f=1,g=1}", "m{a=1,b=1,c=1,d=1,e=1,f=1,}", "m{a=1}\n", "m\n", long(25), "m{" + long(25) + "=1}", "m{a=" + long(25) + "}", "m{" + strings.Repeat(",", 1000) + "}", "m=1", "m,a=1", "m#a=1", "ä", "m{a=ä}", "\x00"}
	for _, s := range wrong {
		if got, e := tag.Read(s); e != api.ErrForm || !none(got) {
			t.Errorf("Read(%q) = %v, %d", s, got, e)
		}
	}
}

// Texts that are one byte away from a good series'.
func TestP2_1ReadNear(t *testing.T) {
	for _, base := range []string{"m", "m{a=1}", "m.x{a=1,b=2}", "m{a=1,b=1,c=1,d=1,e=1,f=1}"} {
		for i := range len(base) + 1 {
			near := []string{base[:i]}
			for b := range 256 {
				near = append(near, base[:i]+string([]byte{byte(b)})+base[i:])
				if i < len(base) {
					near = append(near, base[:i]+string([]byte{byte(b)})+base[i+1:])
				}
			}
			if i < len(base) {
				near = append(near, base[:i]+base[i+1:])
			}
			for _, s := range near {
				want, is := read(s)
				got, e := tag.Read(s)
				if is && (e != api.OK || !same(got, want)) || !is && (e != api.ErrForm || !none(got)) {
					t.Errorf("Read(%q) = %v, %d", s, got, e)
				}
			}
		}
	}
}

func TestP2_1Get(t *testing.T) {
	s := series("m", "a", "1", "b", "2", "c", "3")
	for name, want := range map[string]string{"a": "1", "b": "2", "c": "3"} {
		if got, e := tag.Get(s, name); got != want || e != api.OK {
			t.Errorf("Get(%q) = %q, %d", name, got, e)
		}
	}
	for _, name := range []string{"", "m", ".", "1", "d", "aa", "A"} {
		if got, e := tag.Get(s, name); got != "" || e != api.ErrNone {
			t.Errorf("Get(%q) = %q, %d", name, got, e)
		}
	}
	if got, e := tag.Get(series("m"), "a"); got != "" || e != api.ErrNone {
		t.Errorf("Get of none = %q, %d", got, e)
	}
}

func TestP2_1LessAndOnly(t *testing.T) {
	s := series("m", "a", "1", "b", "2", "c", "3")
	cases := []struct {
		names      []string
		less, only string
	}{
		{nil, "m{a=1,b=2,c=3}", "m"},
		{[]string{}, "m{a=1,b=2,c=3}", "m"},
		{[]string{"b"}, "m{a=1,c=3}", "m{b=2}"},
		{[]string{"c", "a"}, "m{b=2}", "m{a=1,c=3}"},
		{[]string{"c", "a", "c", "a"}, "m{b=2}", "m{a=1,c=3}"},
		{[]string{"b", "zz", "", ".", "m", "1"}, "m{a=1,c=3}", "m{b=2}"},
		{[]string{"c", "b", "a"}, "m", "m{a=1,b=2,c=3}"},
	}
	for _, c := range cases {
		less, only := tag.Less(s, c.names), tag.Only(s, c.names)
		if tag.Text(less) != c.less || tag.Text(only) != c.only {
			t.Errorf("Less, Only of %v: %v, %v", c.names, less, only)
		}
	}
	if less, only := tag.Less(series("m"), []string{"a"}), tag.Only(series("m"), []string{"a"}); !same(less, series("m")) || !same(only, series("m")) {
		t.Errorf("Less, Only of no labels: %v, %v", less, only)
	}
}

func TestP2_1All(t *testing.T) {
	s := series("m", "a", "1", "b", "2", "c", "3")
	all := tag.All(s)
	for again := range 2 {
		var got []api.Label
		for name, value := range all {
			got = append(got, api.Label{Name: name, Value: value})
		}
		if !slices.Equal(got, s.Labels) {
			t.Errorf("All, time %d: %v", again, got)
		}
	}
	for stop := 1; stop <= 3; stop++ {
		n := 0
		all(func(name, value string) bool {
			n++
			return n < stop
		})
		if n != stop {
			t.Errorf("All told to end at %d gave %d", stop, n)
		}
	}
	for name, value := range tag.All(series("m")) {
		t.Errorf("All of no labels gave %q, %q", name, value)
	}
}

func TestP2_2ReadOfText(t *testing.T) {
	r := rand.New(rand.NewSource(2))
	by := map[string]api.Series{}
	for range 20000 {
		s := anySeries(r)
		text := tag.Text(s)
		got, e := tag.Read(text)
		if e != api.OK || !same(got, s) || !tag.Good(s) {
			t.Fatalf("Read(%q) = %v, %d, not %v", text, got, e, s)
		}
		if other, some := by[text]; some && !same(other, s) {
			t.Fatalf("%v and %v have one text: %q", other, s, text)
		}
		by[text] = s
	}
	byText := map[string]string{}
	for text, s := range by {
		key := fmt.Sprintf("%q", s)
		if other, some := byText[key]; some {
			t.Fatalf("%v has two texts: %q and %q", s, other, text)
		}
		byText[key] = text
	}
}

// Whatever is read has that text.
func TestP2_2TextOfRead(t *testing.T) {
	r := rand.New(rand.NewSource(3))
	for range 200000 {
		text := "m" + pick(r, "ab1.{}=,", 0, 12)
		s, e := tag.Read(text)
		if e == api.OK && (tag.Text(s) != text || !isGood(s)) {
			t.Fatalf("Read(%q) = %v, of the text %q", text, s, tag.Text(s))
		}
		if _, is := read(text); is != (e == api.OK) {
			t.Fatalf("Read(%q) = %d", text, e)
		}
	}
}

// orders: all orders of these.
func orders(l []api.Label) [][]api.Label {
	if len(l) == 0 {
		return [][]api.Label{nil}
	}
	var all [][]api.Label
	for i := range l {
		rest := append(slices.Clone(l[:i]), l[i+1:]...)
		for _, o := range orders(rest) {
			all = append(all, append([]api.Label{l[i]}, o...))
		}
	}
	return all
}

func TestP2_3MakeOfAnyOrder(t *testing.T) {
	lists := []struct {
		labels []api.Label
		want   api.Errno
	}{
		{many(6), api.OK},
		{labels("a", "3", "b", "2", "c", "1"), api.OK},
		{many(7), api.ErrFull},
		{labels("a", "1", "b", "2", "c", "3", "b", "4"), api.ErrTwice},
		{labels("a", "1", "b", "2", "a", "3", "c.d", "4"), api.ErrTag},
	}
	for _, l := range lists {
		sorted := api.Series{}
		if l.want == api.OK {
			sorted = api.Series{Metric: "m", Labels: l.labels}
		}
		for _, o := range orders(l.labels) {
			if s, e := tag.Make("m", o); e != l.want || !same(s, sorted) {
				t.Fatalf("Make(m, %v) = %v, %d", o, s, e)
			}
		}
	}
}

func TestP2_3LessAndOnlyHaveAll(t *testing.T) {
	r := rand.New(rand.NewSource(4))
	for range 5000 {
		s := anySeries(r)
		var names []string
		for range r.Intn(8) {
			names = append(names, "a"+pick(r, "ab_0", 0, 2))
		}
		less, only := tag.Less(s, names), tag.Only(s, names)
		if !isGood(less) || !isGood(only) || less.Metric != s.Metric || only.Metric != s.Metric {
			t.Fatalf("Less, Only of %v, %v: %v, %v", s, names, less, only)
		}
		both := append(slices.Clone(less.Labels), only.Labels...)
		if got, e := tag.Make(s.Metric, both); e != api.OK || !same(got, s) {
			t.Fatalf("Less, Only of %v, %v: %v, %v", s, names, less, only)
		}
		for _, l := range only.Labels {
			if !slices.Contains(names, l.Name) {
				t.Fatalf("Only(%v, %v) = %v", s, names, only)
			}
		}
		for _, l := range less.Labels {
			if slices.Contains(names, l.Name) {
				t.Fatalf("Less(%v, %v) = %v", s, names, less)
			}
		}
	}
}

// spare: labels within more room than they need, whose rest has a mark; and the whole room.
func spare(l []api.Label) ([]api.Label, []api.Label) {
	room := slices.Clone(l)
	for range 4 {
		room = append(room, api.Label{Name: "mark", Value: "mark"})
	}
	return room[:len(l)], room
}

func TestP2_4WhatIsHandedInStays(t *testing.T) {
	given, room := spare(labels("c", "3", "a", "1", "b", "2"))
	before := slices.Clone(room)
	s, _ := tag.Make("m", given)
	if !slices.Equal(room, before) {
		t.Errorf("Make changed %v into %v", before, room)
	}
	given, room = spare(s.Labels)
	before = slices.Clone(room)
	s = api.Series{Metric: "m", Labels: given}
	names := []string{"c", "zz", "a", "mark"}[:3]
	tag.Good(s)
	tag.Text(s)
	tag.Get(s, "b")
	tag.Less(s, names)
	tag.Only(s, names)
	for range tag.All(s) {
	}
	if !slices.Equal(room, before) || !reflect.DeepEqual(names[:4], []string{"c", "zz", "a", "mark"}) {
		t.Errorf("%v became %v; the names: %v", before, room, names[:4])
	}
}

// fill: writes over all of an answer's room.
func fill(l []api.Label) {
	for i := range l[:cap(l)] {
		l[:cap(l)][i] = api.Label{Name: "other", Value: "other"}
	}
}

func TestP2_4AnswersAreNewMemory(t *testing.T) {
	given, room := spare(labels("a", "1", "b", "2", "c", "3"))
	before := slices.Clone(room)
	s := api.Series{Metric: "m", Labels: given}
	made, _ := tag.Make("m", given)
	answers := []api.Series{made, tag.Less(s, nil), tag.Less(s, []string{"c"}), tag.Only(s, []string{"a", "b", "c"}), tag.Only(s, []string{"a"}), tag.Less(api.Series{Metric: "m", Labels: given[:0]}, nil)}
	empty, _ := tag.Make("m", given[:0])
	answers = append(answers, empty)
	texts := make([]string, len(answers))
	for i, a := range answers {
		texts[i] = tag.Text(a)
	}
	for i, a := range answers {
		fill(a.Labels)
		if !slices.Equal(room, before) {
			t.Fatalf("answer %d shares memory with what was handed in: %v", i, room)
		}
		for k := i + 1; k < len(answers); k++ {
			if tag.Text(answers[k]) != texts[k] {
				t.Fatalf("answers %d and %d share memory", i, k)
			}
		}
	}
}

func TestP2_4WhatIsHandedInIsNotKept(t *testing.T) {
	given, room := spare(labels("a", "1", "b", "2"))
	s := api.Series{Metric: "m", Labels: given}
	made, _ := tag.Make("m", given)
	less, only, all := tag.Less(s, nil), tag.Only(s, []string{"a", "b"}), tag.All(s)
	fill(room)
	for i, a := range []api.Series{made, less, only} {
		if tag.Text(a) != "m{a=1,b=2}" {
			t.Errorf("answer %d became %v", i, a)
		}
	}
	var got []api.Label
	for name, value := range all {
		got = append(got, api.Label{Name: name, Value: value})
	}
	if !slices.Equal(got, labels("a", "1", "b", "2")) {
		t.Errorf("All became %v", got)
	}
}
