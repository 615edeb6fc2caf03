package sift_test

import (
	"fmt"
	"math"
	"math/rand"
	"reflect"
	"regexp"
	"slices"
	"strings"
	"testing"

	"tidemill/api"
	"tidemill/rule"
	"tidemill/sift"
	"tidemill/tag"
)

// textOf: a series', by another way than the program's.
func textOf(x api.Series) string {
	if len(x.Labels) == 0 {
		return x.Metric
	}
	var parts []string
	for _, l := range x.Labels {
		parts = append(parts, l.Name+"="+l.Value)
	}
	return x.Metric + "{" + strings.Join(parts, ",") + "}"
}

// patterns: those without a sign but * and ?, as regular expressions: made once each, because that takes long.
var patterns = map[string]*regexp.Regexp{}

func matches(pattern, s string) bool {
	if patterns[pattern] == nil {
		signs := strings.NewReplacer(`\*`, ".*", `\?`, ".")
		patterns[pattern] = regexp.MustCompile("^" + signs.Replace(regexp.QuoteMeta(pattern)) + "$")
	}
	return patterns[pattern].MatchString(s)
}

// holds: does a matcher hold for a series? By another way than the program's.
func holds(m rule.Match, x api.Series) bool {
	value := map[string]string{".": x.Metric}
	for _, l := range x.Labels {
		value[l.Name] = l.Value
	}
	return matches(m.Pattern, value[m.Name]) != m.Not
}

// counting: the places of the rules that count, by another way than the program's.
func counting(s rule.Set, x api.Series) []int {
	var places []int
	for i, r := range s.Rules {
		held := 0
		for _, m := range r.When {
			if holds(m, x) {
				held++
			}
		}
		if held < len(r.When) {
			continue
		}
		places = append(places, i)
		if r.Kind == 1 {
			break
		}
	}
	return places
}

// goal: the text of the series that a rule sends one to, by another way than the program's.
func goal(r rule.Rule, x api.Series) string {
	if r.Kind == 2 {
		return textOf(x)
	}
	y := api.Series{Metric: r.Metric}
	for _, l := range x.Labels {
		if slices.Contains(r.Labels, l.Name) == r.Keep {
			y.Labels = append(y.Labels, l)
		}
	}
	return textOf(y)
}

// expected: the targets in order, each as text/place, by another way than the program's; none, if an event is dropped.
func expected(s rule.Set, x api.Series) []string {
	var all []string
	for _, i := range counting(s, x) {
		if s.Rules[i].Kind == 1 {
			return nil
		}
		for place, p := range s.Policies {
			if slices.Contains(s.Rules[i].To, p.Name) {
				// No byte of a text is ahead of a blank, and a place has one digit: these are in the targets' order.
				all = append(all, fmt.Sprintf("%s /%d", goal(s.Rules[i], x), place))
			}
		}
	}
	slices.Sort(all)
	all = slices.Compact(all)
	for i := range all {
		all[i] = strings.Replace(all[i], " ", "", 1)
	}
	return all
}

// shown: targets, each as text/place.
func shown(l []sift.Target) []string {
	var all []string
	for _, y := range l {
		all = append(all, fmt.Sprintf("%s/%d", textOf(y.Series), y.Policy))
	}
	return all
}

// checkTargets: does the program answer with these targets (or, of none, with ErrDrop)?
func checkTargets(t *testing.T, s rule.Set, x api.Series, want []string) {
	t.Helper()
	answer := api.OK
	if len(want) == 0 {
		answer = api.ErrDrop
	}
	if got, e := sift.Targets(s, x); e != answer || !slices.Equal(shown(got), want) {
		t.Errorf("P10.1: Targets(%s) by\n%s: %v, %d, want %v, %d", textOf(x), rule.Print(s), shown(got), e, want, answer)
	}
}

// places: those that a sequence of rules tells; each rule must be the set's of that place.
func places(t *testing.T, s rule.Set, x api.Series) []int {
	t.Helper()
	var all []int
	for i, r := range sift.Rules(s, x) {
		all = append(all, i)
		if i < 0 || i >= len(s.Rules) || !sameRule(r, s.Rules[i]) {
			t.Fatalf("P10.1: Rules(%s) by\n%s: at %d %+v", textOf(x), rule.Print(s), i, r)
		}
	}
	return all
}

// checkRules: does the program tell of the rules at these places?
func checkRules(t *testing.T, s rule.Set, x api.Series, want ...int) {
	t.Helper()
	if got := places(t, s, x); !slices.Equal(got, want) {
		t.Errorf("P10.1: Rules(%s) by\n%s: %v, want %v", textOf(x), rule.Print(s), got, want)
	}
}

// sameRule: the same one; a list that is empty may be nil.
func sameRule(a, b rule.Rule) bool {
	return a.Kind == b.Kind && slices.Equal(a.When, b.When) && slices.Equal(a.To, b.To) &&
		a.Metric == b.Metric && a.Keep == b.Keep && slices.Equal(a.Labels, b.Labels)
}

// set: four policies, whose names don't stand in the order of their places, and these rules.
func set(t *testing.T, rules ...string) rule.Set {
	t.Helper()
	text := ""
	for _, name := range []string{"p", "a", "z", "c"} {
		text += "policy " + name + " size=10 slide=10 late=5 keep=100\n"
	}
	for _, line := range rules {
		text += line + "\n"
	}
	s, line, e := rule.Parse(text)
	if e != api.OK {
		t.Fatalf("%q: %d at %d", text, e, line)
	}
	return s
}

func series(t *testing.T, text string) api.Series {
	t.Helper()
	x, e := tag.Read(text)
	if e != api.OK {
		t.Fatalf("%q: %d", text, e)
	}
	return x
}

func TestP10_1Example(t *testing.T) {
	s := set(t, "map -> p", "roll -> p as all keep -")
	checkTargets(t, s, series(t, "reqs{code=200}"), []string{"all/0", "reqs{code=200}/0"})
	checkRules(t, s, series(t, "reqs{code=200}"), 0, 1)
}

// sifted: rules, and what becomes of m{a=1,b=2,c=3} by them.
type sifted struct {
	rules   []string
	counts  []int // places of the rules that count
	targets []string
}

func checkAll(t *testing.T, cases []sifted) {
	t.Helper()
	for _, c := range cases {
		s, x := set(t, c.rules...), series(t, "m{a=1,b=2,c=3}")
		checkTargets(t, s, x, c.targets)
		checkRules(t, s, x, c.counts...)
	}
}

// m: its own targets of policies' places.
func m(places ...int) []string {
	var all []string
	for _, place := range places {
		all = append(all, fmt.Sprintf("m{a=1,b=2,c=3}/%d", place))
	}
	return all
}

func TestP10_1None(t *testing.T) {
	checkAll(t, []sifted{
		{nil, nil, nil},
		{[]string{"map .=n -> p"}, nil, nil},
		{[]string{"map a=2 -> p,a", "roll .=n -> p as x keep -", "map d=? -> z", "drop a!=1"}, nil, nil},
	})
}

func TestP10_1Drop(t *testing.T) {
	checkAll(t, []sifted{
		{[]string{"drop"}, []int{0}, nil},
		// The first, the last, between others.
		{[]string{"drop a=1", "map -> p", "roll -> a as x less -"}, []int{0}, nil},
		{[]string{"map -> p", "roll -> a as x less -", "drop a=1"}, []int{0, 1, 2}, nil},
		{[]string{"map -> p", "drop a=1", "roll -> a as x less -"}, []int{0, 1}, nil},
		{[]string{"map -> p", "map a=2 -> p", "drop", "drop", "map -> a"}, []int{0, 2}, nil},
		// One that doesn't count, too: before, behind.
		{[]string{"drop a=2", "map -> p"}, []int{1}, m(0)},
		{[]string{"map -> p", "drop a=2"}, []int{0}, m(0)},
		{[]string{"map -> p", "drop d=*1", "drop .!=m", "map -> a"}, []int{0, 3}, m(0, 1)},
		{[]string{"drop a=1 b=1", "map -> p", "drop a=1 b=2"}, []int{1, 2}, nil},
		{[]string{"drop a=2", "drop b=1"}, nil, nil},
	})
}

func TestP10_1Matchers(t *testing.T) {
	checkAll(t, []sifted{
		{[]string{"map -> p"}, []int{0}, m(0)},
		{[]string{"map a=1 -> p", "map a!=1 -> a", "map a=2 -> z", "map a!=2 -> c"}, []int{0, 3}, m(0, 3)},
		{[]string{"map .=m -> p", "map .!=m -> a", "map .=? -> z", "map .!=n* -> c"}, []int{0, 2, 3}, m(0, 2, 3)},
		// A label that isn't there is empty.
		{[]string{"map d=* -> p", "map d=? -> a", "map d!=? -> z", "map d!=* -> c"}, []int{0, 2}, m(0, 2)},
		{[]string{"map a={1,2} b={1,2} c={1,2} -> p", "map a={1,2} b={1,2} c={3,4} -> a"}, []int{1}, m(1)},
	})
}

// Of so many matchers one alone doesn't hold.
func TestP10_1OneMatcherAlone(t *testing.T) {
	all := []string{".=m", "a=1", "b!=1", "c=?", "d!=x", ".=*"}
	wrong := []string{".!=m", "a=2", "b!=2", "c=??", "d=x", ".!=*"}
	x := series(t, "m{a=1,b=2,c=3}")
	for n := 1; n <= 6; n++ {
		s := set(t, "map "+strings.Join(all[:n], " ")+" -> p")
		checkRules(t, s, x, 0)
		checkTargets(t, s, x, m(0))
		for at := range n {
			words := slices.Clone(all[:n])
			words[at] = wrong[at]
			for _, behind := range []string{"-> p", "-> p as x less -"} {
				kind := map[bool]string{true: "map ", false: "roll "}[behind == "-> p"]
				s := set(t, kind+strings.Join(words, " ")+" "+behind)
				checkRules(t, s, x)
				checkTargets(t, s, x, nil)
			}
			// As a Drop it doesn't drop.
			s := set(t, "drop "+strings.Join(words, " "), "map -> p")
			checkRules(t, s, x, 1)
			checkTargets(t, s, x, m(0))
		}
	}
}

func TestP10_1MapAndRoll(t *testing.T) {
	checkAll(t, []sifted{
		{[]string{"map -> a"}, []int{0}, m(1)},
		{[]string{"map -> a,c,p,z"}, []int{0}, m(0, 1, 2, 3)},
		{[]string{"map -> c,z,a,p"}, []int{0}, m(0, 1, 2, 3)},
		{[]string{"map -> z,p"}, []int{0}, m(0, 2)},
		{[]string{"roll -> c as x less a"}, []int{0}, []string{"x{b=2,c=3}/3"}},
		{[]string{"roll -> a,c,p,z as x keep a"}, []int{0}, []string{"x{a=1}/0", "x{a=1}/1", "x{a=1}/2", "x{a=1}/3"}},
		{[]string{"roll -> z,a as x keep a,c", "map -> c"}, []int{0, 1}, []string{"m{a=1,b=2,c=3}/3", "x{a=1,c=3}/1", "x{a=1,c=3}/2"}},
		// Keep, or drop: none, some, all, those that it hasn't.
		{[]string{"roll -> p as x keep -"}, []int{0}, []string{"x/0"}},
		{[]string{"roll -> p as x less -"}, []int{0}, []string{"x{a=1,b=2,c=3}/0"}},
		{[]string{"roll -> p as x keep b"}, []int{0}, []string{"x{b=2}/0"}},
		{[]string{"roll -> p as x less b"}, []int{0}, []string{"x{a=1,c=3}/0"}},
		{[]string{"roll -> p as x keep a,b,c"}, []int{0}, []string{"x{a=1,b=2,c=3}/0"}},
		{[]string{"roll -> p as x less a,b,c"}, []int{0}, []string{"x/0"}},
		{[]string{"roll -> p as x keep d,m"}, []int{0}, []string{"x/0"}},
		{[]string{"roll -> p as x less d,m"}, []int{0}, []string{"x{a=1,b=2,c=3}/0"}},
		{[]string{"roll -> p as x keep a0,b,bb,d"}, []int{0}, []string{"x{b=2}/0"}},
		{[]string{"roll -> p as x less a0,b,bb,d"}, []int{0}, []string{"x{a=1,c=3}/0"}},
	})
	bare := series(t, "m")
	checkTargets(t, set(t, "map -> a"), bare, []string{"m/1"})
	checkTargets(t, set(t, "roll -> a as x less -"), bare, []string{"x/1"})
	checkTargets(t, set(t, "roll -> a as x keep a,b"), bare, []string{"x/1"})
}

func TestP10_1Twice(t *testing.T) {
	checkAll(t, []sifted{
		{[]string{"map -> a", "map -> a"}, []int{0, 1}, m(1)},
		{[]string{"map -> a,p", "map a=1 -> p,z", "map -> p"}, []int{0, 1, 2}, m(0, 1, 2)},
		{[]string{"roll -> p as x less a,b", "roll -> p as x keep c", "roll -> p as x less a,b,d"}, []int{0, 1, 2}, []string{"x{c=3}/0"}},
		{[]string{"roll -> p as x less -", "roll -> a as x less -"}, []int{0, 1}, []string{"x{a=1,b=2,c=3}/0", "x{a=1,b=2,c=3}/1"}},
		// A Roll whose series is the event's own.
		{[]string{"roll -> a as m less -"}, []int{0}, m(1)},
		{[]string{"roll -> a as m keep a,b,c,d", "map -> a"}, []int{0, 1}, m(1)},
		{[]string{"map -> a", "roll -> a,p as m less d"}, []int{0, 1}, m(0, 1)},
	})
	all := slices.Repeat([]string{"map -> z,c,p,a"}, 16)
	checkTargets(t, set(t, all...), series(t, "m{a=1,b=2,c=3}"), m(0, 1, 2, 3))
}

// By their texts, byte by byte, not by metrics and labels; and then by places, not by policies' names.
func TestP10_1Order(t *testing.T) {
	checkAll(t, []sifted{
		{[]string{"map -> a", "map -> p"}, []int{0, 1}, m(0, 1)},
		{[]string{"roll -> z,p as x keep -", "roll -> a as m.z keep -", "map -> c,a", "roll -> p as m0 less -", "roll -> c as mm keep -", "roll -> a as m keep -"}, []int{0, 1, 2, 3, 4, 5},
			[]string{"m/1", "m.z/1", "m0{a=1,b=2,c=3}/0", "mm/3", "m{a=1,b=2,c=3}/1", "m{a=1,b=2,c=3}/3", "x/0", "x/2"}},
		{[]string{"roll -> p as x keep c", "roll -> p as x keep a", "roll -> a as x keep a,b", "roll -> p as x keep b", "roll -> p as x keep a,c"}, []int{0, 1, 2, 3, 4},
			[]string{"x{a=1,b=2}/1", "x{a=1,c=3}/0", "x{a=1}/0", "x{b=2}/0", "x{c=3}/0"}},
	})
	s := set(t, "roll -> p as x keep a0", "roll -> p as x keep a_", "roll -> p as x keep a", "roll -> p as x keep aa")
	checkTargets(t, s, series(t, "m{a=1,a0=1,a_=1,aa=1}"), []string{"x{a0=1}/0", "x{a=1}/0", "x{a_=1}/0", "x{aa=1}/0"})
}

// A set with so many rules, targets and labels as may be.
func TestP10_1Most(t *testing.T) {
	var rules, want []string
	x := series(t, "m{a=1,b=2,c=3,d=4,e=5,f=6}")
	for i := range 16 {
		rules = append(rules, fmt.Sprintf("roll .=m a=1 b=2 c=3 d=4 e=5 -> c,z,a,p as x%02d keep a,b,c,d,e,f", 15-i))
		for place := range 4 {
			want = append(want, fmt.Sprintf("x%02d{a=1,b=2,c=3,d=4,e=5,f=6}/%d", i, place))
		}
	}
	s := set(t, rules...)
	checkTargets(t, s, x, want)
	checkRules(t, s, x, 0, 1, 2, 3, 4, 5, 6, 7, 8, 9, 10, 11, 12, 13, 14, 15)
}

func TestP10_1RulesEnd(t *testing.T) {
	s, x := set(t, "map a=2 -> p", "map -> p", "drop a=2", "roll a=1 -> a as x less -", "map -> z", "drop b=2", "map -> p"), series(t, "m{a=1,b=2}")
	all := []int{1, 3, 4, 5}
	rules := sift.Rules(s, x)
	for stop := 1; stop <= len(all); stop++ {
		var got []int
		rules(func(i int, r rule.Rule) bool {
			got = append(got, i)
			return len(got) < stop
		})
		if !slices.Equal(got, all[:stop]) {
			t.Errorf("P10.1: Rules, told to end at %d: %v", stop, got)
		}
	}
	// As often as it is gone through, also one within the other.
	var outer, inner []int
	for i := range rules {
		outer = append(outer, i)
		for k := range rules {
			inner = append(inner, k)
		}
	}
	if !slices.Equal(outer, all) || !slices.Equal(inner, slices.Repeat(all, len(all))) {
		t.Errorf("P10.1: Rules, gone through again: %v, %v", outer, inner)
	}
	checkRules(t, set(t), x)
	checkRules(t, set(t, "map a=2 -> p"), x)
}

func target(x api.Series, policy int) sift.Target {
	return sift.Target{Series: x, Policy: policy}
}

func sign(n int) int {
	return max(-1, min(1, n))
}

func TestP10_1Compare(t *testing.T) {
	// In their order.
	var rising []sift.Target
	for _, text := range []string{"a", "a.b", "a.b{a=1}", "a0", "aa", "a{a=!}", "a{a=1,b=1}", "a{a=1,c=0}", "a{a=10}", "a{a=1}", "a{a=2}", "a{b=1}", "b"} {
		for _, place := range []int{0, 1, 2, 3} {
			rising = append(rising, target(series(t, text), place))
		}
	}
	for i, a := range rising {
		for k, b := range rising {
			if got := sift.Compare(a, b); sign(got) != sign(i-k) {
				t.Errorf("P10.1: Compare of %v: %d", shown([]sift.Target{a, b}), got)
			}
		}
	}
	// No labels may be a nil list or an empty one.
	if got := sift.Compare(target(api.Series{Metric: "m"}, 1), target(api.Series{Metric: "m", Labels: []api.Label{}}, 1)); got != 0 {
		t.Errorf("P10.1: Compare of no labels: %d", got)
	}
	// Places whose difference is more than an int.
	low, high := target(series(t, "m"), math.MinInt), target(series(t, "m"), math.MaxInt)
	if sift.Compare(low, high) >= 0 || sift.Compare(high, low) <= 0 {
		t.Errorf("P10.1: Compare of the least and the greatest place: %d, %d", sift.Compare(low, high), sift.Compare(high, low))
	}
}

// anyRule: a right one upon the first so many of the policies; few names, so that rules meet.
func anyRule(r *rand.Rand, l []api.Policy) rule.Rule {
	x := rule.Rule{Kind: []int{1, 2, 2, 3, 3, 3}[r.Intn(6)]}
	for range []int{0, 0, 1, 1, 2, 6}[r.Intn(6)] {
		x.When = append(x.When, rule.Match{
			Name:    []string{".", "a", "b", "d"}[r.Intn(4)],
			Not:     r.Intn(3) == 0,
			Pattern: []string{"*", "?", "1", "m*", "?*", "*2"}[r.Intn(6)],
		})
	}
	if x.Kind == 1 {
		// Most of them don't count.
		x.When = append(x.When[:min(len(x.When), 5)], rule.Match{Name: "c", Pattern: []string{"7", "8", "*"}[r.Intn(3)]})
		return x
	}
	for _, i := range r.Perm(len(l))[:1+r.Intn(len(l))] {
		x.To = append(x.To, l[i].Name)
	}
	if x.Kind == 3 {
		x.Metric, x.Keep = []string{"m", "m.x", "n", "x"}[r.Intn(4)], r.Intn(2) == 0
		for _, name := range []string{"a", "b", "c", "d"} {
			if r.Intn(2) == 0 {
				x.Labels = append(x.Labels, name)
			}
		}
	}
	return x
}

func anySet(r *rand.Rand) rule.Set {
	s := rule.Set{}
	for _, i := range r.Perm(4)[:1+r.Intn(4)] {
		s.Policies = append(s.Policies, api.Policy{Name: []string{"p", "a", "z", "c"}[i], Size: 10, Slide: 10})
	}
	for range r.Intn(9) {
		s.Rules = append(s.Rules, anyRule(r, s.Policies))
	}
	return s
}

func anySeries(r *rand.Rand) api.Series {
	x := api.Series{Metric: []string{"m", "m.x", "n"}[r.Intn(3)]}
	for _, name := range []string{"a", "b", "c", "d"} {
		if r.Intn(2) == 0 {
			x.Labels = append(x.Labels, api.Label{Name: name, Value: []string{"1", "2", "12", "m"}[r.Intn(4)]})
		}
	}
	return x
}

func TestP10_1Random(t *testing.T) {
	r := rand.New(rand.NewSource(101))
	dropped, merged := 0, 0
	for range 20000 {
		s, x := anySet(r), anySeries(r)
		if at, e := rule.Check(s); e != api.OK || !tag.Good(x) {
			t.Fatalf("%+v, %v: %d at %d", s, x, e, at)
		}
		want := expected(s, x)
		checkTargets(t, s, x, want)
		checkRules(t, s, x, counting(s, x)...)
		made := 0
		for _, i := range counting(s, x) {
			made += len(s.Rules[i].To)
		}
		if want == nil {
			dropped++
		} else if made > len(want) {
			merged++
		}
		if l, _ := sift.Targets(s, x); !slices.IsSortedFunc(l, sift.Compare) {
			t.Fatalf("P10.1: not in Compare's order: %v", shown(l))
		}
		if t.Failed() {
			return
		}
	}
	if dropped < 1000 || dropped > 15000 || merged < 1000 {
		t.Errorf("of any sets %d dropped, %d had a target twice", dropped, merged)
	}
}

// What a set with more rules behind sifts, it sifts at least what it did without them.
func TestP10_2MoreRules(t *testing.T) {
	r := rand.New(rand.NewSource(102))
	more := 0
	for range 20000 {
		s, x := anySet(r), anySeries(r)
		before, e := sift.Targets(s, x)
		wider := rule.Set{Policies: s.Policies, Rules: slices.Clone(s.Rules)}
		for range 1 + r.Intn(7) {
			one := anyRule(r, s.Policies)
			if one.Kind != 1 {
				wider.Rules = append(wider.Rules, one)
			}
		}
		after, _ := sift.Targets(wider, x)
		if e == api.ErrDrop && len(before) > 0 {
			t.Fatalf("P10.2: beside ErrDrop there is %v", before)
		}
		for _, y := range before {
			if _, there := slices.BinarySearchFunc(after, y, sift.Compare); !there {
				t.Fatalf("P10.2: %v by\n%s\n%v by\n%s", shown(before), rule.Print(s), shown(after), rule.Print(wider))
			}
		}
		if e == api.OK && len(after) > len(before) {
			more++
		}
		rules := places(t, wider, x)
		if was := places(t, s, x); len(rules) < len(was) || !slices.Equal(rules[:len(was)], was) {
			t.Fatalf("P10.2: Rules: %v, with more rules %v", was, rules)
		}
	}
	if more < 1000 {
		t.Errorf("P10.2: %d sets alone sifted more", more)
	}
}

// A Drop behind, too, if it doesn't count; one that does takes all.
func TestP10_2DropBehind(t *testing.T) {
	x := series(t, "m{a=1,b=2,c=3}")
	checkTargets(t, set(t, "map -> p", "drop a=2", "map -> a"), x, m(0, 1))
	checkTargets(t, set(t, "map -> p", "map -> a", "drop"), x, nil)
}

// roomy: the same things, with these behind them as spare room.
func roomy[T any](l []T, spare ...T) []T {
	return append(slices.Clone(l), spare...)[: len(l) : len(l)+len(spare)]
}

// roomySeries: the same one, with spare room.
func roomySeries(x api.Series) api.Series {
	return api.Series{Metric: x.Metric, Labels: roomy(x.Labels, api.Label{Name: "spare", Value: "spare"})}
}

// roomySet: the same one; each of its lists has spare room.
func roomySet(s rule.Set) rule.Set {
	c := rule.Set{Policies: roomy(s.Policies, api.Policy{Name: "spare", Size: 7})}
	for _, r := range s.Rules {
		r.When, r.To, r.Labels = roomy(r.When, rule.Match{Name: "spare"}), roomy(r.To, "spare"), roomy(r.Labels, "spare")
		c.Rules = append(c.Rules, r)
	}
	c.Rules = roomy(c.Rules, rule.Rule{Kind: 7, Metric: "spare", To: []string{"spare"}})
	return c
}

// whole: what a value has in memory, spare room too.
func whole(v reflect.Value) string {
	switch v.Kind() {
	case reflect.Struct:
		all := ""
		for i := range v.NumField() {
			all += whole(v.Field(i)) + ";"
		}
		return all
	case reflect.Slice:
		all := fmt.Sprintf("%d[", v.Len())
		for i := range v.Cap() {
			all += whole(v.Slice(0, v.Cap()).Index(i)) + ","
		}
		return all + "]"
	}
	return fmt.Sprintf("%#v", v)
}

// spoil: all of a value's memory is written over, spare room too.
func spoil(v reflect.Value) {
	switch v.Kind() {
	case reflect.String:
		v.SetString("spoilt")
	case reflect.Int:
		v.SetInt(77)
	case reflect.Bool:
		v.SetBool(!v.Bool())
	case reflect.Struct:
		for i := range v.NumField() {
			spoil(v.Field(i))
		}
	case reflect.Slice:
		for i := range v.Cap() {
			spoil(v.Slice(0, v.Cap()).Index(i))
		}
	}
}

// spans: from where to where in memory each list within values stands, spare room too.
func spans(values ...any) [][2]uintptr {
	var all [][2]uintptr
	var walk func(v reflect.Value)
	walk = func(v reflect.Value) {
		switch v.Kind() {
		case reflect.Struct:
			for i := range v.NumField() {
				walk(v.Field(i))
			}
		case reflect.Slice:
			if v.Cap() > 0 {
				all = append(all, [2]uintptr{v.Pointer(), v.Pointer() + uintptr(v.Cap())*v.Type().Elem().Size()})
			}
			for i := range v.Len() {
				walk(v.Index(i))
			}
		}
	}
	for _, x := range values {
		walk(reflect.ValueOf(x))
	}
	return all
}

// meet: do one of these and one of those stand in one place?
func meet(these, those [][2]uintptr) bool {
	return slices.ContainsFunc(these, func(a [2]uintptr) bool {
		return slices.ContainsFunc(those, func(b [2]uintptr) bool { return a[0] < b[1] && b[0] < a[1] })
	})
}

// share: do two of these stand in one place?
func share(l [][2]uintptr) bool {
	for i := range l {
		if meet(l[:i], l[i:i+1]) {
			return true
		}
	}
	return false
}

// work: some sets, and each with some series; their lists have all lengths.
func work(t *testing.T, do func(s rule.Set, x api.Series)) {
	t.Helper()
	sets := []rule.Set{
		set(t),
		set(t, "map -> p,a,z,c", "roll -> c,z as x keep a,b", "roll -> z as x less -", "roll -> z as m less -", "map .=m -> p"),
		set(t, "map a=1 b=2 -> p,a", "drop b=2", "map -> z"),
	}
	r := rand.New(rand.NewSource(103))
	for range 300 {
		sets = append(sets, anySet(r))
	}
	for _, s := range sets {
		for _, text := range []string{"m", "m{a=1}", "m{a=1,b=2,c=3}"} {
			do(s, series(t, text))
		}
	}
}

func TestP10_3WhatIsHandedInStays(t *testing.T) {
	work(t, func(s rule.Set, x api.Series) {
		s, x = roomySet(s), roomySeries(x)
		a, b := target(x, 1), target(roomySeries(x), 2)
		handed := func() string {
			return whole(reflect.ValueOf(s)) + whole(reflect.ValueOf(a)) + whole(reflect.ValueOf(b))
		}
		before := handed()
		sift.Targets(s, x)
		places(t, s, x)
		for range sift.Rules(s, x) {
			break
		}
		sift.Compare(a, b)
		if after := handed(); after != before {
			t.Fatalf("P10.3: what was handed in was %s, and is %s", before, after)
		}
	})
}

// What was answered stays as it was, whatever becomes of what was handed in.
func TestP10_3WhatIsHandedInIsNotKept(t *testing.T) {
	work(t, func(s rule.Set, x api.Series) {
		given, from := roomySet(s), roomySeries(x)
		targets, _ := sift.Targets(given, from)
		rules := sift.Rules(given, from)
		spoil(reflect.ValueOf(&given).Elem())
		spoil(reflect.ValueOf(&from).Elem())
		if got, want := shown(targets), expected(s, x); !slices.Equal(got, want) {
			t.Fatalf("P10.3: targets were %v, and are %v", want, got)
		}
		var got []int
		for i, r := range rules {
			got = append(got, i)
			if !sameRule(r, s.Rules[i]) {
				t.Fatalf("P10.3: a rule was %+v, and is %+v", s.Rules[i], r)
			}
		}
		if want := counting(s, x); !slices.Equal(got, want) {
			t.Fatalf("P10.3: rules were %v, and are %v", want, got)
		}
	})
}

func TestP10_3AnswersAreNewMemory(t *testing.T) {
	work(t, func(s rule.Set, x api.Series) {
		s, x = roomySet(s), roomySeries(x)
		first, e := sift.Targets(s, x)
		second, _ := sift.Targets(s, x)
		if share(spans(s, x, first, second)) {
			t.Fatalf("P10.3: lists of %v share memory", shown(first))
		}
		want := shown(first)
		spoil(reflect.ValueOf(first))
		third, again := sift.Targets(s, x)
		if !slices.Equal(shown(second), want) || !slices.Equal(shown(third), want) || again != e {
			t.Fatalf("P10.3: an answer written over: %v and %v, not %v", shown(second), shown(third), want)
		}
	})
}

func TestP10_3RulesAreNewMemory(t *testing.T) {
	work(t, func(s rule.Set, x api.Series) { checkRulesMemory(t, s, x) })
	// Lists that stand in two of a set's own rules are two in an answer.
	twins := set(t, "map a=1 -> p,a", "roll -> p,a as x keep a,b")
	twins.Rules = slices.Repeat(twins.Rules, 2)
	checkRulesMemory(t, twins, series(t, "m{a=1,b=2}"))
}

// checkRulesMemory: are the rules that count each time in memory of their own?
func checkRulesMemory(t *testing.T, s rule.Set, x api.Series) {
	t.Helper()
	rules := sift.Rules(s, x)
	var taken []rule.Rule
	for range 2 {
		for _, r := range rules {
			taken = append(taken, r)
		}
	}
	if answered := spans(taken); share(answered) || meet(answered, spans(s, x)) {
		t.Fatalf("P10.3: lists of the rules by\n%s share memory", rule.Print(s))
	}
	want := counting(s, x)
	for range 2 {
		var got []int
		for i, r := range rules {
			got = append(got, i)
			if !sameRule(r, s.Rules[i]) {
				t.Fatalf("P10.3: rule %d, others written over: %+v, not %+v", i, r, s.Rules[i])
			}
			spoil(reflect.ValueOf(&r).Elem())
		}
		if !slices.Equal(got, want) || !slices.Equal(places(t, s, x), want) {
			t.Fatalf("P10.3: rules written over: %v, not %v", got, want)
		}
	}
}

// Of what isn't right nothing is promised, but that each call ends, and that none panics.
func TestP7WrongInputs(t *testing.T) {
	long := strings.Repeat("x", 1000)
	sets := []rule.Set{
		{},
		{Rules: make([]rule.Rule, 3)},
		{Rules: []rule.Rule{{Kind: 2, To: []string{"p", "", long}}, {Kind: 3, To: []string{"q"}, Labels: []string{"b", "a", "a"}}}},
		{Policies: make([]api.Policy, 9), Rules: []rule.Rule{{Kind: 2, To: []string{""}}, {Kind: math.MinInt, To: []string{""}}, {Kind: math.MaxInt, To: []string{""}}}},
		{Rules: []rule.Rule{{Kind: 2, When: []rule.Match{{}, {Name: ".", Pattern: "{"}, {Name: long, Pattern: long}}}}},
		{Rules: slices.Repeat([]rule.Rule{{Kind: 2, When: make([]rule.Match, 100), To: make([]string, 100)}}, 100)},
	}
	all := []api.Series{{}, {Metric: long}, {Labels: make([]api.Label, 100)}, {Metric: "M", Labels: []api.Label{{Name: "b", Value: long}, {Name: "a"}, {Name: "a"}}}}
	for _, s := range append(sets, set(t, "map -> p", "roll -> a as x keep a")) {
		for _, x := range append(all, series(t, "m{a=1}")) {
			sift.Targets(s, x)
			for range sift.Rules(s, x) {
			}
		}
	}
	for _, x := range all {
		for _, y := range all {
			sift.Compare(target(x, math.MinInt), target(y, math.MaxInt))
			sift.Compare(target(x, -1), target(y, -1))
		}
	}
}
