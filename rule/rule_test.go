package rule_test

import (
	"fmt"
	"math"
	"math/rand"
	"regexp"
	"slices"
	"strconv"
	"strings"
	"testing"

	"tidemill/api"
	"tidemill/glob"
	"tidemill/rule"
)

// The words of the chapter, by another way than the program's.
const (
	undotted = `[a-z][a-z0-9_]{0,23}`
	dotted   = `[a-z][a-z0-9_.]{0,23}`
	number   = `(0|[1-9][0-9]{0,12})`
	ownByte  = "[!$%&'()+\\-./0-9<>@A-Z\\\\^_`a-z~]"
	pattern  = `(?:` + ownByte + `|[*?]|\{` + ownByte + `+(?:,` + ownByte + `+){0,5}\})+`
	matcher  = `(\.|` + undotted + `)(!?)=(` + pattern + `)`
)

var (
	aName    = regexp.MustCompile(`^` + undotted + `$`)
	aMetric  = regexp.MustCompile(`^` + dotted + `$`)
	aPattern = regexp.MustCompile(`^` + pattern + `$`)
	aMatcher = regexp.MustCompile(` ` + matcher)
	aPolicy  = regexp.MustCompile(`^policy (` + undotted + `) size=` + number + ` slide=` + number + ` late=` + number + ` keep=` + number + `$`)
	aDrop    = regexp.MustCompile(`^drop((?: ` + matcher + `){0,6})$`)
	aMap     = regexp.MustCompile(`^map((?: ` + matcher + `){0,6}) -> (` + undotted + `(?:,` + undotted + `){0,3})$`)
	aRoll    = regexp.MustCompile(`^roll((?: ` + matcher + `){0,6}) -> (` + undotted + `(?:,` + undotted + `){0,3}) as (` + dotted + `) (keep|less) (-|` + undotted + `(?:,` + undotted + `){0,5})$`)
)

// policyOf: a line's.
func policyOf(line string) (api.Policy, bool) {
	m := aPolicy.FindStringSubmatch(line)
	if m == nil {
		return api.Policy{}, false
	}
	n := [4]int{}
	for i := range n {
		n[i], _ = strconv.Atoi(m[i+2])
	}
	return api.Policy{Name: m[1], Size: n[0], Slide: n[1], Late: n[2], Keep: n[3]}, true
}

// ruleOf: a line's.
func ruleOf(line string) (rule.Rule, bool) {
	r, when := rule.Rule{}, ""
	if m := aDrop.FindStringSubmatch(line); m != nil {
		r.Kind, when = 1, m[1]
	} else if m := aMap.FindStringSubmatch(line); m != nil {
		r.Kind, when, r.To = 2, m[1], strings.Split(m[5], ",")
	} else if m := aRoll.FindStringSubmatch(line); m != nil {
		r.Kind, when, r.To, r.Metric, r.Keep = 3, m[1], strings.Split(m[5], ","), m[6], m[7] == "keep"
		if m[8] != "-" {
			r.Labels = strings.Split(m[8], ",")
		}
	}
	for _, m := range aMatcher.FindAllStringSubmatch(when, -1) {
		r.When = append(r.When, rule.Match{Name: m[1], Not: m[2] == "!", Pattern: m[3]})
	}
	return r, formed(r)
}

// distinct: is there nothing twice?
func distinct(l []string) bool {
	rising := slices.Sorted(slices.Values(l))
	return len(slices.Compact(rising)) == len(l)
}

// formed: is it of a right form, without asking whether To's texts are names?
func formed(r rule.Rule) bool {
	for _, m := range r.When {
		if m.Name != "." && !aName.MatchString(m.Name) || len(m.Pattern) > 40 || !aPattern.MatchString(m.Pattern) {
			return false
		}
	}
	for _, name := range r.Labels {
		if !aName.MatchString(name) {
			return false
		}
	}
	nothing := r.Metric == "" && !r.Keep && len(r.Labels) == 0
	some := len(r.To) >= 1 && len(r.To) <= 4 && distinct(r.To)
	switch {
	case len(r.When) > 6:
		return false
	case r.Kind == 1:
		return len(r.To) == 0 && nothing
	case r.Kind == 2:
		return some && nothing
	case r.Kind == 3:
		return some && aMetric.MatchString(r.Metric) && len(r.Labels) <= 6 && slices.IsSorted(r.Labels) && distinct(r.Labels)
	}
	return false
}

// fault: what is wrong with a set, and its place, by another way than the program's.
func fault(s rule.Set) (int, api.Errno) {
	n := len(s.Policies)
	if n < 1 || n > 4 || len(s.Rules) > 16 {
		return 0, api.ErrFull
	}
	taken := map[string]int{}
	for i, p := range s.Policies {
		switch {
		case !aName.MatchString(p.Name):
			return i, api.ErrName
		case p.Size < 1, p.Size > 1000, p.Slide < 1, p.Slide > p.Size, p.Late < 0, p.Late > 1000, p.Keep < 0, p.Keep > 1099511627776:
			return i, api.ErrRange
		case taken[p.Name] > 0:
			return i, api.ErrTwice
		}
		taken[p.Name]++
	}
	for i, r := range s.Rules {
		if !formed(r) {
			return n + i, api.ErrForm
		}
		for _, name := range r.To {
			if taken[name] == 0 {
				return n + i, api.ErrNone
			}
		}
	}
	return 0, api.OK
}

// parse: a text's set, or its first error, by another way than the program's.
func parse(text string) (rule.Set, int, api.Errno) {
	s := rule.Set{}
	lines := strings.Split(text, "\n")
	for i, line := range lines[:len(lines)-1] {
		if p, is := policyOf(line); is && len(s.Rules) == 0 {
			s.Policies = append(s.Policies, p)
		} else if r, is := ruleOf(line); is {
			s.Rules = append(s.Rules, r)
		} else {
			return rule.Set{}, i, api.ErrForm
		}
	}
	if lines[len(lines)-1] != "" {
		return rule.Set{}, len(lines) - 1, api.ErrForm
	}
	if place, e := fault(s); e != api.OK {
		return rule.Set{}, place, e
	}
	return s, 0, api.OK
}

// textOf: a right set's, by another way than the program's.
func textOf(s rule.Set) string {
	all := ""
	for _, p := range s.Policies {
		all += fmt.Sprintf("policy %s size=%d slide=%d late=%d keep=%d\n", p.Name, p.Size, p.Slide, p.Late, p.Keep)
	}
	for _, r := range s.Rules {
		all += []string{"", "drop", "map", "roll"}[r.Kind]
		for _, m := range r.When {
			all += fmt.Sprintf(" %s%s=%s", m.Name, map[bool]string{true: "!"}[m.Not], m.Pattern)
		}
		if r.Kind != 1 {
			all += " -> " + strings.Join(r.To, ",")
		}
		if r.Kind == 3 {
			labels := strings.Join(r.Labels, ",")
			if labels == "" {
				labels = "-"
			}
			all += fmt.Sprintf(" as %s %s %s", r.Metric, map[bool]string{true: "keep", false: "less"}[r.Keep], labels)
		}
		all += "\n"
	}
	return all
}

// sameRule: the same one; a list that is empty may be nil.
func sameRule(a, b rule.Rule) bool {
	return a.Kind == b.Kind && slices.Equal(a.When, b.When) && slices.Equal(a.To, b.To) &&
		a.Metric == b.Metric && a.Keep == b.Keep && slices.Equal(a.Labels, b.Labels)
}

func same(a, b rule.Set) bool {
	return slices.Equal(a.Policies, b.Policies) && slices.EqualFunc(a.Rules, b.Rules, sameRule)
}

// copied: another one that is the same.
func copied(s rule.Set) rule.Set {
	c := rule.Set{Policies: slices.Clone(s.Policies)}
	for _, r := range s.Rules {
		r.When, r.To, r.Labels = slices.Clone(r.When), slices.Clone(r.To), slices.Clone(r.Labels)
		c.Rules = append(c.Rules, r)
	}
	return c
}

// check: does the program say of a set what the words say?
func check(t *testing.T, s rule.Set) {
	t.Helper()
	at, e := rule.Check(s)
	if place, want := fault(s); at != place || e != want {
		t.Fatalf("P9.1: Check(%+v): %d, %d, want %d, %d", s, at, e, place, want)
	}
	if e != api.OK {
		return
	}
	text := rule.Print(s)
	if want := textOf(s); text != want {
		t.Fatalf("P9.1: Print(%+v): %q, want %q", s, text, want)
	}
	if got, at, e := rule.Parse(text); at != 0 || e != api.OK || !same(got, s) {
		t.Fatalf("P9.2: Parse(%q): %+v, %d, %d", text, got, at, e)
	}
}

// checkText: does the program say of a text what the words say?
func checkText(t *testing.T, text string) api.Errno {
	t.Helper()
	got, at, e := rule.Parse(text)
	if want, place, x := parse(text); at != place || e != x || !same(got, want) {
		t.Fatalf("P9.1: Parse(%q): %+v, %d, %d, want %+v, %d, %d", text, got, at, e, want, place, x)
	}
	if e != api.OK {
		return e
	}
	if at, e := rule.Check(got); at != 0 || e != api.OK {
		t.Fatalf("P9.1: Check of what %q is parsed as: %d, %d", text, at, e)
	}
	if again := rule.Print(got); again != text {
		t.Fatalf("P9.2: %q is parsed, and printed as %q", text, again)
	}
	return e
}

const (
	lineP  = "policy p size=10 slide=5 late=20 keep=100\n"
	lineQ  = "policy q size=60 slide=60 late=0 keep=0\n"
	sample = lineP + lineQ + "drop .=debug*\nmap zone!=eu-? -> q,p\nroll .=reqs code={200,404} -> q as reqs.all keep code,zone\nroll -> p as x less -\n"
)

func match(name, pattern string) rule.Match {
	return rule.Match{Name: name, Pattern: pattern}
}

func turned(name, pattern string) rule.Match {
	return rule.Match{Name: name, Not: true, Pattern: pattern}
}

// right: a set that is: what the sample tells.
func right() rule.Set {
	return rule.Set{
		Policies: []api.Policy{{Name: "p", Size: 10, Slide: 5, Late: 20, Keep: 100}, {Name: "q", Size: 60, Slide: 60}},
		Rules: []rule.Rule{
			{Kind: rule.Drop, When: []rule.Match{match(".", "debug*")}},
			{Kind: rule.Map, When: []rule.Match{turned("zone", "eu-?")}, To: []string{"q", "p"}},
			{Kind: rule.Roll, When: []rule.Match{match(".", "reqs"), match("code", "{200,404}")}, To: []string{"q"}, Metric: "reqs.all", Keep: true, Labels: []string{"code", "zone"}},
			{Kind: rule.Roll, To: []string{"p"}, Metric: "x"},
		},
	}
}

// but: a right set, changed.
func but(change func(s *rule.Set)) rule.Set {
	s := right()
	change(&s)
	return s
}

// withPolicy: a right set, its second policy changed.
func withPolicy(change func(p *api.Policy)) rule.Set {
	return but(func(s *rule.Set) { change(&s.Policies[1]) })
}

// withRule: a right set's policies, with a rule behind two others: its place is 4.
func withRule(r rule.Rule) rule.Set {
	return but(func(s *rule.Set) { s.Rules = append(s.Rules[:2:2], r) })
}

// policies: so many good ones.
func policies(n int) []api.Policy {
	var l []api.Policy
	for i := range n {
		l = append(l, api.Policy{Name: fmt.Sprintf("p%d", i), Size: 10, Slide: 10})
	}
	return l
}

// drops: so many good rules.
func drops(n int) []rule.Rule {
	return slices.Repeat([]rule.Rule{{Kind: rule.Drop}}, n)
}

// rising: so many names, each ahead of the next.
func rising(n int) []string {
	var l []string
	for i := range n {
		l = append(l, fmt.Sprintf("l%02d", i))
	}
	return l
}

func long(n int) string {
	return strings.Repeat("x", n)
}

// noNames: texts that are no names without a dot.
var noNames = []string{"", "A", "0", "_a", "a b", "a-b", "p.q", ".p", "p.", "p\n", "pé", "p\x00", "p,q", "p=", "->", "-", long(25)}

func TestP9_1Example(t *testing.T) {
	text := "policy p size=10 slide=10 late=5 keep=100\nroll .=reqs code!=2* -> p as bad less host\n"
	want := rule.Set{
		Policies: []api.Policy{{Name: "p", Size: 10, Slide: 10, Late: 5, Keep: 100}},
		Rules:    []rule.Rule{{Kind: rule.Roll, When: []rule.Match{match(".", "reqs"), turned("code", "2*")}, To: []string{"p"}, Metric: "bad", Labels: []string{"host"}}},
	}
	if got, at, e := rule.Parse(text); at != 0 || e != api.OK || !same(got, want) {
		t.Errorf("P9.1: Parse(%q): %+v, %d, %d", text, got, at, e)
	}
	if got := rule.Print(want); got != text {
		t.Errorf("P9.1: Print: %q", got)
	}
	check(t, want)
}

func TestP9_1CheckRight(t *testing.T) {
	four := []string{"p0", "p1", "p2", "p3"}
	sets := []rule.Set{
		right(),
		{Policies: policies(1)},
		{Policies: policies(4)},
		{Policies: policies(1), Rules: []rule.Rule{}},
		{Policies: policies(1), Rules: drops(1)},
		{Policies: policies(4), Rules: drops(16)},
		{Policies: []api.Policy{{Name: long(24), Size: 1, Slide: 1}}},
		{Policies: []api.Policy{{Name: "a", Size: 1000, Slide: 1, Late: 1000, Keep: api.MaxTime}}},
		{Policies: []api.Policy{{Name: "a_0", Size: 1000, Slide: 1000}, {Name: "a_", Size: 1000, Slide: 999, Keep: 1}}},
		{Policies: policies(4), Rules: []rule.Rule{{Kind: rule.Map, To: four}, {Kind: rule.Roll, To: []string{"p3", "p1", "p2", "p0"}, Metric: "m"}}},
		{Policies: policies(4), Rules: []rule.Rule{{Kind: rule.Map, To: four[3:]}, {Kind: rule.Map, To: four[1:2]}, {Kind: rule.Map, To: four[1:2]}}},
	}
	for _, kind := range []int{rule.Drop, rule.Map, rule.Roll} {
		r := rule.Rule{Kind: kind}
		if kind != rule.Drop {
			r.To = []string{"p"}
		}
		if kind == rule.Roll {
			r.Metric = "a.b."
		}
		for n := range 7 {
			r.When = slices.Repeat([]rule.Match{match("a", "*")}, n)
			sets = append(sets, withRule(r))
		}
		r.When = []rule.Match{match(".", "."), turned(".", "?"), match(long(24), strings.Repeat("*", 40)), turned("a", "!")}
		r.Labels = nil
		sets = append(sets, withRule(r))
	}
	for n := range 7 {
		for _, keep := range []bool{false, true} {
			sets = append(sets, withRule(rule.Rule{Kind: rule.Roll, To: []string{"p"}, Metric: long(24), Keep: keep, Labels: rising(n)}))
		}
	}
	for _, s := range sets {
		if at, e := rule.Check(s); at != 0 || e != api.OK {
			t.Errorf("P9.1: Check(%+v): %d, %d", s, at, e)
		}
		check(t, s)
	}
}

// refused: is a set refused so, and there?
func refused(t *testing.T, s rule.Set, place int, want api.Errno) {
	t.Helper()
	if at, e := rule.Check(s); at != place || e != want {
		t.Errorf("P9.1: Check(%+v): %d, %d, want %d, %d", s, at, e, place, want)
	}
}

func TestP9_1CheckFull(t *testing.T) {
	for _, s := range []rule.Set{
		{},
		{Policies: []api.Policy{}, Rules: drops(1)},
		{Policies: policies(5)},
		{Policies: policies(5), Rules: right().Rules},
		{Policies: policies(100)},
		{Policies: policies(1), Rules: drops(17)},
		{Policies: policies(1), Rules: drops(1000)},
		{Rules: drops(17)},
		// Ahead of all else.
		{Policies: make([]api.Policy, 5)},
		{Policies: append(policies(4), policies(1)...)},
		{Policies: make([]api.Policy, 1), Rules: drops(17)},
		{Policies: policies(1), Rules: make([]rule.Rule, 17)},
		{Rules: make([]rule.Rule, 1)},
	} {
		refused(t, s, 0, api.ErrFull)
	}
}

func TestP9_1CheckPolicies(t *testing.T) {
	for _, name := range noNames {
		refused(t, withPolicy(func(p *api.Policy) { p.Name = name }), 1, api.ErrName)
		refused(t, but(func(s *rule.Set) { s.Policies[0].Name = name }), 0, api.ErrName)
	}
	for _, n := range []int{math.MinInt, -1000, -1, 0, 1001, 1002, math.MaxInt} {
		refused(t, withPolicy(func(p *api.Policy) { p.Size, p.Slide = n, 1 }), 1, api.ErrRange)
		refused(t, withPolicy(func(p *api.Policy) { p.Size, p.Slide = n, n }), 1, api.ErrRange)
	}
	for _, n := range []int{math.MinInt, -1, 0, 61, 62, 1000, math.MaxInt} {
		refused(t, withPolicy(func(p *api.Policy) { p.Slide = n }), 1, api.ErrRange)
	}
	for _, n := range []int{math.MinInt, -1, 1001, math.MaxInt} {
		refused(t, withPolicy(func(p *api.Policy) { p.Late = n }), 1, api.ErrRange)
	}
	for _, n := range []int{math.MinInt, -1, api.MaxTime + 1, math.MaxInt} {
		refused(t, withPolicy(func(p *api.Policy) { p.Keep = n }), 1, api.ErrRange)
	}
	for last := 1; last < 4; last++ {
		for first := range last {
			s := rule.Set{Policies: policies(4)}
			s.Policies[last].Name = s.Policies[first].Name
			refused(t, s, last, api.ErrTwice)
		}
	}
	// A name that is told of another policy alone by its case, or its length, isn't the same.
	check(t, rule.Set{Policies: []api.Policy{{Name: "p", Size: 1, Slide: 1}, {Name: "pp", Size: 1, Slide: 1}}})
}

func TestP9_1CheckRules(t *testing.T) {
	to := []string{"p"}
	for _, r := range []rule.Rule{
		{},
		{Kind: -1},
		{Kind: 4},
		{Kind: 4, To: to},
		{Kind: 0, To: to, Metric: "m"},
		{Kind: math.MaxInt},
		{Kind: math.MinInt},
		// What its Kind hasn't, or has.
		{Kind: rule.Drop, To: to},
		{Kind: rule.Drop, Metric: "m"},
		{Kind: rule.Drop, Keep: true},
		{Kind: rule.Drop, Labels: []string{"a"}},
		{Kind: rule.Drop, To: to, Metric: "m", Keep: true, Labels: []string{"a"}},
		{Kind: rule.Map},
		{Kind: rule.Map, To: []string{}},
		{Kind: rule.Map, To: to, Metric: "m"},
		{Kind: rule.Map, To: to, Keep: true},
		{Kind: rule.Map, To: to, Labels: []string{"a"}},
		{Kind: rule.Map, Metric: "m"},
		{Kind: rule.Roll},
		{Kind: rule.Roll, To: to},
		{Kind: rule.Roll, Metric: "m"},
		{Kind: rule.Roll, To: []string{}, Metric: "m"},
		{Kind: rule.Roll, To: to, Keep: true, Labels: []string{"a"}},
		// To.
		{Kind: rule.Map, To: []string{"p", "q", "p"}},
		{Kind: rule.Map, To: []string{"p", "p"}},
		{Kind: rule.Map, To: []string{"p", "q", "q"}},
		{Kind: rule.Map, To: []string{"p", "q", "r", "s", "t"}},
		{Kind: rule.Map, To: []string{"p", "q", "p", "q", "p"}},
		{Kind: rule.Map, To: rising(10000)},
		{Kind: rule.Roll, To: []string{"p", "p"}, Metric: "m"},
		{Kind: rule.Roll, To: rising(5), Metric: "m"},
		// Labels.
		{Kind: rule.Roll, To: to, Metric: "m", Labels: rising(7)},
		{Kind: rule.Roll, To: to, Metric: "m", Keep: true, Labels: rising(7)},
		{Kind: rule.Roll, To: to, Metric: "m", Labels: []string{"b", "a"}},
		{Kind: rule.Roll, To: to, Metric: "m", Labels: []string{"a", "a"}},
		{Kind: rule.Roll, To: to, Metric: "m", Labels: []string{"a", "c", "b"}},
		{Kind: rule.Roll, To: to, Metric: "m", Labels: []string{"a", "b", "b"}},
		{Kind: rule.Roll, To: to, Metric: "m", Labels: []string{"a", "b", "a"}},
		// More than one error: the form is ahead of names that are no policy's.
		{Kind: rule.Map, To: []string{"r", "r"}},
		{Kind: rule.Roll, To: []string{"r"}},
		{Kind: rule.Map, To: []string{"r"}, Keep: true},
		{Kind: rule.Drop, To: []string{"r"}},
		{Kind: rule.Map, To: []string{"r"}, When: make([]rule.Match, 1)},
	} {
		refused(t, withRule(r), 4, api.ErrForm)
	}
	for _, name := range noNames {
		labels := rule.Rule{Kind: rule.Roll, To: to, Metric: "m", Labels: []string{name}}
		refused(t, withRule(labels), 4, api.ErrForm)
		labels.Labels = []string{"a", name}
		refused(t, withRule(labels), 4, api.ErrForm)
		if !aMetric.MatchString(name) {
			refused(t, withRule(rule.Rule{Kind: rule.Roll, To: to, Metric: name}), 4, api.ErrForm)
		}
		// Whether such a text in To isn't of the form, or no policy's, the chapter leaves open.
		if at, e := rule.Check(withRule(rule.Rule{Kind: rule.Map, To: []string{"p", name}})); at != 4 || e != api.ErrForm && e != api.ErrNone {
			t.Errorf("P9.1: Check of %q in To: %d, %d", name, at, e)
		}
	}
}

func TestP9_1CheckMatchers(t *testing.T) {
	kinds := []rule.Rule{{Kind: rule.Drop}, {Kind: rule.Map, To: []string{"p"}}, {Kind: rule.Roll, To: []string{"p"}, Metric: "m"}}
	wrong := [][]rule.Match{
		make([]rule.Match, 1),
		slices.Repeat([]rule.Match{match("a", "b")}, 7),
		slices.Repeat([]rule.Match{match("a", "b")}, 1000),
	}
	for _, name := range append(noNames, "..", ". ", ".a", "*", "!", "!.", "a!") {
		wrong = append(wrong, []rule.Match{match(name, "a")}, []rule.Match{match("a", "a"), turned(name, "a")})
	}
	for _, p := range []string{"", "a b", "a,b", "{a", "a}", "{a,}", "{}", "{{a}}", "[", "a=b", "=", "a\n", "é", "\x00", "{a,b,c,d,e,f,g}", long(41), strings.Repeat("*", 41)} {
		wrong = append(wrong, []rule.Match{match("a", p)}, []rule.Match{match(".", "a"), turned(".", p)})
	}
	for _, r := range kinds {
		for _, r.When = range wrong {
			refused(t, withRule(r), 4, api.ErrForm)
		}
	}
}

func TestP9_1CheckNone(t *testing.T) {
	for _, to := range [][]string{{"r"}, {"p", "r"}, {"r", "p"}, {"q", "p", "r"}, {"pp"}, {"p_"}, {"r", "s", "t", "u"}} {
		refused(t, withRule(rule.Rule{Kind: rule.Map, To: to}), 4, api.ErrNone)
		refused(t, withRule(rule.Rule{Kind: rule.Roll, To: to, Metric: "m", Keep: true, Labels: []string{"a"}}), 4, api.ErrNone)
	}
}

func TestP9_1CheckOrder(t *testing.T) {
	none := rule.Rule{Kind: rule.Map, To: []string{"r"}}
	for _, c := range []struct {
		s     rule.Set
		place int
		want  api.Errno
	}{
		// Of one policy.
		{withPolicy(func(p *api.Policy) { *p = api.Policy{} }), 1, api.ErrName},
		{withPolicy(func(p *api.Policy) { p.Name, p.Late = "p", -1 }), 1, api.ErrRange},
		{withPolicy(func(p *api.Policy) { p.Name, p.Late = "P", -1 }), 1, api.ErrName},
		// Of policies and rules: the first one of them.
		{but(func(s *rule.Set) { s.Policies[0].Keep, s.Policies[1].Name = -1, "" }), 0, api.ErrRange},
		{but(func(s *rule.Set) { s.Policies[0].Keep, s.Policies[1].Name = -1, "p" }), 0, api.ErrRange},
		{but(func(s *rule.Set) { s.Policies[0].Name, s.Policies[1].Name = "", "" }), 0, api.ErrName},
		{but(func(s *rule.Set) { s.Policies[1].Name, s.Rules[0].Kind = "p", 0 }), 1, api.ErrTwice},
		{but(func(s *rule.Set) { s.Policies[1].Size, s.Rules[0].Kind = 0, 0 }), 1, api.ErrRange},
		{but(func(s *rule.Set) { s.Rules[0].Kind, s.Rules[1].Kind = 0, 0 }), 2, api.ErrForm},
		{but(func(s *rule.Set) { s.Rules[1], s.Rules[2].Kind = none, 0 }), 3, api.ErrNone},
		{but(func(s *rule.Set) { s.Rules[1].Kind, s.Rules[2] = 0, none }), 3, api.ErrForm},
		{but(func(s *rule.Set) { s.Rules[3] = none }), 5, api.ErrNone},
		{but(func(s *rule.Set) { s.Policies = s.Policies[:1] }), 2, api.ErrNone},
		{rule.Set{Policies: policies(1), Rules: append(drops(15), none)}, 16, api.ErrNone},
		{rule.Set{Policies: policies(4), Rules: append(drops(15), none)}, 19, api.ErrNone},
		{rule.Set{Policies: policies(4), Rules: append(drops(15), rule.Rule{})}, 19, api.ErrForm},
	} {
		refused(t, c.s, c.place, c.want)
	}
	// The first policy's name three times: the second of them is told.
	s := rule.Set{Policies: policies(4)}
	s.Policies[2].Name, s.Policies[3].Name = "p0", "p0"
	refused(t, s, 2, api.ErrTwice)
}

func TestP9_1Print(t *testing.T) {
	if got := rule.Print(right()); got != sample {
		t.Errorf("P9.1: Print: %q", got)
	}
	s := rule.Set{
		Policies: []api.Policy{{Name: long(24), Size: 1000, Slide: 1, Late: 1000, Keep: api.MaxTime}},
		Rules: []rule.Rule{
			{Kind: rule.Drop},
			{Kind: rule.Map, To: []string{long(24)}},
			{Kind: rule.Roll, When: []rule.Match{turned(".", "!"), match("a", "!")}, To: []string{long(24)}, Metric: "a.b", Keep: true},
			{Kind: rule.Roll, To: []string{long(24)}, Metric: "m", Labels: []string{"a", "b"}},
		},
	}
	want := "policy " + long(24) + " size=1000 slide=1 late=1000 keep=1099511627776\ndrop\nmap -> " + long(24) + "\nroll .!=! a=! -> " + long(24) + " as a.b keep -\nroll -> " + long(24) + " as m less a,b\n"
	if got := rule.Print(s); got != want {
		t.Errorf("P9.1: Print: %q", got)
	}
}

func TestP9_1ParseRight(t *testing.T) {
	if got, at, e := rule.Parse(sample); at != 0 || e != api.OK || !same(got, right()) {
		t.Errorf("P9.1: Parse: %+v, %d, %d", got, at, e)
	}
	for _, text := range []string{
		sample,
		lineP,
		lineQ + lineP,
		lineP + "drop\n",
		lineP + strings.Repeat("drop\n", 16),
		lineP + "drop a=b" + strings.Repeat(" .!=*", 5) + "\n",
		lineP + "drop " + long(24) + "=" + strings.Repeat("*", 40) + "\n",
		lineP + "drop a=->\ndrop a!=->\ndrop a=!\ndrop a=!!\n",
		lineP + "map a=-> -> p\n",
		lineP + "map -> p\nmap -> p\n",
		lineP + "drop a={a,b}\n",
		"policy policy size=1 slide=1 late=0 keep=0\nmap -> policy\n",
		"policy as size=1 slide=1 late=0 keep=0\nroll as=as -> as as as keep as\n",
		"policy keep size=1 slide=1 late=0 keep=0\nroll keep=keep -> keep as keep less keep\n",
		"policy drop size=1 slide=1 late=0 keep=0\nroll -> drop as less keep -\n",
		"policy p size=1000 slide=1000 late=1000 keep=1099511627776\n",
		lineP + lineQ + strings.Replace(lineP, " p ", " r ", 1) + strings.Replace(lineP, " p ", " s ", 1) + "map -> s,r,q,p\nroll -> p,q,r,s as m keep l00,l01,l02,l03,l04,l05\n",
		lineP + "roll " + strings.Repeat("a=b ", 6) + "-> p as " + long(24) + " keep " + strings.Join(rising(6), ",") + "\n",
		lineP + "roll -> p as a..b less a,a0,a_,aa,b\n",
	} {
		if e := checkText(t, text); e != api.OK {
			t.Errorf("P9.1: Parse(%q): %d", text, e)
		}
	}
}

func TestP9_1ParseForm(t *testing.T) {
	for _, line := range []string{
		"", " ", "\t", "p", "policy", "drops", "Drop", "DROP", "rule", "maps -> p", "->", "-> p", "-", "p -> p", "dro", "\r",
		// Blanks.
		" drop", "drop ", "drop  a=b", "drop a=b ", "drop a=b  c=d", " map -> p", "map  -> p", "map ->  p", "map -> p ", "map ->p", "map-> p", "map->p",
		"roll -> p as x less - ", "roll -> p  as x less -", "roll -> p as  x less -", "roll -> p as x less  -", "roll -> p as x less-", "roll -> pas x less -", "drop\ta=b", "drop\r", "drop a=b\r",
		// Parts that are missing, or too many.
		"drop -> p", "drop a=b -> p", "drop ->", "drop -> p as x less -", "drop drop", "drop .=a drop",
		"map", "map p", "map ->", "map -> ", "map a=b", "map a=b ->", "map a=b p", "map -> p -> p", "map -> p,q -> p", "map -> p p", "map -> p as x less -", "map -> p as x", "map -> p a=b",
		"roll", "roll ->", "roll -> p", "roll -> p as", "roll -> p as x", "roll -> p as x less", "roll -> p as x less ", "roll -> p as x -", "roll -> p x less -", "roll p as x less -", "roll -> as x less -",
		"roll -> p as x less - -", "roll -> p as x less a b", "roll -> p as x less a keep b", "roll -> p as x y less -", "roll as x less - -> p",
		// Words.
		"roll -> p to x less -", "roll -> p AS x less -", "roll -> p as x some -", "roll -> p as x Keep -", "roll -> p as x more -", "roll => p as x less -", "roll - p as x less -", "map --> p", "map > p",
		"roll -> p less x as -", "roll -> p as keep x -",
		// Matchers.
		"drop a", "drop =", "drop =b", "drop a=", "drop a!=", "drop !=b", "drop a!b", "drop a!!=b", "drop a==b", "drop a=b=c", "drop a=!=b", "drop a =b", "drop a= b", "drop a.b=c", "drop ..=a", "drop .a=b", "drop .", "drop .=",
		"drop A=b", "drop 0=b", "drop _=b", "drop -=b", "drop *=b", "drop " + long(25) + "=a", "drop a={", "drop a=}", "drop a={b,}", "drop a={b,{c}}", "drop a=b,c", "drop a=[", "drop a=\x80", "drop a=" + long(41), "drop a={a,b,c,d,e,f,g}",
		"drop" + strings.Repeat(" a=b", 7), "map" + strings.Repeat(" a=b", 7) + " -> p", "roll" + strings.Repeat(" a=b", 7) + " -> p as x less -", "drop" + strings.Repeat(" a=b", 100), "map a -> p", "roll a -> p as x less -",
		// To.
		"map -> p,p", "map -> p,q,p", "map -> p,q,q", "map -> p,q,r,s,t", "map -> ,", "map -> p,", "map -> ,p", "map -> p,,q", "map -> p, q", "map -> P", "map -> p.q", "map -> -", "map -> *", "map -> p,Q", "map -> p;q", "map -> " + long(25),
		"roll -> p,p as x less -", "roll -> p,q,r,s,t as x less -", "roll -> - as x less -", "roll -> p.q as x less -", "roll -> p, as x less -", "roll -> p=q as x less -",
		// The metric, and labels.
		"roll -> p as X less a", "roll -> p as . less a", "roll -> p as - less a", "roll -> p as 0 less a", "roll -> p as a,b less a", "roll -> p as " + long(25) + " less a", "roll -> p as .x less -",
		"roll -> p as x less b,a", "roll -> p as x keep b,a", "roll -> p as x less a,a", "roll -> p as x less a,b,b", "roll -> p as x less a,c,b", "roll -> p as x less ,", "roll -> p as x less a,", "roll -> p as x less ,a", "roll -> p as x less a,,b",
		"roll -> p as x less a.b", "roll -> p as x less .", "roll -> p as x less A", "roll -> p as x less --", "roll -> p as x less a,-", "roll -> p as x less -,a", "roll -> p as x less a,B", "roll -> p as x less " + long(25),
		"roll -> p as x less a,b,c,d,e,f,g", "roll -> p as x keep l00,l01,l02,l03,l04,l05,l06", "roll -> p as x keep",
	} {
		for _, c := range []struct {
			text string
			at   int
		}{{line + "\n", 0}, {lineP + line + "\n", 1}, {lineP + "drop\n" + line + "\ndrop\n", 2}, {lineP + line + "\n" + line + "\n", 1}} {
			if s, at, e := rule.Parse(c.text); at != c.at || e != api.ErrForm || !same(s, rule.Set{}) {
				t.Errorf("P9.1: Parse(%q): %+v, %d, %d", c.text, s, at, e)
			}
			checkText(t, c.text)
		}
	}
}

func TestP9_1ParsePolicies(t *testing.T) {
	for _, line := range []string{
		"policy", "policy ", "policy p", "policy p ", "Policy p size=10 slide=5 late=20 keep=100", "policies p size=10 slide=5 late=20 keep=100", "p size=10 slide=5 late=20 keep=100",
		"policy size=10 slide=5 late=20 keep=100", "policy  size=10 slide=5 late=20 keep=100", "policy p q size=10 slide=5 late=20 keep=100",
		"policy P size=10 slide=5 late=20 keep=100", "policy p.q size=10 slide=5 late=20 keep=100", "policy - size=10 slide=5 late=20 keep=100", "policy " + long(25) + " size=10 slide=5 late=20 keep=100",
		"policy p slide=5 late=20 keep=100", "policy p size=10 late=20 keep=100", "policy p size=10 slide=5 keep=100", "policy p size=10 slide=5 late=20",
		"policy p size=10 slide=5 late=20 keep=100 keep=100", "policy p size=10 slide=5 late=20 keep=100 a=b", "policy p size=10 size=10 slide=5 late=20 keep=100", "policy p size=10 slide=5 late=20 keep=100 -> p",
		"policy p slide=5 size=10 late=20 keep=100", "policy p size=10 late=20 slide=5 keep=100", "policy p size=10 slide=5 keep=100 late=20", "policy p size=10 size=10 late=20 keep=100", "policy p size=10 slide=5 late=20 late=20",
		"policy p size=10 slide=5 late=20 Keep=100", "policy p sizes=10 slide=5 late=20 keep=100", "policy p =10 slide=5 late=20 keep=100", "policy p size slide=5 late=20 keep=100", "policy p 10 5 20 100", "policy p size=10 slide=5 late=20 keep",
		"policy p size:10 slide=5 late=20 keep=100", "policy p size==10 slide=5 late=20 keep=100", "policy p size!=10 slide=5 late=20 keep=100", "policy p size=10=10 slide=5 late=20 keep=100", "policy p size= 10 slide=5 late=20 keep=100",
		" policy p size=10 slide=5 late=20 keep=100", "policy  p size=10 slide=5 late=20 keep=100", "policy p  size=10 slide=5 late=20 keep=100", "policy p size=10  slide=5 late=20 keep=100", "policy p size=10 slide=5 late=20 keep=100 ", "policy p size=10 slide=5 late=20 keep=100\r",
		"policy\tp size=10 slide=5 late=20 keep=100", "policyp size=10 slide=5 late=20 keep=100", "policy psize=10 slide=5 late=20 keep=100", "policy p size=10slide=5 late=20 keep=100", "policy p size=10,slide=5,late=20,keep=100",
	} {
		for at, text := range []string{line + "\n", lineQ + line + "\n" + lineP} {
			if s, place, e := rule.Parse(text); place != at || e != api.ErrForm || !same(s, rule.Set{}) {
				t.Errorf("P9.1: Parse(%q): %+v, %d, %d", text, s, place, e)
			}
			checkText(t, text)
		}
	}
}

func TestP9_1ParseNumbers(t *testing.T) {
	digits := []string{
		"", "0", "1", "9", "10", "60", "61", "99", "999", "1000", "1001", "9999", "1099511627775", "1099511627776", "1099511627777", "9999999999999",
		"00", "01", "010", "0001", "0000000000000", "0000000000001", "00000000000001", "10000000000000", "99999999999999", "9223372036854775807", "9223372036854775808", "99999999999999999999999999",
		"-1", "-0", "+1", "+0", "1.0", "1.", ".1", "1e3", "0x1", "1_0", "a", "1a", "a1", "-", "1-", " 1", "1 ", "１", "٣", "1\x00", "*", "{1}",
	}
	fields := []string{"size=60", "slide=60", "late=0", "keep=0"}
	counts := map[api.Errno]int{}
	for _, field := range fields {
		name, _, _ := strings.Cut(field, "=")
		for _, n := range digits {
			text := lineP + strings.Replace(lineQ, field, name+"="+n, 1)
			counts[checkText(t, text)]++
			counts[checkText(t, strings.Replace(text, "slide=60", "slide=1", 1))]++
		}
	}
	if counts[api.OK] < 20 || counts[api.ErrForm] < 200 || counts[api.ErrRange] < 40 || len(counts) != 3 {
		t.Errorf("P9.1: of the digits' texts: %v", counts)
	}
	for _, c := range []struct {
		n string
		e api.Errno
	}{{"9999999999999", api.ErrRange}, {"10000000000000", api.ErrForm}, {"", api.ErrForm}, {"00", api.ErrForm}, {"05", api.ErrForm}, {"0", api.OK}, {"-1", api.ErrForm}, {"1099511627776", api.OK}, {"1099511627777", api.ErrRange}} {
		if _, at, e := rule.Parse(lineP + strings.Replace(lineQ, "keep=0", "keep="+c.n, 1)); e != c.e || at != min(int(e), 1) {
			t.Errorf("P9.1: Parse of keep=%s: %d, %d", c.n, at, e)
		}
	}
}

func TestP9_1ParseLines(t *testing.T) {
	wide := strings.Replace(lineQ, "=60", "=1001", 2)
	five := ""
	for _, name := range []string{"a", "b", "c", "d", "e"} {
		five += strings.Replace(lineP, " p ", " "+name+" ", 1)
	}
	for _, c := range []struct {
		text string
		at   int
		e    api.Errno
	}{
		{"", 0, api.ErrFull},
		{"\n", 0, api.ErrForm},
		{"\n" + lineP, 0, api.ErrForm},
		{lineP + "\n", 1, api.ErrForm},
		{lineP + "\n\n", 1, api.ErrForm},
		{lineP + "\ndrop\n", 1, api.ErrForm},
		{lineP[:len(lineP)-1], 0, api.ErrForm},
		{lineP + lineQ[:len(lineQ)-1], 1, api.ErrForm},
		{lineP + "drop", 1, api.ErrForm},
		{sample[:len(sample)-1], 5, api.ErrForm},
		{strings.ReplaceAll(sample, "\n", "\r\n"), 0, api.ErrForm},
		{"drop\n", 0, api.ErrFull},
		{"drop\ndrop a\n", 1, api.ErrForm},
		{"map -> p\n", 0, api.ErrFull},
		{five, 0, api.ErrFull},
		{five + "drop\n", 0, api.ErrFull},
		{five + "drops\n", 5, api.ErrForm},
		{five + five + five, 0, api.ErrFull},
		{lineP + strings.Repeat("drop\n", 17), 0, api.ErrFull},
		{lineP + strings.Repeat("drop\n", 40), 0, api.ErrFull},
		{lineP + strings.Repeat("drop\n", 40) + "drop a\n", 41, api.ErrForm},
		{lineP + strings.Repeat("drop\n", 40) + lineQ, 41, api.ErrForm},
		{strings.Repeat("drop\n", 17), 0, api.ErrFull},
		{lineP + "drop\n" + lineQ, 2, api.ErrForm},
		{"drop\n" + lineP, 1, api.ErrForm},
		{lineP + "drop\n" + lineQ + "drop a\n", 2, api.ErrForm},
		{lineP + "drop a\n" + lineQ, 1, api.ErrForm},
		{lineP + "drop\n" + wide, 2, api.ErrForm},
		{lineP + wide, 1, api.ErrRange},
		{wide + lineP, 0, api.ErrRange},
		{wide + "drop a\n", 1, api.ErrForm},
		{lineP + lineP + "map -> r\nmap\n", 3, api.ErrForm},
		{lineP + lineP + "map -> r\n", 1, api.ErrTwice},
		{lineP + strings.Replace(wide, " q ", " p ", 1), 1, api.ErrRange},
		{wide + strings.Replace(wide, " q ", " p ", 1), 0, api.ErrRange},
		{lineP + lineQ + lineP, 2, api.ErrTwice},
		{lineP + "map -> r\n", 1, api.ErrNone},
		{lineP + "drop\nmap -> p,r\nmap -> s\n", 2, api.ErrNone},
		{lineP + "roll -> q as x less -\n", 1, api.ErrNone},
		{lineP + lineQ + strings.Repeat("drop\n", 15) + "map -> r\n", 17, api.ErrNone},
	} {
		if s, at, e := rule.Parse(c.text); at != c.at || e != c.e || !same(s, rule.Set{}) {
			t.Errorf("P9.1: Parse(%q): %+v, %d, %d, want %d, %d", c.text, s, at, e, c.at, c.e)
		}
		checkText(t, c.text)
	}
}

func TestP9_1ParseEachByteAtEachPlace(t *testing.T) {
	for _, text := range []string{
		"policy p size=10 slide=5 late=0 keep=100\ndrop .=a*\nmap b!=c -> p\n",
		"policy q size=6 slide=6 late=1 keep=9\nroll .={a,b} -> q as r.s less t,u\nroll -> q as m keep -\n",
	} {
		for i := range len(text) {
			checkText(t, text[:i])
			checkText(t, text[:i]+text[i+1:])
			for b := range 256 {
				checkText(t, text[:i]+string([]byte{byte(b)})+text[i+1:])
			}
			for _, b := range " \n=!,.-0a*{}>_" {
				checkText(t, text[:i]+string(b)+text[i:])
			}
		}
	}
}

// mixed: the words of a line, one of them left out, doubled, changed, or two of them exchanged.
func mixed(r *rand.Rand, line string) string {
	words := strings.Split(line, " ")
	i, j := r.Intn(len(words)), r.Intn(len(words))
	switch r.Intn(4) {
	case 0:
		words = slices.Delete(words, i, i+1)
	case 1:
		words = slices.Insert(words, j, words[i])
	case 2:
		words[i], words[j] = words[j], words[i]
	default:
		words[i] = []string{"", "a=b", ".!=*", "->", "p", "p,q", "r", "as", "keep", "less", "-", "a,b", "drop", "map", "roll", "policy", "size=1"}[r.Intn(17)]
	}
	return strings.Join(words, " ")
}

func TestP9_1ParseMixedWords(t *testing.T) {
	r := rand.New(rand.NewSource(91))
	counts := map[api.Errno]int{}
	for range 20000 {
		lines := strings.SplitAfter(sample, "\n")
		for range 1 + r.Intn(2) {
			i := r.Intn(len(lines) - 1)
			lines[i] = mixed(r, strings.TrimSuffix(lines[i], "\n")) + "\n"
		}
		if r.Intn(4) == 0 {
			i, j := r.Intn(len(lines)), r.Intn(len(lines))
			lines[i], lines[j] = lines[j], lines[i]
		}
		counts[checkText(t, strings.Join(lines, ""))]++
	}
	if counts[api.OK] < 1000 || counts[api.ErrForm] < 1000 || counts[api.ErrNone] < 100 {
		t.Errorf("P9.1: of mixed words' texts: %v", counts)
	}
}

func TestP9_1ParseGreatTexts(t *testing.T) {
	many := 1_000_000
	for _, c := range []struct {
		text string
		at   int
		e    api.Errno
	}{
		{strings.Repeat(" ", many), 0, api.ErrForm},
		{strings.Repeat("\n", many), 0, api.ErrForm},
		{lineP + "drop" + strings.Repeat(" a=b", many) + "\n", 1, api.ErrForm},
		{lineP + "map -> p" + strings.Repeat(",p", many) + "\n", 1, api.ErrForm},
		{lineP + "roll -> p as x less a" + strings.Repeat(",b", many) + "\n", 1, api.ErrForm},
		{lineP + "drop a=" + strings.Repeat("{a}", many) + "\n", 1, api.ErrForm},
		{strings.Repeat("9", many) + "\n", 0, api.ErrForm},
		{strings.Replace(lineP, "10", strings.Repeat("9", many), 1), 0, api.ErrForm},
		{lineP + strings.Repeat("drop\n", many), 0, api.ErrFull},
		{strings.Repeat(lineP, many/10), 0, api.ErrFull},
		{lineP + strings.Repeat("drop\n", many) + lineP, many + 1, api.ErrForm},
	} {
		if s, at, e := rule.Parse(c.text); at != c.at || e != c.e || !same(s, rule.Set{}) {
			t.Errorf("P9.1: Parse of %d bytes: %d, %d, want %d, %d", len(c.text), at, e, c.at, c.e)
		}
	}
}

func TestP9_1Holds(t *testing.T) {
	x := api.Series{Metric: "reqs.all", Labels: []api.Label{{Name: "code", Value: "200"}, {Name: "zone", Value: "eu-1"}}}
	for _, c := range []struct {
		name, pattern string
		want          bool
	}{
		{".", "reqs.all", true}, {".", "reqs*", true}, {".", "*", true}, {".", "reqs", false}, {".", "200", false}, {".", "{reqs.all,x}", true}, {".", "????????", true}, {".", "?", false},
		{"code", "200", true}, {"code", "2*", true}, {"code", "{200,404}", true}, {"code", "4*", false}, {"code", "20", false}, {"code", "2000", false}, {"code", "eu-1", false}, {"code", "reqs*", false},
		{"zone", "eu-?", true}, {"zone", "us-?", false}, {"zone", "*1", true}, {"zone", "eu", false},
		{"host", "*", true}, {"host", "**", true}, {"host", "?", false}, {"host", "?*", false}, {"host", "a", false}, {"host", "{a}", false},
		{"cod", "200", false}, {"codes", "200", false}, {"reqs", "*", true}, {"reqs", "reqs", false},
	} {
		if got := rule.Holds(match(c.name, c.pattern), x); got != c.want {
			t.Errorf("P9.1: Holds(%s=%s): %v", c.name, c.pattern, got)
		}
		if got := rule.Holds(turned(c.name, c.pattern), x); got == c.want {
			t.Errorf("P9.1: Holds(%s!=%s): %v", c.name, c.pattern, got)
		}
	}
	bare := api.Series{Metric: "m"}
	for _, name := range []string{"a", "m"} {
		if !rule.Holds(match(name, "*"), bare) || rule.Holds(match(name, "?*"), bare) || !rule.Holds(turned(name, "m"), bare) {
			t.Errorf("P9.1: Holds of %s, of a series without labels", name)
		}
	}
}

func TestP9_1HoldsRandom(t *testing.T) {
	r := rand.New(rand.NewSource(92))
	some := func(l ...string) string { return l[r.Intn(len(l))] }
	for range 20000 {
		m := rule.Match{Name: some(".", "a", "b", "c"), Not: r.Intn(2) == 0, Pattern: some("*", "?", "x*", "{x,y}", "x", "y?", "?*", "*x") + some("", "", "*")}
		x := api.Series{Metric: some("x", "y", "xx", "yx", "z.x")}
		values := map[string]string{".": x.Metric}
		for _, name := range []string{"a", "b", "c"} {
			if r.Intn(2) == 0 {
				values[name] = some("x", "y", "xx", "yx", "z/x")
				x.Labels = append(x.Labels, api.Label{Name: name, Value: values[name]})
			}
		}
		if got, want := rule.Holds(m, x), glob.Match(m.Pattern, values[m.Name]) != m.Not; got != want {
			t.Fatalf("P9.1: Holds(%+v, %v): %v", m, x, got)
		}
	}
}

func TestP9_1Policy(t *testing.T) {
	s := rule.Set{Policies: []api.Policy{{Name: "p", Size: 1, Slide: 1}, {Name: "q", Size: 1, Slide: 1}, {Name: "a", Size: 1, Slide: 1}, {Name: "pp", Size: 1, Slide: 1}}}
	for i, p := range s.Policies {
		if place, there := s.Policy(p.Name); place != i || !there {
			t.Errorf("P9.1: Policy(%s): %d, %v", p.Name, place, there)
		}
	}
	for _, name := range append(noNames, "r", "b", "ppp", "P", "p ", "*", "?") {
		if place, there := s.Policy(name); place != 0 || there {
			t.Errorf("P9.1: Policy(%q): %d, %v", name, place, there)
		}
		if place, there := (rule.Set{}).Policy(name); place != 0 || there {
			t.Errorf("P9.1: Policy(%q) of no policies: %d, %v", name, place, there)
		}
	}
}

// anySet: few names and numbers, near to the ends, so that some sets are right and others near to that.
func anySet(r *rand.Rand, wrong int) rule.Set {
	s := rule.Set{}
	odd := func() bool { return wrong > 0 && r.Intn(wrong) == 0 }
	count := func(least, most int) int {
		if odd() {
			return []int{least - least%2, least, most, most + 1}[r.Intn(4)]
		}
		return least + r.Intn(most-least+1)
	}
	within := func(least, most int) int {
		if odd() {
			return []int{least - 1, least, most, most + 1}[r.Intn(4)]
		}
		return []int{least, most, least + r.Intn(most-least+1)}[r.Intn(3)]
	}
	names := []string{"p", "q", "pq", "a_0"}
	r.Shuffle(len(names), func(i, j int) { names[i], names[j] = names[j], names[i] })
	for i := range count(1, 4) {
		p := api.Policy{Name: names[i%4], Size: within(1, 1000), Late: within(0, 1000), Keep: within(0, api.MaxTime)}
		p.Slide = within(1, max(p.Size, 1))
		if odd() {
			p.Name = []string{"p", "q", "", "p.q"}[r.Intn(4)]
		}
		s.Policies = append(s.Policies, p)
	}
	for range count(0, 16) {
		s.Rules = append(s.Rules, anyRule(r, s.Policies, odd, count))
	}
	return s
}

func anyRule(r *rand.Rand, l []api.Policy, odd func() bool, count func(least, most int) int) rule.Rule {
	x := rule.Rule{Kind: 1 + r.Intn(3)}
	for range count(0, 6) {
		m := rule.Match{Name: []string{".", "a", "b"}[r.Intn(3)], Not: r.Intn(2) == 0, Pattern: []string{"*", "x?", "{a,b}", "!", "->"}[r.Intn(5)]}
		if odd() {
			m.Name = []string{"", "..", "a.b"}[r.Intn(3)]
		}
		if odd() {
			m.Pattern = []string{"", "a b", "{"}[r.Intn(3)]
		}
		x.When = append(x.When, m)
	}
	if x.Kind != rule.Drop || odd() {
		for _, i := range r.Perm(len(l))[:r.Intn(len(l)+1)] {
			// Of a text in To that is no name the chapter doesn't say which error it is.
			if aName.MatchString(l[i].Name) {
				x.To = append(x.To, l[i].Name)
			}
		}
		if len(x.To) == 0 && !odd() {
			x.To = append(x.To, "p")
		}
		if odd() {
			x.To = append(x.To, []string{"p", "z"}[r.Intn(2)])
		}
	}
	if x.Kind == rule.Roll || odd() {
		x.Metric = []string{"m", "m.n", "x."}[r.Intn(3)]
		x.Keep = r.Intn(2) == 0
		for _, name := range []string{"a", "a0", "a_", "aa", "b", "c"} {
			if r.Intn(2) == 0 {
				x.Labels = append(x.Labels, name)
			}
		}
		if odd() {
			x.Labels = append(x.Labels, []string{"a", "c", "d", "A", "d.e"}[r.Intn(5)])
		}
	}
	if odd() {
		x.Kind = r.Intn(5)
	}
	return x
}

func TestP9_1RandomSets(t *testing.T) {
	r := rand.New(rand.NewSource(93))
	counts := map[api.Errno]int{}
	for range 30000 {
		s := anySet(r, 20+r.Intn(200))
		check(t, s)
		_, e := rule.Check(s)
		counts[e]++
	}
	for _, e := range []api.Errno{api.OK, api.ErrFull, api.ErrName, api.ErrRange, api.ErrTwice, api.ErrForm, api.ErrNone} {
		if counts[e] < 50 {
			t.Errorf("P9.1: of any sets %d are answered with %d", counts[e], e)
		}
	}
}

func TestP9_2RightSets(t *testing.T) {
	r := rand.New(rand.NewSource(94))
	many := 0
	for range 10000 {
		s := anySet(r, 0)
		if _, e := fault(s); e != api.OK {
			continue
		}
		many++
		text := rule.Print(s)
		got, at, e := rule.Parse(text)
		if at != 0 || e != api.OK || !same(got, s) {
			t.Fatalf("P9.2: %+v is printed as %q, and parsed as %+v, %d, %d", s, text, got, at, e)
		}
		if again := rule.Print(got); again != text {
			t.Fatalf("P9.2: %q is parsed, and printed as %q", text, again)
		}
	}
	if many < 1000 {
		t.Errorf("P9.2: %d sets alone were right", many)
	}
}

// Two sets that differ have different texts.
func TestP9_2DifferentTexts(t *testing.T) {
	sets := []rule.Set{right()}
	change := func(f func(s *rule.Set)) { sets = append(sets, but(f)) }
	change(func(s *rule.Set) { s.Policies[0].Size++ })
	change(func(s *rule.Set) { s.Policies[0].Slide++ })
	change(func(s *rule.Set) { s.Policies[0].Late++ })
	change(func(s *rule.Set) { s.Policies[0].Keep++ })
	change(func(s *rule.Set) { s.Policies = append(s.Policies, api.Policy{Name: "r", Size: 1, Slide: 1}) })
	change(func(s *rule.Set) { s.Policies[0], s.Policies[1] = s.Policies[1], s.Policies[0] })
	change(func(s *rule.Set) { s.Rules[0].When[0].Not = true })
	change(func(s *rule.Set) { s.Rules[0].When[0].Name = "a" })
	change(func(s *rule.Set) { s.Rules[0].When[0].Pattern = "debug?" })
	change(func(s *rule.Set) { s.Rules[0].When = nil })
	change(func(s *rule.Set) { s.Rules[1].To = []string{"p", "q"} })
	change(func(s *rule.Set) { s.Rules[1].To = []string{"p"} })
	change(func(s *rule.Set) { s.Rules[2].When = s.Rules[2].When[:1] })
	change(func(s *rule.Set) { s.Rules[2].Metric = "reqs" })
	change(func(s *rule.Set) { s.Rules[2].Keep = false })
	change(func(s *rule.Set) { s.Rules[2].Labels = s.Rules[2].Labels[:1] })
	change(func(s *rule.Set) { s.Rules[2].Labels = nil })
	change(func(s *rule.Set) { s.Rules[3].Keep = true })
	change(func(s *rule.Set) { s.Rules[0], s.Rules[1] = s.Rules[1], s.Rules[0] })
	change(func(s *rule.Set) { s.Rules = s.Rules[:3] })
	texts := map[string]int{}
	for i, s := range sets {
		check(t, s)
		text := rule.Print(s)
		if other, there := texts[text]; there {
			t.Errorf("P9.2: sets %d and %d have one text: %q", other, i, text)
		}
		texts[text] = i
	}
}

// roomy: the same things, with these behind them as spare room.
func roomy[T any](l []T, spare ...T) []T {
	return append(slices.Clone(l), spare...)[: len(l) : len(l)+len(spare)]
}

// roomySet: the same set; each of its lists has spare room.
func roomySet(s rule.Set) rule.Set {
	c := rule.Set{Policies: roomy(s.Policies, api.Policy{Name: "spare"}, api.Policy{Name: "more"})}
	for _, r := range s.Rules {
		r.When = roomy(r.When, match("spare", "spare"), match("more", "more"))
		r.To, r.Labels = roomy(r.To, "spare", "more"), roomy(r.Labels, "spare", "more")
		c.Rules = append(c.Rules, r)
	}
	c.Rules = roomy(c.Rules, rule.Rule{Kind: 7, Metric: "spare"}, rule.Rule{Kind: 8})
	return c
}

// whole: a set as it stands in memory, spare room too.
func whole(s rule.Set) string {
	all := fmt.Sprintf("%d %d %q ", len(s.Policies), len(s.Rules), fmt.Sprint(s.Policies[:cap(s.Policies)]))
	for _, r := range s.Rules[:cap(s.Rules)] {
		all += fmt.Sprintf("%d %q %v %d %d %d %q %q %q ", r.Kind, r.Metric, r.Keep, len(r.When), len(r.To), len(r.Labels),
			fmt.Sprint(r.When[:cap(r.When)]), r.To[:cap(r.To)], r.Labels[:cap(r.Labels)])
	}
	return all
}

func TestP9_3WhatIsHandedInStays(t *testing.T) {
	r := rand.New(rand.NewSource(95))
	sets := []rule.Set{right(), {}, {Policies: policies(5)}, but(func(s *rule.Set) { s.Rules[2].Labels = []string{"b", "a"} }), but(func(s *rule.Set) { s.Rules[1].To = []string{"r"} })}
	for range 500 {
		sets = append(sets, anySet(r, r.Intn(100)))
	}
	for _, s := range sets {
		handed := roomySet(s)
		before := whole(handed)
		place, e := rule.Check(handed)
		text := rule.Print(handed)
		handed.Policy("p")
		handed.Policy("none")
		if after := whole(handed); after != before {
			t.Fatalf("P9.3: a set was %s, and is %s", before, after)
		}
		if again, x := rule.Check(handed); again != place || x != e || e == api.OK && text != rule.Print(handed) {
			t.Fatalf("P9.3: Check, or Print, of %+v answers another time otherwise", s)
		}
	}
	labels := roomy([]api.Label{{Name: "a", Value: "1"}, {Name: "b", Value: "2"}}, api.Label{Name: "spare"})
	x := api.Series{Metric: "m", Labels: labels}
	for _, m := range []rule.Match{match("a", "1"), turned("b", "1"), match(".", "*"), match("c", "?")} {
		rule.Holds(m, x)
	}
	if got := fmt.Sprint(x.Metric, labels[:cap(labels)]); got != "m[{a 1} {b 2} {spare }]" {
		t.Errorf("P9.3: Holds leaves %s", got)
	}
}

// A set isn't kept: changed, it is answered as it is then.
func TestP9_3WhatIsHandedInIsNotKept(t *testing.T) {
	s := right()
	if at, e := rule.Check(s); at != 0 || e != api.OK {
		t.Fatalf("P9.1: Check: %d, %d", at, e)
	}
	s.Rules[1].To[0] = "p"
	refused(t, s, 3, api.ErrForm)
	s.Policies[0].Size = 0
	refused(t, s, 0, api.ErrRange)
	if place, there := s.Policy("q"); place != 1 || !there {
		t.Errorf("P9.1: Policy(q): %d", place)
	}
	s.Policies[1].Name = "other"
	if place, there := s.Policy("q"); place != 0 || there {
		t.Errorf("P9.3: Policy(q): %d, %v", place, there)
	}
}

// fill: all of a list's memory is written over.
func fill[T any](l []T, x T) {
	l = l[:cap(l)]
	for i := range l {
		l[i] = x
	}
}

// fills: for each list of a set what writes over its memory; of the rules' own list it is the last.
func fills(s rule.Set) []func() {
	all := []func(){func() { fill(s.Policies, api.Policy{Name: "x"}) }}
	for i := range s.Rules {
		r := s.Rules[i]
		all = append(all, func() { fill(r.When, match("x", "x")) }, func() { fill(r.To, "x") }, func() { fill(r.Labels, "x") })
	}
	return append(all, func() { fill(s.Rules, rule.Rule{Kind: 9}) })
}

// lists: each list of a set, as a text, in the order of fills.
func lists(s rule.Set) []string {
	all := []string{fmt.Sprint(s.Policies)}
	for _, r := range s.Rules {
		all = append(all, fmt.Sprint(r.When), fmt.Sprint(r.To), fmt.Sprint(r.Labels))
	}
	kinds := ""
	for _, r := range s.Rules {
		kinds += fmt.Sprint(r.Kind, r.Metric, r.Keep, ";")
	}
	return append(all, kinds)
}

func TestP9_3AnswersAreNewMemory(t *testing.T) {
	text := sample + "map a=b c=d -> p,q\nroll a=b -> p,q as y less a,b\n"
	want, _, e := rule.Parse(text)
	if e != api.OK {
		t.Fatalf("P9.1: Parse: %d", e)
	}
	was := lists(copied(want))
	for i := range fills(want) {
		got, _, _ := rule.Parse(text)
		held := copied(got)
		inner := slices.Clone(got.Rules)
		fills(got)[i]()
		// What the other lists have is as it was: none of them shares memory with this one.
		left := rule.Set{Policies: got.Policies, Rules: inner}
		now := lists(left)
		last := len(was) - 1
		if i != last {
			now[last] = lists(got)[last]
		}
		for k := range was {
			if k != i && now[k] != was[k] {
				t.Errorf("P9.3: list %d, written over, changes list %d: %s", i, k, now[k])
			}
		}
		if again, _, _ := rule.Parse(text); !same(again, held) || !same(again, want) {
			t.Errorf("P9.3: list %d of an answer, written over, changes the next answer: %+v", i, again)
		}
	}
	if rule.Print(want) != text {
		t.Errorf("P9.3: what was answered first has changed: %+v", want)
	}
}

// Of what isn't good nothing is promised, but that each call ends, and that none panics.
func TestP7WrongInputs(t *testing.T) {
	r := rand.New(rand.NewSource(96))
	sets := []rule.Set{{}, {Policies: make([]api.Policy, 2)}, {Rules: make([]rule.Rule, 3)}, {Policies: policies(1), Rules: []rule.Rule{{Kind: -1}, {Kind: math.MinInt}, {Kind: math.MaxInt, To: rising(100)}}}}
	for range 2000 {
		sets = append(sets, anySet(r, 3))
	}
	for _, s := range sets {
		rule.Check(s)
		rule.Print(s)
		s.Policy("")
		s.Policy(long(1000))
	}
	for _, m := range []rule.Match{{}, match("", ""), match(".", ""), turned("a", "{"), match("..", "*"), turned(long(1000), long(1000)), match("a", strings.Repeat("*", 1000))} {
		for _, x := range []api.Series{{}, {Labels: make([]api.Label, 9)}, {Metric: long(1000), Labels: []api.Label{{Name: "a", Value: long(1000)}, {Name: "a"}}}} {
			rule.Holds(m, x)
		}
	}
}

func FuzzParse(f *testing.F) {
	f.Add(sample)
	f.Add("policy p size=10 slide=10 late=5 keep=100\nroll .=reqs code!=2* -> p as bad less host\n")
	f.Fuzz(func(t *testing.T, text string) {
		checkText(t, text)
	})
}
