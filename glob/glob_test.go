package glob_test

import (
	"fmt"
	"iter"
	"math/rand"
	"regexp"
	"slices"
	"strings"
	"testing"

	"tidemill/glob"
)

// The words of the chapter, by another way than the program's.
const (
	ownByte  = "[!$%&'()+\\-./0-9<>@A-Z\\\\^_`a-z~]"
	ownBytes = ownByte + "+"
)

var (
	aToken   = regexp.MustCompile(`^(?:` + ownByte + `|[*?]|\{` + ownBytes + `(?:,` + ownBytes + `){0,5}\})`)
	aPattern = regexp.MustCompile(`^(?:` + aToken.String()[1:] + `)+$`)
	aPlain   = regexp.MustCompile(`^` + ownBytes + `$`)
)

// good: is it a pattern?
func good(p string) bool {
	return len(p) <= 40 && aPattern.MatchString(p)
}

// tokens: a pattern's; none, if it is no pattern.
func tokens(p string) []string {
	if !good(p) {
		return nil
	}
	var all []string
	for p != "" {
		token := aToken.FindString(p)
		all = append(all, token)
		p = p[len(token):]
	}
	return all
}

// expression: what matches the same texts, each byte of them as a rune.
func expression(p string) *regexp.Regexp {
	all := strings.Builder{}
	for _, token := range tokens(p) {
		switch token {
		case "*":
			all.WriteString(".*")
		case "?":
			all.WriteString(".")
		default:
			parts := strings.Split(strings.Trim(token, "{}"), ",")
			for i := range parts {
				parts[i] = regexp.QuoteMeta(parts[i])
			}
			all.WriteString("(?:" + strings.Join(parts, "|") + ")")
		}
	}
	return regexp.MustCompile(`(?s)^(?:` + all.String() + `)$`)
}

// runes: a text's bytes as runes.
func runes(s string) string {
	all := make([]rune, len(s))
	for i := range len(s) {
		all[i] = rune(s[i])
	}
	return string(all)
}

// made: of a pattern's tokens, is the text made of texts, one for each? By trying all ways, so for short ones alone.
func made(l []string, s string) bool {
	if len(l) == 0 {
		return s == ""
	}
	switch l[0] {
	case "*":
		return made(l[1:], s) || s != "" && made(l, s[1:])
	case "?":
		return s != "" && made(l[1:], s[1:])
	}
	for _, part := range strings.Split(strings.Trim(l[0], "{}"), ",") {
		if strings.HasPrefix(s, part) && made(l[1:], s[len(part):]) {
			return true
		}
	}
	return false
}

// list: what a sequence gives.
func list(l iter.Seq[string]) string {
	return fmt.Sprintf("%q", slices.Collect(l))
}

// check: does the program say of a text that it is, or isn't, a pattern, and such a one, with these tokens?
func check(t *testing.T, p string) {
	t.Helper()
	if got, want := glob.Good(p), good(p); got != want {
		t.Fatalf("P8.1: Good(%q): %v, want %v", p, got, want)
	}
	if got, want := glob.Plain(p), good(p) && aPlain.MatchString(p); got != want {
		t.Fatalf("P8.1: Plain(%q): %v, want %v", p, got, want)
	}
	got := slices.Collect(glob.Tokens(p))
	if want := tokens(p); !slices.Equal(got, want) {
		t.Fatalf("P8.1: Tokens(%q): %q, want %q", p, got, want)
	}
}

// checkMatch: does the program say that a pattern matches these texts, just as it does?
func checkMatch(t *testing.T, p string, texts ...string) {
	t.Helper()
	is, e := good(p), expression(p)
	var those []string
	for _, s := range texts {
		want := is && e.MatchString(runes(s))
		if got := glob.Match(p, s); got != want {
			t.Fatalf("P8.1: Match(%q, %q): %v, want %v", p, s, got, want)
		}
		if want {
			those = append(those, s)
		}
	}
	if got := slices.Collect(glob.Those(p, slices.Values(texts))); !slices.Equal(got, those) {
		t.Fatalf("P8.1: Those(%q, %q): %q, want %q", p, texts, got, those)
	}
}

// texts: all of so many of these bytes at most, the short ones first.
func texts(bytes string, most int) []string {
	all, last := []string{""}, []string{""}
	for range most {
		var next []string
		for _, s := range last {
			for i := range len(bytes) {
				next = append(next, s+bytes[i:i+1])
			}
		}
		all, last = append(all, next...), next
	}
	return all
}

// some: of so many of these pieces at most.
func some(r *rand.Rand, pieces []string, most int) string {
	s := ""
	for range r.Intn(most + 1) {
		s += pieces[r.Intn(len(pieces))]
	}
	return s
}

func TestP8_1Example(t *testing.T) {
	for s, want := range map[string]bool{"eu-a": true, "eu-b17": true, "eu-c": false, "eu-": false, "eu": false, "xeu-a": false} {
		if got := glob.Match("eu-{a,b}*", s); got != want {
			t.Errorf("P8.1: Match(eu-{a,b}*, %s): %v", s, got)
		}
	}
}

func TestP8_1Good(t *testing.T) {
	long := strings.Repeat("a", 39)
	for p, want := range map[string]struct{ good, plain bool }{
		"":                             {},
		"a":                            {true, true},
		"~":                            {true, true},
		"-!$%&'()+./<>@^_`\\~":         {true, true},
		long:                           {true, true},
		long + "a":                     {true, true},
		long + "aa":                    {},
		long + "*":                     {true, false},
		long + "a*":                    {},
		strings.Repeat("*", 40):        {true, false},
		strings.Repeat("*", 41):        {},
		strings.Repeat("?", 40):        {true, false},
		strings.Repeat("?", 41):        {},
		"{" + long[1:] + "}":           {true, false},
		"{" + long + "}":               {},
		long[2:] + "{a}":               {true, false},
		long[1:] + "{a}":               {},
		long + "a{":                    {},
		"*":                            {true, false},
		"?":                            {true, false},
		"**":                           {true, false},
		"*?*":                          {true, false},
		"?a*":                          {true, false},
		"{a}":                          {true, false},
		"{ab,c}":                       {true, false},
		"{a,a}":                        {true, false},
		"{a,b,c,d,e,f}":                {true, false},
		"{a,b,c,d,e,f,g}":              {},
		"{aa,bb,cc,dd,ee,ff}":          {true, false},
		"{a,b,c,d,e,f}{a,b,c,d,e,f}":   {true, false},
		"{a,b,c,d,e,f}{a,b,c,d,e,f,g}": {},
		"{}":                           {},
		"a{}":                          {},
		"{,}":                          {},
		"{,a}":                         {},
		"{a,}":                         {},
		"{a,,b}":                       {},
		"{a*}":                         {},
		"{*}":                          {},
		"{a,?}":                        {},
		"{a,[}":                        {},
		"{],a}":                        {},
		"{{a}}":                        {},
		"{a,{b,c}}":                    {},
		"{a{b}":                        {},
		"{":                            {},
		"{a":                           {},
		"{a,b":                         {},
		"a{b,c":                        {},
		"{a}{b":                        {},
		"}":                            {},
		"a}":                           {},
		"{a}}":                         {},
		"}a{":                          {},
		",":                            {},
		"a,b":                          {},
		"{a},{b}":                      {},
		",{a}":                         {},
		"{a}{b}":                       {true, false},
		"*{a}?{b,c}*":                  {true, false},
		"[":                            {},
		"]":                            {},
		"[a]":                          {},
		"a b":                          {},
		" a":                           {},
		"a\n":                          {},
		"a:b":                          {},
		"a;b":                          {},
		"a=b":                          {},
		"a|b":                          {},
		"a#":                           {},
		"\"a\"":                        {},
		"\x00":                         {},
		"\x7f":                         {},
		"\xff":                         {},
		"é":                            {},
	} {
		if glob.Good(p) != want.good || glob.Plain(p) != want.plain {
			t.Errorf("P8.1: %q: Good %v, Plain %v", p, glob.Good(p), glob.Plain(p))
		}
		check(t, p)
	}
}

func TestP8_1EachByteAtEachPlace(t *testing.T) {
	for b := range 256 {
		s := string([]byte{byte(b)})
		for _, p := range []string{"%", "%a", "a%", "a%a", "*%", "%?", "{%}", "{%a}", "{a%}", "{a%a}", "{%,a}", "{a,%}", "{a,%,a}", "{a}%", "%{a}", "{a}%{a}", "{a%", "%a}"} {
			p = strings.ReplaceAll(p, "%", s)
			check(t, p)
			checkMatch(t, p, "", s, "a", s+"a", "a"+s, "a"+s+"a", "aa", s+s, "aaa", p)
		}
	}
}

func TestP8_1Tokens(t *testing.T) {
	for p, want := range map[string][]string{
		"a":                       {"a"},
		"abc":                     {"a", "b", "c"},
		"*":                       {"*"},
		"?":                       {"?"},
		"**??*":                   {"*", "*", "?", "?", "*"},
		"{a}":                     {"{a}"},
		"a{b,c}*?":                {"a", "{b,c}", "*", "?"},
		"{ab,c,def}{g}":           {"{ab,c,def}", "{g}"},
		"x{1,12}*{3,4}":           {"x", "{1,12}", "*", "{3,4}"},
		strings.Repeat("{a}", 13): slices.Repeat([]string{"{a}"}, 13),
		strings.Repeat("*", 40):   slices.Repeat([]string{"*"}, 40),
		"":                        nil,
		"a{b":                     nil,
		"ab}":                     nil,
		"a,b":                     nil,
		"ab[":                     nil,
		"a*\x80":                  nil,
		strings.Repeat("*", 41):   nil,
		"{a,b,c,d,e,f,g}":         nil,
		"ab{a,}":                  nil,
	} {
		if got := slices.Collect(glob.Tokens(p)); !slices.Equal(got, want) {
			t.Errorf("P8.1: Tokens(%q): %q", p, got)
		}
	}
}

func TestP8_1Match(t *testing.T) {
	for _, c := range []struct {
		p       string
		yes, no []string
	}{
		{"a", []string{"a"}, []string{"", "b", "A", "aa", "ab", "ba", "\x00a"}},
		{"a.b", []string{"a.b"}, []string{"aab", "axb", "a.", ".b"}},
		{"(a)+$^", []string{"(a)+$^"}, []string{"a", "aa", "(a)+$"}},
		{`a\b`, []string{`a\b`}, []string{"ab", `a\`, `a\\b`}},
		{"*", []string{"", "a", "abc", "x/y", "[*]", "{a,b}", "a b\n", "\x00\xff"}, nil},
		{"?", []string{"a", "*", "?", "[", "{", ",", " ", "\n", "\x00", "\x80", "\xff"}, []string{"", "ab", "é"}},
		{"??", []string{"ab", "??", "é"}, []string{"", "a", "abc"}},
		{"**", []string{"", "a", "ab"}, nil},
		{"*?", []string{"a", "ab", "abc"}, []string{""}},
		{"?*", []string{"a", "ab", "abc"}, []string{""}},
		{"?*?", []string{"ab", "abc"}, []string{"", "a"}},
		{"*a*", []string{"a", "ba", "ab", "bab", "aaa"}, []string{"", "b", "bcb"}},
		{"a*a", []string{"aa", "aba", "aaa"}, []string{"", "a", "ab", "ba"}},
		{"?a?", []string{"bab", "aaa"}, []string{"a", "ba", "ab", "bbb"}},
		{"a*b*c", []string{"abc", "aXbYc", "abcbc"}, []string{"ab", "acb", "abcd"}},
		{"{a}", []string{"a"}, []string{"", "b", "aa", "{a}"}},
		{"{ab,c}", []string{"ab", "c"}, []string{"", "a", "b", "abc", "ab,c", "{ab,c}"}},
		{"{a,b,c,d,e,f}", []string{"a", "b", "c", "d", "e", "f"}, []string{"", "g", "ab", ","}},
		{"{a,b}{c,d}", []string{"ac", "ad", "bc", "bd"}, []string{"", "a", "c", "ab", "cd", "ca"}},
		{"{a,ab}", []string{"a", "ab"}, []string{"", "b", "abb", "aab"}},
		{"{a,ab}{b,c}", []string{"ab", "ac", "abb", "abc"}, []string{"a", "abbb", "acb"}},
		{"{ab,a}{bc,c}", []string{"abc", "ac", "abbc"}, []string{"ab", "abcc", "abb"}},
		{"{a,ab,abc}d", []string{"ad", "abd", "abcd"}, []string{"d", "acd", "abcdd"}},
		{"{abc,ab,a}{d,cd,bcd}", []string{"abcd", "ad", "abd"}, []string{"abc", "bcd"}},
		{"{a,a}", []string{"a"}, []string{"", "aa"}},
		{"*{a,b}", []string{"a", "b", "aa", "xb"}, []string{"", "ax"}},
		{"x{1,12}*{3,4}", []string{"x13", "x124", "x1Y3", "x123"}, []string{"x1", "x12", "x2", "x3"}},
		{"eu-?*", []string{"eu-a", "eu-bc"}, []string{"eu-", "us-a"}},
	} {
		for _, s := range c.yes {
			if !glob.Match(c.p, s) {
				t.Errorf("P8.1: Match(%q, %q) is a match", c.p, s)
			}
		}
		for _, s := range c.no {
			if glob.Match(c.p, s) {
				t.Errorf("P8.1: Match(%q, %q) is none", c.p, s)
			}
		}
		checkMatch(t, c.p, slices.Concat(c.yes, c.no)...)
	}
}

func TestP8_1WhatIsNoPattern(t *testing.T) {
	for _, p := range []string{"", "a,b", "{a", "a}", "{a,}", "{{a}}", "[a]", "a b", "a\n", "é", "{a,b,c,d,e,f,g}", strings.Repeat("*", 41), strings.Repeat("a", 41)} {
		for _, s := range []string{"", "a", "b", p, p + "a", "{a", "a}"} {
			if glob.Match(p, s) {
				t.Errorf("P8.1: Match(%q, %q): the first one is no pattern", p, s)
			}
		}
		if got := list(glob.Tokens(p)); got != "[]" {
			t.Errorf("P8.1: Tokens(%q): %s", p, got)
		}
		if got := list(glob.Those(p, slices.Values([]string{"", "a", p}))); got != "[]" {
			t.Errorf("P8.1: Those(%q): %s", p, got)
		}
	}
}

func TestP8_1ShortPatterns(t *testing.T) {
	short := texts("ab", 4)
	for _, p := range texts("ab*?{},", 5) {
		check(t, p)
		l := tokens(p)
		for _, s := range short {
			if got, want := glob.Match(p, s), l != nil && made(l, s); got != want {
				t.Fatalf("P8.1: Match(%q, %q): %v, want %v", p, s, got, want)
			}
		}
	}
}

func TestP8_1RandomPatterns(t *testing.T) {
	r := rand.New(rand.NewSource(8))
	pieces := []string{"a", "b", "*", "?", "{a}", "{a,ab}", "{b,ba,a}", "{aab,a,b,bb,ab,aa}", "{a,b,c,d,e,f,g}", "{", "}", ",", "[", "~"}
	matched := 0
	for range 20000 {
		kinds := 8
		if r.Intn(4) == 0 {
			kinds = len(pieces)
		}
		p := some(r, pieces[:kinds], 8)
		check(t, p)
		var l []string
		for range 4 {
			l = append(l, some(r, []string{"a", "b"}, 12), some(r, []string{"a", "b", "{", "*", " ", "\xff"}, 4))
		}
		checkMatch(t, p, l...)
		matched += len(slices.Collect(glob.Those(p, slices.Values(l))))
	}
	if matched < 10000 {
		t.Errorf("the test has matched %d texts alone", matched)
	}
}

func TestP8_1LongTexts(t *testing.T) {
	as := strings.Repeat("a", 999)
	for p, want := range map[string][3]bool{ // of as with a behind, with b, with b ahead
		strings.Repeat("*", 40):                      {true, true, true},
		strings.Repeat("*a", 20):                     {true, false, true},
		strings.Repeat("a*", 20):                     {true, true, false},
		strings.Repeat("*?", 20):                     {true, true, true},
		strings.Repeat("*a", 19) + "*b":              {false, true, false},
		strings.Repeat("*{a,aa}", 5) + "*":           {true, true, true},
		strings.Repeat("*{a,aa}", 5) + "*c":          {false, false, false},
		"b" + strings.Repeat("*", 38) + "a":          {false, false, true},
		strings.Repeat("{a,aa}", 6):                  {false, false, false},
		strings.Repeat("?", 40):                      {false, false, false},
		strings.Repeat("a", 40):                      {false, false, false},
		strings.Repeat("?", 39) + "*":                {true, true, true},
		strings.Repeat("*", 20) + "{b,ba,ab,bb,aba}": {false, true, false},
	} {
		for i, s := range []string{as + "a", as + "b", "b" + as} {
			if got := glob.Match(p, s); got != want[i] {
				t.Errorf("P8.1: Match(%q, long text %d): %v", p, i, got)
			}
			checkMatch(t, p, s, s[1:], s[:999], s[:40], s[:39])
		}
	}
}

func TestP8_1AnyBytes(t *testing.T) {
	l := []string{"", " ", "\x00", "\xff\xfe", "é", "日", "a,b", "{a}", "a:b", "[x]", "a\nb", `"`, "a=b|c", "#", "\x7f"}
	for _, p := range []string{"*", "?", "??", "???", "?*", "*?*", "a*", "a?b", "*b", "{a,b}*", "*{a,b}?*", "{a}"} {
		checkMatch(t, p, l...)
	}
}

// counted: the same, and how many it has given so far.
func counted(l []string, given *int) iter.Seq[string] {
	return func(yield func(s string) bool) {
		for _, s := range l {
			*given++
			if !yield(s) {
				return
			}
		}
	}
}

// until: so many, the last one answered with no; without such a number, all.
func until(l iter.Seq[string], most int) []string {
	var all []string
	for s := range l {
		all = append(all, s)
		if len(all) == most {
			break
		}
	}
	return all
}

func TestP8_1Those(t *testing.T) {
	l := []string{"b", "ab", "a", "c", "abc", "ab", "", "xa"}
	for p, want := range map[string][]string{
		"a*":      {"ab", "a", "abc", "ab"},
		"*":       l,
		"*a":      {"a", "xa"},
		"?":       {"b", "a", "c"},
		"{a,b}":   {"b", "a"},
		"{ab,c}":  {"ab", "c", "ab"},
		"{ab,c}*": {"ab", "c", "abc", "ab"},
		"z":       nil,
	} {
		if got := slices.Collect(glob.Those(p, slices.Values(l))); !slices.Equal(got, want) {
			t.Errorf("P8.1: Those(%q): %q, want %q", p, got, want)
		}
	}
	for _, l := range []iter.Seq[string]{slices.Values([]string{}), nil} {
		for s := range glob.Those("*", l) {
			t.Errorf("P8.1: Those of no text: %q", s)
		}
	}
}

func TestP8_1NoFurtherThanIsAsked(t *testing.T) {
	l := []string{"b", "a", "c", "ab", "d", "abc", "e"}
	given := 0
	those := glob.Those("a*", counted(l, &given))
	if given != 0 {
		t.Errorf("P8.1: Those has gone through %d, of which none was asked for", given)
	}
	for most, want := range map[int]struct {
		given int
		those []string
	}{1: {2, []string{"a"}}, 2: {4, []string{"a", "ab"}}, 3: {6, []string{"a", "ab", "abc"}}, 4: {7, []string{"a", "ab", "abc"}}} {
		given = 0
		if got := until(those, most); !slices.Equal(got, want.those) || given != want.given {
			t.Errorf("P8.1: Those, %d: %q, of %d", most, got, given)
		}
	}
	given = 0
	for range glob.Those("a,b", counted(l, &given)) {
		t.Error("P8.1: Those of what is no pattern")
	}
	if given != 0 {
		t.Errorf("P8.1: Those of what is no pattern has gone through %d", given)
	}
	all := []string{"a", "{b,c}", "*", "?"}
	seq := glob.Tokens("a{b,c}*?")
	for most := range 6 {
		want := all[:min(most, len(all))]
		if most == 0 {
			want = all
		}
		if got := until(seq, most); !slices.Equal(got, want) {
			t.Errorf("P8.1: Tokens, %d: %q", most, got)
		}
	}
}

func TestP8_1WithoutEnd(t *testing.T) {
	naturals := func(yield func(s string) bool) {
		for n := 0; yield(fmt.Sprint(n)); n++ {
		}
	}
	if got := until(glob.Those("*{0,5}", naturals), 5); !slices.Equal(got, []string{"0", "5", "10", "15", "20"}) {
		t.Errorf("P8.1: Those of a sequence without end: %q", got)
	}
}

func TestP8MoreThanOnce(t *testing.T) {
	l := []string{"b", "a", "ab"}
	those, tokens := glob.Those("a*", slices.Values(l)), glob.Tokens("{a}?")
	for range 3 {
		if got := list(those); got != `["a" "ab"]` {
			t.Errorf("P8 (R9): Those again: %s", got)
		}
		if got := list(tokens); got != `["{a}" "?"]` {
			t.Errorf("P8 (R9): Tokens again: %s", got)
		}
		until(those, 1)
		until(tokens, 1)
	}
	out := ""
	for s := range those {
		for x := range those {
			out += s + x + " "
		}
	}
	for s := range tokens {
		for x := range tokens {
			out += s + x + " "
		}
	}
	if out != "aa aab aba abab {a}{a} {a}? ?{a} ?? " {
		t.Errorf("P8 (R9): one within the other: %s", out)
	}
}

func TestP8_2PlainMatchesItselfAlone(t *testing.T) {
	r := rand.New(rand.NewSource(82))
	own := ""
	for b := range 128 {
		if s := string(rune(b)); aPlain.MatchString(s) {
			own += s
		}
	}
	for range 3000 {
		size := 1 + r.Intn(40)
		p := ""
		for range size {
			i := r.Intn(len(own))
			p += own[i : i+1]
		}
		if !glob.Plain(p) || !glob.Match(p, p) {
			t.Fatalf("P8.2: %q is plain and matches itself", p)
		}
		i, b := r.Intn(size), own[r.Intn(len(own)):][:1]
		for _, s := range []string{p[:size-1], p[1:], p + b, b + p, p + p, p[:i] + p[i+1:], p[:i] + b + p[i+1:], p[:i] + b + p[i:], "", "*", p + "\x00"} {
			if got := glob.Match(p, s); got != (s == p) {
				t.Fatalf("P8.2: Match(%q, %q): %v", p, s, got)
			}
		}
	}
}

func TestP8_2AStarMatchesAll(t *testing.T) {
	r := rand.New(rand.NewSource(83))
	for size := range 1001 {
		b := make([]byte, size)
		r.Read(b)
		if !glob.Match("*", string(b)) {
			t.Fatalf("P8.2: Match(*, %q)", b)
		}
	}
}

func TestP8_2AStarBehind(t *testing.T) {
	r := rand.New(rand.NewSource(84))
	pieces := []string{"a", "b", "*", "?", "{a}", "{a,ab}", "{b,ba,a}", "~"}
	for range 20000 {
		p := some(r, pieces, 4)
		if !glob.Good(p) {
			continue
		}
		s := some(r, []string{"a", "b", "~", "\xff", "{"}, 8)
		begins := false
		for i := range len(s) + 1 {
			begins = begins || glob.Match(p, s[:i])
		}
		if got := glob.Match(p+"*", s); got != begins {
			t.Fatalf("P8.2: Match(%q, %q): %v", p+"*", s, got)
		}
	}
}

func FuzzMatch(f *testing.F) {
	f.Add("eu-{a,b}*", "eu-b17")
	f.Add("*?{a,ab}b", "xaab")
	f.Fuzz(func(t *testing.T, p, s string) {
		check(t, p)
		checkMatch(t, p, s, "", p, p+s)
	})
}
