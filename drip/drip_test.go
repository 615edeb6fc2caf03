package drip_test

import (
	"fmt"
	"iter"
	"math"
	"math/big"
	"math/rand"
	"regexp"
	"slices"
	"strings"
	"testing"

	"tidemill/api"
	"tidemill/drip"
)

// The words of the chapter, by another way than the program's.
var (
	aLine   = regexp.MustCompile(`(?s)^([^|:]*):([^|]*)\|([^|]*)(\|@[^|]*)?(\|#[^|]*)?\|T([^|]*)\|S([^|]*)$`)
	aMetric = regexp.MustCompile(`^[a-z][a-z0-9_.]{0,23}$`)
	aName   = regexp.MustCompile(`^[a-z][a-z0-9_]{0,23}$`)
	aValue  = regexp.MustCompile("^[!$-+\\--9<>-z~]{1,24}$")
	aNumber = regexp.MustCompile(`^-?[0-9]{1,12}(\.[0-9]{1,6})?$`)
	aRate   = regexp.MustCompile(`^0*([1-9][0-9]{0,2}|1000)$`)
	aTime   = regexp.MustCompile(`^[0-9]{1,13}$`)
	anId    = regexp.MustCompile(`^([a-z][a-z0-9_]{0,23})\.([0-9]{1,13})$`)
)

const (
	mostTime  = 1099511627776
	mostValue = 999999999999999999
)

// number: what digits tell.
func number(s string) int {
	n, _ := new(big.Int).SetString(s, 10)
	return int(n.Int64())
}

// millionths: what a number's text tells.
func millionths(s string) int {
	n, _ := new(big.Rat).SetString(s)
	return int(n.Mul(n, big.NewRat(1000000, 1)).Num().Int64())
}

// labelled: what labels tell, in order.
func labelled(s string) ([]api.Label, bool) {
	values := map[string]string{}
	parts := strings.Split(s, ",")
	for _, part := range parts {
		l := strings.Split(part, "=")
		if len(l) != 2 || !aName.MatchString(l[0]) || !aValue.MatchString(l[1]) {
			return nil, false
		}
		values[l[0]] = l[1]
	}
	var all []api.Label
	for name, value := range values {
		all = append(all, api.Label{Name: name, Value: value})
	}
	slices.SortFunc(all, func(a, b api.Label) int { return strings.Compare(a.Name, b.Name) })
	return all, len(all) == len(parts) && len(all) <= 6
}

// parse: a line's event, or its first error, by another way than the program's.
func parse(s string) (api.Event, api.Errno) {
	m := aLine.FindStringSubmatch(s)
	if len(s) > 240 || m == nil {
		return api.Event{}, api.ErrForm
	}
	if !aMetric.MatchString(m[1]) {
		return api.Event{}, api.ErrName
	}
	e := api.Event{Series: api.Series{Metric: m[1]}, Rate: 1}
	switch m[3] {
	case "c":
		e.Kind = 1
	case "g":
		e.Kind = 2
	case "ms":
		e.Kind = 3
	case "s":
		e.Kind = 4
	default:
		return api.Event{}, api.ErrKind
	}
	switch {
	case e.Kind == 4 && aValue.MatchString(m[2]):
		e.Member = m[2]
	case e.Kind != 4 && aNumber.MatchString(m[2]):
		e.Value = millionths(m[2])
	default:
		return api.Event{}, api.ErrValue
	}
	if m[4] != "" {
		rate := m[4][2:]
		if len(rate) > 4 || !aRate.MatchString(rate) || e.Kind == 2 || e.Kind == 4 {
			return api.Event{}, api.ErrRange
		}
		e.Rate = number(rate)
	}
	if m[5] != "" {
		good := false
		if e.Series.Labels, good = labelled(m[5][2:]); !good {
			return api.Event{}, api.ErrTag
		}
	}
	if !aTime.MatchString(m[6]) || number(m[6]) > mostTime {
		return api.Event{}, api.ErrTime
	}
	e.Time = number(m[6])
	id := anId.FindStringSubmatch(m[7])
	if id == nil || number(id[2]) < 1 || number(id[2]) > mostTime {
		return api.Event{}, api.ErrId
	}
	e.Source, e.Seq = id[1], number(id[2])
	return e, api.OK
}

// same: the same event; a list that is empty may be nil.
func same(a, b api.Event) bool {
	return a.Series.Metric == b.Series.Metric && slices.Equal(a.Series.Labels, b.Series.Labels) &&
		a.Kind == b.Kind && a.Value == b.Value && a.Member == b.Member && a.Rate == b.Rate &&
		a.Time == b.Time && a.Source == b.Source && a.Seq == b.Seq
}

// check: is a line's answer what the words say, and good, if it is an event?
func check(t *testing.T, s string) (api.Event, api.Errno) {
	t.Helper()
	got, e := drip.Parse(s)
	want, x := parse(s)
	if e != x || !same(got, want) {
		t.Fatalf("P7.1: Parse(%q): %+v, %d, want %+v, %d", s, got, e, want, x)
	}
	if e == api.OK && !drip.Good(got) {
		t.Fatalf("P7.2: Parse(%q): %+v isn't good", s, got)
	}
	return got, e
}

// event: a good one.
func event(kind int) api.Event {
	e := api.Event{Series: api.Series{Metric: "m", Labels: labels("a", "1", "b", "2")}, Kind: kind, Value: 1500000, Rate: 1, Time: 7, Source: "web", Seq: 3}
	if kind == api.Set {
		e.Value, e.Member = 0, "x/y"
	}
	return e
}

// but: a good event, changed.
func but(kind int, change func(e *api.Event)) api.Event {
	e := event(kind)
	change(&e)
	return e
}

// labels: of names and values, one after the other.
func labels(l ...string) []api.Label {
	var all []api.Label
	for i := 0; i < len(l); i += 2 {
		all = append(all, api.Label{Name: l[i], Value: l[i+1]})
	}
	return all
}

// many: so many good labels, in order.
func many(n int) []api.Label {
	var all []api.Label
	for i := range n {
		all = append(all, api.Label{Name: fmt.Sprintf("l%02d", i), Value: fmt.Sprint(i)})
	}
	return all
}

// joined: labels as a line has them.
func joined(l []api.Label) string {
	var all []string
	for _, x := range l {
		all = append(all, x.Name+"="+x.Value)
	}
	return strings.Join(all, ",")
}

func long(n int) string {
	return strings.Repeat("x", n)
}

func TestP7_1Example(t *testing.T) {
	want := api.Event{Series: api.Series{Metric: "reqs", Labels: labels("code", "200")}, Kind: api.Count, Value: 2000000, Rate: 10, Time: 17, Source: "web", Seq: 3}
	line := "reqs:2|c|@10|#code=200|T17|Sweb.3"
	if got, e := drip.Parse(line); e != api.OK || !same(got, want) {
		t.Errorf("P7.1: Parse(%q): %+v, %d", line, got, e)
	}
	if got := drip.Print(want); got != line {
		t.Errorf("P7.1: Print: %q", got)
	}
}

func TestP7_1ParseEvents(t *testing.T) {
	plain := func(kind, value int, member string, rate int) api.Event {
		return api.Event{Series: api.Series{Metric: "a"}, Kind: kind, Value: value, Member: member, Rate: rate, Time: 1, Source: "b", Seq: 2}
	}
	for s, want := range map[string]api.Event{
		"a:1|c|T1|Sb.2":                    plain(1, 1000000, "", 1),
		"a:1|g|T1|Sb.2":                    plain(2, 1000000, "", 1),
		"a:1|ms|T1|Sb.2":                   plain(3, 1000000, "", 1),
		"a:1|s|T1|Sb.2":                    plain(4, 0, "1", 1),
		"a:-0|c|T1|Sb.2":                   plain(1, 0, "", 1),
		"a:0.000001|g|T1|Sb.2":             plain(2, 1, "", 1),
		"a:-000.100000|g|T1|Sb.2":          plain(2, -100000, "", 1),
		"a:999999999999.999999|c|T1|Sb.2":  plain(1, mostValue, "", 1),
		"a:-999999999999.999999|c|T1|Sb.2": plain(1, -mostValue, "", 1),
		"a:@1|s|T1|Sb.2":                   plain(4, 0, "@1", 1),
		"a:" + long(24) + "|s|T1|Sb.2":     plain(4, 0, long(24), 1),
		"a:1|c|@1|T1|Sb.2":                 plain(1, 1000000, "", 1),
		"a:1|c|@0001|T1|Sb.2":              plain(1, 1000000, "", 1),
		"a:1|c|@07|T1|Sb.2":                plain(1, 1000000, "", 7),
		"a:1|c|@999|T1|Sb.2":               plain(1, 1000000, "", 999),
		"a:1|ms|@1000|T1|Sb.2":             plain(3, 1000000, "", 1000),
		"a:1|c|T0000000000001|Sb.2":        plain(1, 1000000, "", 1),
		"a:1|c|T1|Sb.0000000000002":        plain(1, 1000000, "", 1),
	} {
		if got, e := drip.Parse(s); e != api.OK || !same(got, want) {
			t.Errorf("P7.1: Parse(%q): %+v, %d", s, got, e)
		}
		check(t, s)
	}
}

func TestP7_1EndsOfNumbers(t *testing.T) {
	for _, c := range []struct {
		line string
		want api.Errno
		of   func(e api.Event) int
		n    int
	}{
		{"a:1|c|T0|Sb.1", api.OK, when, 0},
		{"a:1|c|T1099511627775|Sb.1", api.OK, when, mostTime - 1},
		{"a:1|c|T1099511627776|Sb.1", api.OK, when, mostTime},
		{"a:1|c|T1099511627777|Sb.1", api.ErrTime, when, 0},
		{"a:1|c|T9999999999999|Sb.1", api.ErrTime, when, 0},
		{"a:1|c|T0000000000000|Sb.1", api.OK, when, 0},
		{"a:1|c|T00000000000000|Sb.1", api.ErrTime, when, 0},
		{"a:1|c|T00000000000001|Sb.1", api.ErrTime, when, 0},
		{"a:1|c|T01099511627776|Sb.1", api.ErrTime, when, 0},
		{"a:1|c|T99999999999999999999999999|Sb.1", api.ErrTime, when, 0},
		{"a:1|c|T1|Sb.0", api.ErrId, which, 0},
		{"a:1|c|T1|Sb.0000000000000", api.ErrId, which, 0},
		{"a:1|c|T1|Sb.1", api.OK, which, 1},
		{"a:1|c|T1|Sb.1099511627775", api.OK, which, mostTime - 1},
		{"a:1|c|T1|Sb.1099511627776", api.OK, which, mostTime},
		{"a:1|c|T1|Sb.1099511627777", api.ErrId, which, 0},
		{"a:1|c|T1|Sb.9999999999999", api.ErrId, which, 0},
		{"a:1|c|T1|Sb.00000000000001", api.ErrId, which, 0},
		{"a:1|c|T1|Sb.01099511627776", api.ErrId, which, 0},
		{"a:1|c|T1|Sb.18446744073709551617", api.ErrId, which, 0},
		{"a:1|c|@0|T1|Sb.1", api.ErrRange, rate, 0},
		{"a:1|c|@0000|T1|Sb.1", api.ErrRange, rate, 0},
		{"a:1|c|@1|T1|Sb.1", api.OK, rate, 1},
		{"a:1|c|@2|T1|Sb.1", api.OK, rate, 2},
		{"a:1|c|@0010|T1|Sb.1", api.OK, rate, 10},
		{"a:1|c|@0999|T1|Sb.1", api.OK, rate, 999},
		{"a:1|c|@1000|T1|Sb.1", api.OK, rate, 1000},
		{"a:1|c|@1001|T1|Sb.1", api.ErrRange, rate, 0},
		{"a:1|c|@9999|T1|Sb.1", api.ErrRange, rate, 0},
		{"a:1|c|@01000|T1|Sb.1", api.ErrRange, rate, 0},
		{"a:1|c|@00001|T1|Sb.1", api.ErrRange, rate, 0},
		{"a:1|c|@18446744073709551617|T1|Sb.1", api.ErrRange, rate, 0},
		{"a:1|ms|@1000|T1|Sb.1", api.OK, rate, 1000},
		{"a:1|ms|@1001|T1|Sb.1", api.ErrRange, rate, 0},
		{"a:1|g|@1|T1|Sb.1", api.ErrRange, rate, 0},
		{"a:1|g|@2|T1|Sb.1", api.ErrRange, rate, 0},
		{"a:1|s|@1|T1|Sb.1", api.ErrRange, rate, 0},
		{"a:1|s|@1000|T1|Sb.1", api.ErrRange, rate, 0},
		{"a:999999999999.999999|g|T1|Sb.1", api.OK, value, mostValue},
		{"a:-999999999999.999999|g|T1|Sb.1", api.OK, value, -mostValue},
		{"a:1000000000000|g|T1|Sb.1", api.ErrValue, value, 0},
		{"a:-1000000000000|g|T1|Sb.1", api.ErrValue, value, 0},
		{"a:0000000000001|g|T1|Sb.1", api.ErrValue, value, 0},
		{"a:0.0000001|g|T1|Sb.1", api.ErrValue, value, 0},
	} {
		got, e := drip.Parse(c.line)
		if e != c.want || c.of(got) != c.n {
			t.Errorf("P7.1: Parse(%q): %+v, %d, want %d, %d", c.line, got, e, c.n, c.want)
		}
		check(t, c.line)
	}
}

func when(e api.Event) int  { return e.Time }
func which(e api.Event) int { return e.Seq }
func rate(e api.Event) int  { return e.Rate }
func value(e api.Event) int { return e.Value }

func TestP7_1Errors(t *testing.T) {
	for s, want := range map[string]api.Errno{
		"":                                       api.ErrForm,
		"|":                                      api.ErrForm,
		"|||":                                    api.ErrForm,
		":||T|S":                                 api.ErrName,
		"|||T|S":                                 api.ErrForm,
		"a":                                      api.ErrForm,
		"a:1":                                    api.ErrForm,
		"a:1|c":                                  api.ErrForm,
		"a:1|T1|Sb.1":                            api.ErrForm,
		"a:1|c|T1":                               api.ErrForm,
		"a:1|c|Sb.1":                             api.ErrForm,
		"a:1|c|Sb.1|T1":                          api.ErrForm,
		"a:1|c|1|b.1":                            api.ErrForm,
		"a:1|c|t1|Sb.1":                          api.ErrForm,
		"a:1|c|T1|sb.1":                          api.ErrForm,
		"a:1|c| T1|Sb.1":                         api.ErrForm,
		"a1|c|T1|Sb.1":                           api.ErrForm,
		"a1|c:|T1|Sb.1":                          api.ErrForm,
		"a:1|c|T1|Sb.1|":                         api.ErrForm,
		"|a:1|c|T1|Sb.1":                         api.ErrForm,
		"a:1|c||T1|Sb.1":                         api.ErrForm,
		"a:1|c|x|T1|Sb.1":                        api.ErrForm,
		"a:1|c|T1|T1|Sb.1":                       api.ErrForm,
		"a:1|c|T1|Sb.1|Sb.1":                     api.ErrForm,
		"a:1|c|@1|@1|T1|Sb.1":                    api.ErrForm,
		"a:1|c|#b=1|#c=1|T1|Sb.1":                api.ErrForm,
		"a:1|c|#b=1|@1|T1|Sb.1":                  api.ErrForm,
		"a:1|c|@1|#b=1|@1|T1|Sb.1":               api.ErrForm,
		"a:1|c|@1|#b=1|x|T1|Sb.1":                api.ErrForm,
		"a:1|c|x|@1|#b=1|T1|Sb.1":                api.ErrForm,
		"a:1|c|@1|x|#b=1|T1|Sb.1":                api.ErrForm,
		"a:1|c|@1|#b=1|T1":                       api.ErrForm,
		"a:1|c|T1|@1|Sb.1":                       api.ErrForm,
		"a:1|@1|T1|Sb.1":                         api.ErrKind,
		":1|c|T1|Sb.1":                           api.ErrName,
		"A:1|c|T1|Sb.1":                          api.ErrName,
		"0a:1|c|T1|Sb.1":                         api.ErrName,
		".a:1|c|T1|Sb.1":                         api.ErrName,
		"a b:1|c|T1|Sb.1":                        api.ErrName,
		" a:1|c|T1|Sb.1":                         api.ErrName,
		long(24) + ":1|c|T1|Sb.1":                api.OK,
		long(25) + ":1|c|T1|Sb.1":                api.ErrName,
		"a.b:1|c|T1|Sb.1":                        api.OK,
		"a:1||T1|Sb.1":                           api.ErrKind,
		"a:1|C|T1|Sb.1":                          api.ErrKind,
		"a:1|m|T1|Sb.1":                          api.ErrKind,
		"a:1|cc|T1|Sb.1":                         api.ErrKind,
		"a:1|c |T1|Sb.1":                         api.ErrKind,
		"a:1|1|T1|Sb.1":                          api.ErrKind,
		"a:1|T1|T1|Sb.1":                         api.ErrKind,
		"a:1|#b=1|T1|Sb.1":                       api.ErrKind,
		"a:|c|T1|Sb.1":                           api.ErrValue,
		"a:+1|c|T1|Sb.1":                         api.ErrValue,
		"a:--1|c|T1|Sb.1":                        api.ErrValue,
		"a:1.|c|T1|Sb.1":                         api.ErrValue,
		"a:.1|g|T1|Sb.1":                         api.ErrValue,
		"a:x|ms|T1|Sb.1":                         api.ErrValue,
		"a:1:2|c|T1|Sb.1":                        api.ErrValue,
		"a::1|c|T1|Sb.1":                         api.ErrValue,
		"a:x:y|s|T1|Sb.1":                        api.ErrValue,
		"a:|s|T1|Sb.1":                           api.ErrValue,
		"a:x y|s|T1|Sb.1":                        api.ErrValue,
		"a:x=y|s|T1|Sb.1":                        api.ErrValue,
		"a:x#y|s|T1|Sb.1":                        api.ErrValue,
		"a:" + long(24) + "|s|T1|Sb.1":           api.OK,
		"a:" + long(25) + "|s|T1|Sb.1":           api.ErrValue,
		"a:ä|s|T1|Sb.1":                          api.ErrValue,
		"a:1|c|@|T1|Sb.1":                        api.ErrRange,
		"a:1|c|@-1|T1|Sb.1":                      api.ErrRange,
		"a:1|c|@+1|T1|Sb.1":                      api.ErrRange,
		"a:1|c|@1.0|T1|Sb.1":                     api.ErrRange,
		"a:1|c|@ 1|T1|Sb.1":                      api.ErrRange,
		"a:1|c|@x|T1|Sb.1":                       api.ErrRange,
		"a:1|c|@1@1|T1|Sb.1":                     api.ErrRange,
		"a:1|c|@1_0|T1|Sb.1":                     api.ErrRange,
		"a:1|g|@|T1|Sb.1":                        api.ErrRange,
		"a:1|c|#|T1|Sb.1":                        api.ErrTag,
		"a:1|c|#b|T1|Sb.1":                       api.ErrTag,
		"a:1|c|#b=|T1|Sb.1":                      api.ErrTag,
		"a:1|c|#=1|T1|Sb.1":                      api.ErrTag,
		"a:1|c|#=|T1|Sb.1":                       api.ErrTag,
		"a:1|c|#,|T1|Sb.1":                       api.ErrTag,
		"a:1|c|#b=1,|T1|Sb.1":                    api.ErrTag,
		"a:1|c|#,b=1|T1|Sb.1":                    api.ErrTag,
		"a:1|c|#b=1,,c=1|T1|Sb.1":                api.ErrTag,
		"a:1|c|#b=1=2|T1|Sb.1":                   api.ErrTag,
		"a:1|c|#b==1|T1|Sb.1":                    api.ErrTag,
		"a:1|c|#b:1|T1|Sb.1":                     api.ErrTag,
		"a:1|c|#b=1:2|T1|Sb.1":                   api.ErrTag,
		"a:1|c|##b=1|T1|Sb.1":                    api.ErrTag,
		"a:1|c|#B=1|T1|Sb.1":                     api.ErrTag,
		"a:1|c|#b.c=1|T1|Sb.1":                   api.ErrTag,
		"a:1|c|#b.=1|T1|Sb.1":                    api.ErrTag,
		"a:1|c|#b=1.5|T1|Sb.1":                   api.OK,
		"a:1|c|#b=@1,c=T1,d=Sb.1|T1|Sb.1":        api.OK,
		"a:1|c|#b=1,b=1|T1|Sb.1":                 api.ErrTag,
		"a:1|c|#b=1,c=1,b=2|T1|Sb.1":             api.ErrTag,
		"a:1|c|#" + long(24) + "=1|T1|Sb.1":      api.OK,
		"a:1|c|#" + long(25) + "=1|T1|Sb.1":      api.ErrTag,
		"a:1|c|#b=" + long(24) + "|T1|Sb.1":      api.OK,
		"a:1|c|#b=" + long(25) + "|T1|Sb.1":      api.ErrTag,
		"a:1|c|#" + joined(many(6)) + "|T1|Sb.1": api.OK,
		"a:1|c|#" + joined(many(7)) + "|T1|Sb.1": api.ErrTag,
		"a:1|c|#" + joined(many(9)) + "|T1|Sb.1": api.ErrTag,
		"a:1|c|T|Sb.1":                           api.ErrTime,
		"a:1|c|T-1|Sb.1":                         api.ErrTime,
		"a:1|c|T+1|Sb.1":                         api.ErrTime,
		"a:1|c|T1.0|Sb.1":                        api.ErrTime,
		"a:1|c|T1 |Sb.1":                         api.ErrTime,
		"a:1|c|TT1|Sb.1":                         api.ErrTime,
		"a:1|c|T0x1|Sb.1":                        api.ErrTime,
		"a:1|c|T1|S":                             api.ErrId,
		"a:1|c|T1|S.":                            api.ErrId,
		"a:1|c|T1|Sb":                            api.ErrId,
		"a:1|c|T1|Sb.":                           api.ErrId,
		"a:1|c|T1|S.1":                           api.ErrId,
		"a:1|c|T1|Sb..1":                         api.ErrId,
		"a:1|c|T1|Sb.c.1":                        api.ErrId,
		"a:1|c|T1|Sb.1.1":                        api.ErrId,
		"a:1|c|T1|SB.1":                          api.ErrId,
		"a:1|c|T1|S1.1":                          api.ErrId,
		"a:1|c|T1|Sb.-1":                         api.ErrId,
		"a:1|c|T1|Sb.x":                          api.ErrId,
		"a:1|c|T1|Sb.1 ":                         api.ErrId,
		"a:1|c|T1|Sb.1\n":                        api.ErrId,
		"a:1|c|T1|Sb.1\r":                        api.ErrId,
		"a:1|c|T1|S" + long(24) + ".1":           api.OK,
		"a:1|c|T1|S" + long(25) + ".1":           api.ErrId,
	} {
		if got, e := check(t, s); e != want || e != api.OK && !same(got, api.Event{}) {
			t.Errorf("P7.1: Parse(%q): %+v, %d, want %d", s, got, e, want)
		}
	}
}

// Of each part one that is wrong, from the back to the front: the error is told that the words name first.
func TestP7_1FirstErrorIsTold(t *testing.T) {
	parts := []string{"a", ":1", "|c", "|@10", "|#b=1", "|T1", "|Sb.1"}
	wrong := []struct {
		part int
		text string
		e    api.Errno
	}{
		{6, "|Sb", api.ErrId},
		{5, "|Tx", api.ErrTime},
		{4, "|#b", api.ErrTag},
		{3, "|@x", api.ErrRange},
		{1, ":x", api.ErrValue},
		{2, "|x", api.ErrKind},
		{0, "A", api.ErrName},
		{6, "|b", api.ErrForm},
	}
	for i := range wrong {
		for j := range i + 1 {
			// Those from j to i are wrong: the last of them in this list is told.
			l := slices.Clone(parts)
			for _, w := range wrong[j : i+1] {
				l[w.part] = w.text
			}
			line := strings.Join(l, "")
			if got, e := check(t, line); e != wrong[i].e || !same(got, api.Event{}) {
				t.Errorf("P7.1: Parse(%q): %+v, %d, want %d", line, got, e, wrong[i].e)
			}
		}
	}
	// Too long is told ahead of all, and a rate beside a Gauge behind the value, ahead of the labels.
	for s, want := range map[string]api.Errno{
		"A:" + long(240):         api.ErrForm,
		"a:x|g|@1|#|T1|Sb.1":     api.ErrValue,
		"a:1|g|@1|#|T1|Sb.1":     api.ErrRange,
		"a:x y|s|@1|#|T1|Sb.1":   api.ErrValue,
		"a:xy|s|@1|#|Tx|Sb":      api.ErrRange,
		"a:1|c|@1|#b,b|Tx|Sb":    api.ErrTag,
		"a:1|c|T1099511627777|S": api.ErrTime,
	} {
		if _, e := check(t, s); e != want {
			t.Errorf("P7.1: Parse(%q): %d, want %d", s, e, want)
		}
	}
}

func TestP7_1LabelsInAnyOrder(t *testing.T) {
	all := many(6)
	r := rand.New(rand.NewSource(1))
	for range 200 {
		l := slices.Clone(all)
		r.Shuffle(len(l), func(i, j int) { l[i], l[j] = l[j], l[i] })
		line := "a:1|c|#" + joined(l) + "|T1|Sb.1"
		if got, e := check(t, line); e != api.OK || !slices.Equal(got.Series.Labels, all) {
			t.Fatalf("P7.1: Parse(%q): %+v, %d", line, got, e)
		}
	}
}

// padded: a line of so many bytes, in which all is right but for its size, perhaps.
func padded(t *testing.T, size int) string {
	t.Helper()
	line := "a:1|c|#"
	for i := range 6 {
		line += fmt.Sprintf("%c%s=%s,", 'b'+i, long(19), long(15))
	}
	line = strings.TrimSuffix(line, ",") + "|T1|Sb.1"
	pad := size - len(line)
	if pad < 0 || pad > 12 {
		t.Fatalf("a line of %d bytes can't be %d long", len(line), size)
	}
	return strings.Replace(line, "a:1|", "a:"+strings.Repeat("0", pad)+"1|", 1)
}

func TestP7_1LineSize(t *testing.T) {
	for size, want := range map[int]api.Errno{239: api.OK, 240: api.OK, 241: api.ErrForm} {
		line := padded(t, size)
		if got, e := check(t, line); len(line) != size || e != want || (e == api.OK) != (got.Value == 1000000) {
			t.Errorf("P7.1: a line of %d bytes: %+v, %d, want %d", len(line), got, e, want)
		}
	}
	for _, size := range []int{241, 1000, 1 << 20} {
		if _, e := drip.Parse("A:" + long(size-2)); e != api.ErrForm {
			t.Errorf("P7.1: a line of %d bytes: %d", size, e)
		}
	}
}

func TestP7_1EachByteAtEachPlace(t *testing.T) {
	for _, line := range []string{"a:1|c|@2|#b=1|T1|Sb.1", "a:x|s|#b=1|T1|Sb.1", "a:-1.5|ms|T10|Sb.10"} {
		for at := range len(line) + 1 {
			check(t, line[:at])
			check(t, line[at:])
			for b := range 256 {
				check(t, line[:at]+string([]byte{byte(b)})+line[at:])
				if at < len(line) {
					check(t, line[:at]+string([]byte{byte(b)})+line[at+1:])
				}
			}
		}
	}
}

// choices: texts for each part of a line, right ones and wrong ones.
var choices = [][]string{
	{"a", "reqs", "a.b", long(24), long(25), "A", "", "a_0", "0"},
	{":1", ":-1.5", ":0.000001", ":999999999999.999999", ":-999999999999.999999", ":x", ":", ":1:2", "", ":007"},
	{"|c", "|c", "|g", "|ms", "|ms", "|s", "|", "|x", "", "|@1"},
	{"", "", "|@1", "|@10", "|@1000", "|@1001", "|@0", "|@0010", "|@00010", "|@", "|x", "|#c=2"},
	{"", "", "|#b=1", "|#z=1,b=2", "|#b=1,b=2", "|#b.c=1", "|#", "|#b", "|#" + joined(many(6)), "|#" + joined(many(7)), "|@1", "|"},
	{"|T1", "|T0", "|T1099511627776", "|T1099511627777", "|T0000000000001", "|T00000000000001", "|T", "|Tx", "", "|1", "|Sb.1"},
	{"|Sb.1", "|Sb_2.7", "|Sb.1099511627776", "|Sb.1099511627777", "|Sb.0", "|Sb.c.1", "|Sb", "|S.1", "", "|T1", "|Sb.1|"},
}

// anyLine: parts are right ones for the most part, so that errors behind the first ones are met, too.
func anyLine(r *rand.Rand) string {
	line := ""
	for _, c := range choices {
		if r.Intn(4) > 0 {
			line += c[r.Intn(2)]
		} else {
			line += c[r.Intn(len(c))]
		}
	}
	return line
}

func TestP7_1RandomLines(t *testing.T) {
	r := rand.New(rand.NewSource(7))
	met := map[api.Errno]int{}
	for range 100000 {
		_, e := check(t, anyLine(r))
		met[e]++
	}
	for _, e := range []api.Errno{api.OK, api.ErrForm, api.ErrName, api.ErrKind, api.ErrValue, api.ErrRange, api.ErrTag, api.ErrTime, api.ErrId} {
		if met[e] < 100 {
			t.Errorf("P7.1: error %d was met %d times alone", e, met[e])
		}
	}
}

func FuzzParse(f *testing.F) {
	for _, s := range []string{"", "reqs:2|c|@10|#code=200|T17|Sweb.3", "a.b:x/y|s|T1099511627776|Sb.1099511627776", "a:1|c|#b=1|@2|T1|Sb.1"} {
		f.Add(s)
	}
	f.Fuzz(func(t *testing.T, s string) { check(t, s) })
}

func TestP7_1Good(t *testing.T) {
	for name, c := range map[string]struct {
		e    api.Event
		want bool
	}{
		"a Count":                   {event(api.Count), true},
		"a Gauge":                   {event(api.Gauge), true},
		"a Timer":                   {event(api.Timer), true},
		"a Set":                     {event(api.Set), true},
		"none":                      {api.Event{}, false},
		"kind 0":                    {but(api.Count, func(e *api.Event) { e.Kind = 0 }), false},
		"kind 5":                    {but(api.Count, func(e *api.Event) { e.Kind = 5 }), false},
		"kind -1":                   {but(api.Count, func(e *api.Event) { e.Kind = -1 }), false},
		"the greatest kind":         {but(api.Count, func(e *api.Event) { e.Kind = math.MaxInt }), false},
		"the least kind":            {but(api.Count, func(e *api.Event) { e.Kind = math.MinInt }), false},
		"no labels":                 {but(api.Count, func(e *api.Event) { e.Series.Labels = nil }), true},
		"no metric":                 {but(api.Count, func(e *api.Event) { e.Series.Metric = "" }), false},
		"a metric with a dot":       {but(api.Count, func(e *api.Event) { e.Series.Metric = "a.b" }), true},
		"a metric, no name":         {but(api.Count, func(e *api.Event) { e.Series.Metric = "A" }), false},
		"labels out of order":       {but(api.Count, func(e *api.Event) { e.Series.Labels = labels("b", "1", "a", "2") }), false},
		"a label twice":             {but(api.Count, func(e *api.Event) { e.Series.Labels = labels("a", "1", "a", "2") }), false},
		"a label with a dot":        {but(api.Count, func(e *api.Event) { e.Series.Labels = labels("a.b", "1") }), false},
		"a label without value":     {but(api.Count, func(e *api.Event) { e.Series.Labels = labels("a", "") }), false},
		"six labels":                {but(api.Count, func(e *api.Event) { e.Series.Labels = many(6) }), true},
		"seven labels":              {but(api.Count, func(e *api.Event) { e.Series.Labels = many(7) }), false},
		"value 0":                   {but(api.Count, func(e *api.Event) { e.Value = 0 }), true},
		"the greatest value":        {but(api.Count, func(e *api.Event) { e.Value = mostValue }), true},
		"above the greatest value":  {but(api.Count, func(e *api.Event) { e.Value = mostValue + 1 }), false},
		"the least value":           {but(api.Timer, func(e *api.Event) { e.Value = -mostValue }), true},
		"below the least value":     {but(api.Timer, func(e *api.Event) { e.Value = -mostValue - 1 }), false},
		"the greatest int":          {but(api.Gauge, func(e *api.Event) { e.Value = math.MaxInt }), false},
		"the least int":             {but(api.Gauge, func(e *api.Event) { e.Value = math.MinInt }), false},
		"a Set's value":             {but(api.Set, func(e *api.Event) { e.Value = 1 }), false},
		"a Set's value below 0":     {but(api.Set, func(e *api.Event) { e.Value = -1 }), false},
		"a Set without member":      {but(api.Set, func(e *api.Event) { e.Member = "" }), false},
		"a Set's member, no value":  {but(api.Set, func(e *api.Event) { e.Member = "a b" }), false},
		"a Set's member of 24":      {but(api.Set, func(e *api.Event) { e.Member = long(24) }), true},
		"a Set's member of 25":      {but(api.Set, func(e *api.Event) { e.Member = long(25) }), false},
		"a Count's member":          {but(api.Count, func(e *api.Event) { e.Member = "x" }), false},
		"a Gauge's member":          {but(api.Gauge, func(e *api.Event) { e.Member = "x" }), false},
		"a Timer's member":          {but(api.Timer, func(e *api.Event) { e.Member = "x" }), false},
		"a Count's rate of 0":       {but(api.Count, func(e *api.Event) { e.Rate = 0 }), false},
		"a Count's rate of -1":      {but(api.Count, func(e *api.Event) { e.Rate = -1 }), false},
		"a Count's rate of 2":       {but(api.Count, func(e *api.Event) { e.Rate = 2 }), true},
		"a Count's rate of 1000":    {but(api.Count, func(e *api.Event) { e.Rate = 1000 }), true},
		"a Count's rate of 1001":    {but(api.Count, func(e *api.Event) { e.Rate = 1001 }), false},
		"a Timer's rate of 0":       {but(api.Timer, func(e *api.Event) { e.Rate = 0 }), false},
		"a Timer's rate of 1000":    {but(api.Timer, func(e *api.Event) { e.Rate = 1000 }), true},
		"a Timer's rate of 1001":    {but(api.Timer, func(e *api.Event) { e.Rate = 1001 }), false},
		"a Gauge's rate of 0":       {but(api.Gauge, func(e *api.Event) { e.Rate = 0 }), false},
		"a Gauge's rate of 2":       {but(api.Gauge, func(e *api.Event) { e.Rate = 2 }), false},
		"a Set's rate of 0":         {but(api.Set, func(e *api.Event) { e.Rate = 0 }), false},
		"a Set's rate of 2":         {but(api.Set, func(e *api.Event) { e.Rate = 2 }), false},
		"time 0":                    {but(api.Count, func(e *api.Event) { e.Time = 0 }), true},
		"time -1":                   {but(api.Count, func(e *api.Event) { e.Time = -1 }), false},
		"the greatest time":         {but(api.Count, func(e *api.Event) { e.Time = mostTime }), true},
		"above the greatest time":   {but(api.Count, func(e *api.Event) { e.Time = mostTime + 1 }), false},
		"no source":                 {but(api.Count, func(e *api.Event) { e.Source = "" }), false},
		"a source with a dot":       {but(api.Count, func(e *api.Event) { e.Source = "a.b" }), false},
		"a source, no name":         {but(api.Count, func(e *api.Event) { e.Source = "_a" }), false},
		"a source of 24":            {but(api.Count, func(e *api.Event) { e.Source = long(24) }), true},
		"a source of 25":            {but(api.Count, func(e *api.Event) { e.Source = long(25) }), false},
		"number 0":                  {but(api.Count, func(e *api.Event) { e.Seq = 0 }), false},
		"number -1":                 {but(api.Count, func(e *api.Event) { e.Seq = -1 }), false},
		"number 1":                  {but(api.Count, func(e *api.Event) { e.Seq = 1 }), true},
		"the greatest number":       {but(api.Count, func(e *api.Event) { e.Seq = mostTime }), true},
		"above the greatest number": {but(api.Count, func(e *api.Event) { e.Seq = mostTime + 1 }), false},
	} {
		if got := drip.Good(c.e); got != c.want {
			t.Errorf("P7.1: Good of %s: %v", name, got)
		}
		// Of one that isn't good nothing is promised, but that the call ends.
		drip.Print(c.e)
	}
}

func TestP7_1Print(t *testing.T) {
	for want, e := range map[string]api.Event{
		"m:1.5|c|#a=1,b=2|T7|Sweb.3":        event(api.Count),
		"m:1.5|g|#a=1,b=2|T7|Sweb.3":        event(api.Gauge),
		"m:1.5|ms|#a=1,b=2|T7|Sweb.3":       event(api.Timer),
		"m:x/y|s|#a=1,b=2|T7|Sweb.3":        event(api.Set),
		"m:1.5|c|T7|Sweb.3":                 but(api.Count, func(e *api.Event) { e.Series.Labels = nil }),
		"m:1.5|c|@2|T7|Sweb.3":              but(api.Count, func(e *api.Event) { e.Series.Labels, e.Rate = nil, 2 }),
		"m:1.5|ms|@1000|#a=1,b=2|T7|Sweb.3": but(api.Timer, func(e *api.Event) { e.Rate = 1000 }),
		"m:-0.000001|g|#a=1,b=2|T7|Sweb.3":  but(api.Gauge, func(e *api.Event) { e.Value = -1 }),
		"m:0|g|#a=1,b=2|T0|Sweb.1":          but(api.Gauge, func(e *api.Event) { e.Value, e.Time, e.Seq = 0, 0, 1 }),
		"m:999999999999.999999|g|#a=1,b=2|T1099511627776|Sweb.1099511627776": but(api.Gauge, func(e *api.Event) {
			e.Value, e.Time, e.Seq = mostValue, mostTime, mostTime
		}),
		"m:-999999999999.999999|c|#a=1,b=2|T7|Sweb.3": but(api.Count, func(e *api.Event) { e.Value = -mostValue }),
	} {
		if got := drip.Print(e); got != want {
			t.Errorf("P7.1: Print(%+v): %q, want %q", e, got, want)
		}
	}
}

// pick: one of these.
func pick[T any](r *rand.Rand, l ...T) T {
	return l[r.Intn(len(l))]
}

// text: so many of these bytes.
func text(r *rand.Rand, bytes string, least, most int) string {
	l := make([]byte, least+r.Intn(most-least+1))
	for i := range l {
		l[i] = bytes[r.Intn(len(bytes))]
	}
	return string(l)
}

// anyEvent: a good one, often with what stands at an end of its range.
func anyEvent(r *rand.Rand) api.Event {
	wide := pick(r, 3, 3, 24)
	e := api.Event{Kind: 1 + r.Intn(4), Rate: 1}
	e.Series.Metric = "m" + text(r, "a._0", 0, wide-1)
	taken := map[string]int{}
	for range r.Intn(7) {
		taken["a"+text(r, "ab_0", 0, wide-1)] = 1
	}
	for name := range taken {
		e.Series.Labels = append(e.Series.Labels, api.Label{Name: name, Value: text(r, "a1!~*[@TS.", 1, wide)})
	}
	slices.SortFunc(e.Series.Labels, func(a, b api.Label) int { return strings.Compare(a.Name, b.Name) })
	if e.Kind == api.Set {
		e.Member = text(r, "a1!~*[@TS.-", 1, wide)
	} else {
		e.Value = pick(r, 0, 1, -1, 1000000, -1500000, mostValue, -mostValue, r.Intn(mostValue), -r.Intn(mostValue))
	}
	if e.Kind == api.Count || e.Kind == api.Timer {
		e.Rate = pick(r, 1, 2, 999, 1000, 1+r.Intn(1000))
	}
	e.Time = pick(r, 0, 1, mostTime-1, mostTime, r.Intn(mostTime))
	e.Source = "s" + text(r, "st_0", 0, wide-1)
	e.Seq = pick(r, 1, 2, mostTime-1, mostTime, 1+r.Intn(mostTime))
	return e
}

func TestP7_2GoodEventsAreParsed(t *testing.T) {
	r := rand.New(rand.NewSource(2))
	for range 50000 {
		e := anyEvent(r)
		if !drip.Good(e) {
			t.Fatalf("P7.1: Good(%+v) is false", e)
		}
		line := drip.Print(e)
		if len(line) > 240 {
			continue
		}
		if got, x := check(t, line); x != api.OK || !same(got, e) {
			t.Fatalf("P7.2: Parse(%q): %+v, %d, want %+v", line, got, x, e)
		}
	}
}

// A good event's line may be longer than a line may be: it is printed, and not parsed.
func TestP7_2LongLines(t *testing.T) {
	e := event(api.Count)
	e.Series.Labels = nil
	for i := range 6 {
		e.Series.Labels = append(e.Series.Labels, api.Label{Name: string(rune('a'+i)) + long(16), Value: long(15)})
	}
	for n := 1; n <= 24; n++ {
		e.Source = long(n)
		line := drip.Print(e)
		got, x := drip.Parse(line)
		if !drip.Good(e) || len(line) <= 240 && (x != api.OK || !same(got, e)) || len(line) > 240 && (x != api.ErrForm || !same(got, api.Event{})) {
			t.Errorf("P7.2: Parse of %d bytes: %+v, %d", len(line), got, x)
		}
		if n == 1 && len(line) > 240 || n == 24 && len(line) <= 240 {
			t.Errorf("P7.2: a line of %d bytes doesn't go round the end", len(line))
		}
	}
}

func TestP7_2WhateverIsParsedIsGood(t *testing.T) {
	r := rand.New(rand.NewSource(3))
	for range 50000 {
		got, e := drip.Parse(anyLine(r))
		if e == api.OK != drip.Good(got) {
			t.Fatalf("P7.2: %+v, %d: good is %v", got, e, drip.Good(got))
		}
		if e != api.OK {
			continue
		}
		if again, x := drip.Parse(drip.Print(got)); x != api.OK || !same(again, got) {
			t.Fatalf("P7.2: Print(%+v): %q", got, drip.Print(got))
		}
	}
}

// told: what a sequence of lines gives, gone through till so many were given.
func told(l iter.Seq2[int, string], most int) []string {
	var all []string
	for n, line := range l {
		all = append(all, fmt.Sprint(n, " ", line))
		if len(all) == most {
			break
		}
	}
	return all
}

func TestP7_1LinesAndBatch(t *testing.T) {
	for s, want := range map[string][]string{
		"":                nil,
		"\n":              nil,
		"\n\n\n":          nil,
		"a":               {"1 a"},
		"a\n":             {"1 a"},
		"\na":             {"2 a"},
		"a\nb":            {"1 a", "2 b"},
		"a\n\nb\n":        {"1 a", "3 b"},
		"\n\na\n\n\nb\nc": {"3 a", "6 b", "7 c"},
		" \n\t":           {"1  ", "2 \t"},
		"a\r\nb\r":        {"1 a\r", "2 b\r"},
		"a\x00b\n\xff":    {"1 a\x00b", "2 \xff"},
		"a\na\na":         {"1 a", "2 a", "3 a"},
		long(300) + "\nb": {"1 " + long(300), "2 b"},
	} {
		if got := told(drip.Lines(s), math.MaxInt); !slices.Equal(got, want) {
			t.Errorf("P7.1: Lines(%q): %q, want %q", s, got, want)
		}
		var lines []string
		for _, w := range want {
			_, line, _ := strings.Cut(w, " ")
			lines = append(lines, line)
		}
		if got, e := drip.Batch(s); e != api.OK || !slices.Equal(got, lines) {
			t.Errorf("P7.1: Batch(%q): %q, %d, want %q", s, got, e, lines)
		}
	}
}

func TestP7_1BatchSize(t *testing.T) {
	for _, c := range []struct {
		s    string
		many int
		e    api.Errno
	}{
		{strings.Repeat("x\n", 19), 19, api.OK},
		{strings.Repeat("x\n", 20), 20, api.OK},
		{strings.Repeat("\nx", 20), 20, api.OK},
		{strings.Repeat("x\n", 20) + "\n\n", 20, api.OK},
		{strings.Repeat("x\n\n\n", 20), 20, api.OK},
		{strings.Repeat("\n", 1000) + strings.Repeat("x\n", 20), 20, api.OK},
		{strings.Repeat("x\n", 21), 0, api.ErrFull},
		{strings.Repeat("x\n", 20) + "x", 0, api.ErrFull},
		{strings.Repeat("x\n", 20) + "\n\n\nx\n", 0, api.ErrFull},
		{strings.Repeat("\nx", 21), 0, api.ErrFull},
		{strings.Repeat("x\n", 1000), 0, api.ErrFull},
	} {
		if got, e := drip.Batch(c.s); e != c.e || len(got) != c.many {
			t.Errorf("P7.1: Batch(%q): %d, %d, want %d, %d", c.s, len(got), e, c.many, c.e)
		}
	}
}

func TestP7_1RandomBatches(t *testing.T) {
	r := rand.New(rand.NewSource(4))
	for range 20000 {
		s := ""
		for range r.Intn(40) {
			s += pick(r, "\n", "\n", "x", "yy")
		}
		var lines, numbered []string
		for i, line := range strings.Split(s, "\n") {
			if line != "" {
				lines = append(lines, line)
				numbered = append(numbered, fmt.Sprint(i+1, " ", line))
			}
		}
		if got := told(drip.Lines(s), math.MaxInt); !slices.Equal(got, numbered) {
			t.Fatalf("P7.1: Lines(%q): %q, want %q", s, got, numbered)
		}
		want := api.OK
		if len(lines) > 20 {
			lines, want = nil, api.ErrFull
		}
		if got, e := drip.Batch(s); e != want || !slices.Equal(got, lines) {
			t.Fatalf("P7.1: Batch(%q): %q, %d, want %q, %d", s, got, e, lines, want)
		}
	}
}

func TestP8LinesEndWhenTold(t *testing.T) {
	all := []string{"2 a", "4 b", "5 c"}
	lines := drip.Lines("\na\n\nb\nc\n")
	for most := 1; most <= 3; most++ {
		asked := 0
		lines(func(n int, line string) bool {
			asked++
			return asked < most
		})
		if asked != most {
			t.Errorf("R9: %d lines were given, %d were asked for", asked, most)
		}
		if got := told(lines, most); !slices.Equal(got, all[:most]) {
			t.Errorf("R9: the first %d lines: %q", most, got)
		}
	}
	for range 3 {
		if got := told(lines, math.MaxInt); !slices.Equal(got, all) {
			t.Errorf("R9: again: %q", got)
		}
	}
	for n := range lines {
		if got := told(lines, math.MaxInt); !slices.Equal(got, all) {
			t.Errorf("R9: while it is gone through, at %d: %q", n, got)
		}
	}
}

func TestP7_3WhatIsHandedInStays(t *testing.T) {
	room := append(many(6), labels("spare", "room")...)
	for n := range 7 {
		e := event(api.Count)
		e.Series.Labels = room[:n]
		want := slices.Clone(room)
		good, line := drip.Good(e), drip.Print(e)
		if !good || !slices.Equal(room, want) {
			t.Errorf("P7.3: Good, Print of %d labels: %v, %q left %v", n, good, line, room)
		}
	}
	// Labels that are out of order are no good ones: they aren't put in order either.
	e := event(api.Count)
	e.Series.Labels = labels("b", "1", "a", "2")
	drip.Good(e)
	drip.Print(e)
	if !slices.Equal(e.Series.Labels, labels("b", "1", "a", "2")) {
		t.Errorf("P7.3: labels are now %v", e.Series.Labels)
	}
}

func TestP7_3AnswersAreNewMemory(t *testing.T) {
	line := "a:1|c|#z=1,b=2,c=3|T1|Sb.1"
	one, _ := drip.Parse(line)
	two, _ := drip.Parse(line)
	l := one.Series.Labels
	for i := range l[:cap(l)] {
		l[:cap(l)][i] = api.Label{Name: "changed"}
	}
	three, _ := drip.Parse(line)
	want := labels("b", "2", "c", "3", "z", "1")
	if !slices.Equal(two.Series.Labels, want) || !slices.Equal(three.Series.Labels, want) {
		t.Errorf("P7.3: Parse: %v, %v", two.Series.Labels, three.Series.Labels)
	}
	text := "a\nb\n\nc"
	first, _ := drip.Batch(text)
	second, _ := drip.Batch(text)
	for i := range first[:cap(first)] {
		first[:cap(first)][i] = "changed"
	}
	third, _ := drip.Batch(text)
	if !slices.Equal(second, []string{"a", "b", "c"}) || !slices.Equal(third, second) {
		t.Errorf("P7.3: Batch: %q, %q", second, third)
	}
}
