package source_test

import (
	"fmt"
	"slices"
	"strconv"
	"strings"
	"testing"

	"analemma/api"
	"analemma/fields"
	"analemma/sample"
	"analemma/source"
)

// The fields of a right line of each kind, as many as there may be.
var (
	ruleLine = strings.Fields("Rule US 1967 2006 - Oct lastSun 2:00 1:00 S")
	zoneLine = strings.Fields("Zone America/New_York -5:00 US E%sT 1967 Apr Sun>=1 2:00s")
	linkLine = strings.Fields("Link America/New_York Old")
	eraLine  = strings.Fields("-5:00 1:00 EDT 1999 Mar 8 0:00u")
)

// frame is a line among others: what stands ahead of it and behind it, the fewest and the most fields that it may have.
type frame struct {
	ahead  string
	line   []string
	behind string
	fewest int
}

// frames are a line of each kind in its place; what stands behind it is there if it has a year.
var frames = []frame{
	{"", ruleLine, "", 10},
	{"", zoneLine, "\n1:00 - X", 5},
	{"", linkLine, "", 3},
	{"Zone A 1:00 - X 1980\n", eraLine, "\n1:00 - X", 3},
	{"# first\n\nRule A 1 max - Jan 1 0 0 -\nZone Z/z 1:00 - %z 1980 Feb\n\n\t# an era\n", eraLine, "\n1:00 - X\n", 3},
}

// with is the frame's text with another line, and the number of that.
func (f frame) with(line string, n int) (string, int) {
	text, number := f.ahead+line, strings.Count(f.ahead, "\n")+1
	// An era has a year from one field behind the fewest on.
	if n > f.fewest {
		text += f.behind
	}
	return text, number
}

// joined is a line of fields, between two " where they must be, with a gap between them, and the byte at which each begins.
func joined(l []string, gap string) (string, []int) {
	line, places := "", []int{}
	for i, text := range l {
		if i > 0 {
			line += gap
		}
		places = append(places, len(line))
		if text == "" || strings.ContainsAny(text, " #") {
			text = `"` + text + `"`
		}
		line += text
	}
	return line, places
}

// changed are fields with another one at a place.
func changed(l []string, i int, text string) []string {
	m := slices.Clone(l)
	m[i] = text
	return m
}

// may tells whether a text may be a field.
func may(text string) bool {
	_, e := fields.Join([]string{text})
	return e == api.OK
}

// P10.1: lines of each kind with each number of fields, from one to two more than may be; what is wrong with the fields isn't asked ahead of that.
func TestParseCounts(t *testing.T) {
	for _, f := range frames {
		l := append(slices.Clone(f.line), "more", "x")
		for n := 1; n <= len(l); n++ {
			for _, gap := range []string{" ", "\t", " \t  "} {
				for _, tail := range []string{"", " ", "#", "\t # more x y"} {
					counted(t, f, l[:n], gap, tail)
					for i := 1; i < n; i++ {
						counted(t, f, changed(l[:n], i, "?"), gap, tail)
					}
				}
			}
		}
	}
}

// counted tries a frame with a line of so many fields.
func counted(t *testing.T, f frame, l []string, gap, tail string) {
	t.Helper()
	line, places := joined(l, gap)
	text, number := f.with(line+tail, len(l))
	switch {
	case len(l) < f.fewest:
		refused(t, text, fault(api.ErrFew, number, len(line+tail)))
	case len(l) > len(f.line):
		refused(t, text, fault(api.ErrMore, number, places[len(f.line)]))
	case slices.Contains(l, "?"):
		refused(t, text, fault(api.ErrForm, number, places[slices.Index(l, "?")]))
	case reads(t, text):
		t.Fatalf("%q is refused", text)
	}
}

// P10.1: each field of each kind of line wrong in turn, and the first of two that are wrong.
func TestParseFirstWrongField(t *testing.T) {
	for k, f := range frames {
		first := 1
		if k >= 3 {
			first = 0
		}
		for i := first; i < len(f.line); i++ {
			for _, one := range []string{"?", "", "a b", "#", "1:", "~"} {
				l := changed(f.line, i, one)
				line, places := joined(l, "  ")
				text, number := f.with(line, len(l))
				refused(t, text, fault(api.ErrForm, number, places[i]))
				for j := i + 1; j < len(l); j++ {
					for _, other := range []string{"?", "", "24:00", "13:00", "1:00", "-"} {
						line, places := joined(changed(l, j, other), " \t")
						text, number := f.with(line+" # x", len(l))
						refused(t, text, fault(api.ErrForm, number, places[i]))
					}
				}
			}
		}
	}
}

// P10.1: each field of each kind of line with texts of all kinds.
func TestParseEachField(t *testing.T) {
	texts := []string{
		"", "-", "--", "+", "_", "a", "A", "0", "1", "9", "10", "31", "32", "1990", "0001", "0000", "9999", "10000", "only", "max", "Only", "MAX", "Ever", "Jan", "jan", "December", "Ja",
		"lastSun", "Sun>=8", "Sun<=31", "Sun", "last", "2:00", "2:00s", "2:00u", "-2:00", "-2:00:01", "12:00", "12:00:01", "-12:00", "-12:00:01", "23:59:59", "24:00", "-24:00", "167:59:59", "168",
		"US", "US/A", "/", "a/", "/a", "a//b", "%s", "%z", "%", "%%", "%s%s", "A/B", "A/B/C", "E%sT", "%s/", "Rule", "Zone", "Link", "a_b", "a.b", "a b", "#", "~", "!", "Europe/Z\xfc",
		strings.Repeat("a", 8), strings.Repeat("a", 9), strings.Repeat("a", 20), strings.Repeat("a", 21), strings.Repeat("a", 40), strings.Repeat("a", 41),
	}
	for _, f := range frames {
		for i := range f.line {
			for _, text := range texts {
				line, _ := joined(changed(f.line, i, text), " ")
				whole, _ := f.with(line, len(f.line))
				reads(t, whole)
				if len(f.line) > f.fewest {
					reads(t, f.ahead+line)
				}
			}
		}
	}
}

// P10.1, written out: what is told first, and where.
func TestParseFaultsWrittenOut(t *testing.T) {
	for _, x := range []struct {
		text string
		want api.Fault
	}{
		{"rule A 1 max - Jan 1 0 0 -", fault(api.ErrWord, 1, 0)},
		{"RULE", fault(api.ErrWord, 1, 0)},
		{"Rules", fault(api.ErrWord, 1, 0)},
		{"R", fault(api.ErrWord, 1, 0)},
		{"\"\"", fault(api.ErrWord, 1, 0)},
		{"\"Rule \" A", fault(api.ErrWord, 1, 0)},
		{"\n# x\n  \tzone A", fault(api.ErrWord, 3, 3)},
		{"1:00 - X", fault(api.ErrWord, 1, 0)},
		{"Zone A 1:00 - X\n1:00 - X", fault(api.ErrWord, 2, 0)},
		{"Rule", fault(api.ErrFew, 1, 4)},
		{"  Rule  ", fault(api.ErrFew, 1, 8)},
		{"\"Rule\" # A 1", fault(api.ErrFew, 1, 12)},
		{"Link\n", fault(api.ErrFew, 1, 4)},
		{"Link A", fault(api.ErrFew, 1, 6)},
		{"Link A B C", fault(api.ErrMore, 1, 9)},
		{"Link A B \"\"", fault(api.ErrMore, 1, 9)},
		{"Link ? B C D", fault(api.ErrMore, 1, 9)},
		{"Zone", fault(api.ErrFew, 1, 4)},
		{"Zone A", fault(api.ErrFew, 1, 6)},
		{"Zone A 1:00 -", fault(api.ErrFew, 1, 13)},
		{"Zone A 1:00 - X 1990 Jan 1 0 0", fault(api.ErrMore, 1, 29)},
		{"Zone A 1:00 - X 1990\nB", fault(api.ErrFew, 2, 1)},
		{"Zone A 1:00 - X 1990\n1:00 - X 1991 Jan 1 0 0", fault(api.ErrMore, 2, 22)},
		{"Rule A 1 max - Jan 1 0 0", fault(api.ErrFew, 1, 24)},
		{"Rule A 1 max - Jan 1 0 0 - -", fault(api.ErrMore, 1, 27)},
		{"Rule 1A 1 max - Jan 1 0 0 -", fault(api.ErrForm, 1, 5)},
		{"Rule A only max - Jan 1 0 0 -", fault(api.ErrForm, 1, 7)},
		{"Rule A 1 ever - Jan 1 0 0 -", fault(api.ErrForm, 1, 9)},
		{"Rule A 1 max + Jan 1 0 0 -", fault(api.ErrForm, 1, 13)},
		{"Rule A 1 max -- Jan 1 0 0 -", fault(api.ErrForm, 1, 13)},
		{"Rule A 1 max \"\" Jan 1 0 0 -", fault(api.ErrForm, 1, 13)},
		{"Rule A 1 max - 1 1 0 0 -", fault(api.ErrForm, 1, 15)},
		{"Rule A 1 max - Jan 32 0 0 -", fault(api.ErrForm, 1, 19)},
		{"Rule A 1 max - Jan 1 0d 0 -", fault(api.ErrForm, 1, 21)},
		{"Rule A 1 max - Jan 1 24:00 24:00 -", fault(api.ErrOffset, 1, 27)},
		{"Rule A 1 max - Jan 1 0 0s -", fault(api.ErrForm, 1, 23)},
		{"Rule A 1 max - Jan 1 0 12:01 ?", fault(api.ErrOffset, 1, 23)},
		{"Rule A 1 max - Jan 1 0 0 ?", fault(api.ErrForm, 1, 25)},
		{"Rule A 1 max - Jan 1 ? 12:01 ?", fault(api.ErrForm, 1, 21)},
		{"Zone A/ 24 - X", fault(api.ErrForm, 1, 5)},
		{"Zone A 24 - X", fault(api.ErrOffset, 1, 7)},
		{"Zone A 24 A? X", fault(api.ErrOffset, 1, 7)},
		{"Zone A 1s A? X", fault(api.ErrForm, 1, 7)},
		{"Zone A 1:00 A? X", fault(api.ErrForm, 1, 12)},
		{"Zone A 1:00 13:00 ?", fault(api.ErrOffset, 1, 12)},
		{"Zone A 1:00 - ? 0", fault(api.ErrForm, 1, 14)},
		{"Zone A 1:00 - X 0 ?", fault(api.ErrForm, 1, 16)},
		{"Zone A 1:00 - X only", fault(api.ErrForm, 1, 16)},
		{"Zone A 1:00 - X max", fault(api.ErrForm, 1, 16)},
		{"Zone A 1:00 - X 1990 J", fault(api.ErrForm, 1, 21)},
		{"Zone A 1:00 - X 1990 Jan 0 ?", fault(api.ErrForm, 1, 25)},
		{"Zone A 1:00 - X 1990 Jan 1 168", fault(api.ErrForm, 1, 27)},
		{"Zone A 1:00 - X 1990\n\n 24:00 ? ?", fault(api.ErrOffset, 3, 1)},
		{"Link A/ B/", fault(api.ErrForm, 1, 5)},
		{"Link A B/", fault(api.ErrForm, 1, 7)},
		{"Link A \"B \"", fault(api.ErrForm, 1, 7)},
	} {
		refused(t, x.text, x.want)
	}
}

// P10.1, written out: what right texts mean.
func TestParseWrittenOut(t *testing.T) {
	oct := api.Spot{Month: 10, Kind: api.OnLast, Weekday: 7, Time: 7200, Ref: api.Standard}
	apr := api.Spot{Month: 4, Kind: api.OnAfter, Weekday: 7, Day: 1, Time: -3600}
	jan := api.Spot{Month: 1, Day: 1}
	text := "# all\n" +
		"Rule\tUS  1967 2006 - Oct lastSun 2:00s 0 S\n" +
		"Rule \"US\" 0024 only - apr SUNDAY>=01 -1:00 -12:00 - # no letter\n" +
		"\n" +
		"Link A/b New\n" +
		"Zone A/b -4:56:02 - LMT 1883 Nov 18 12:03:58u\n" +
		"  # still A/b\n" +
		"-5:00 1:00 EST/EDT 1967\n" +
		"\t-5:00 US E%sT 1999 oct\n" +
		"-5:00 US E%sT 2000 oct lastSun\n" +
		"0 - %z\n" +
		"Rule _9- 9999 max - Jan 1 - 12 ++--\n" +
		"Zone -1 23:59:59 -0:30 X\n" +
		"Link +_-/0 A"
	want := api.Source{
		Rules: []api.Rule{
			{Name: "US", From: 1967, To: 2006, Spot: oct, Save: 0, Letter: "S"},
			{Name: "US", From: 24, To: 24, Spot: apr, Save: -43200, Letter: ""},
			{Name: "_9-", From: 9999, To: api.Ever, Spot: jan, Save: 43200, Letter: "++--"},
		},
		Zones: []api.Zone{
			{Name: "A/b", Eras: []api.Era{
				{Offset: -17762, Kind: api.SaveNone, Format: "LMT", Until: true, Year: 1883, Spot: api.Spot{Month: 11, Day: 18, Time: 43438, Ref: api.Universal}},
				{Offset: -18000, Kind: api.SaveFixed, Save: 3600, Format: "EST/EDT", Until: true, Year: 1967, Spot: jan},
				{Offset: -18000, Kind: api.SaveRules, Rules: "US", Format: "E%sT", Until: true, Year: 1999, Spot: api.Spot{Month: 10, Day: 1}},
				{Offset: -18000, Kind: api.SaveRules, Rules: "US", Format: "E%sT", Until: true, Year: 2000, Spot: api.Spot{Month: 10, Kind: api.OnLast, Weekday: 7}},
				{Offset: 0, Kind: api.SaveNone, Format: "%z"},
			}},
			{Name: "-1", Eras: []api.Era{{Offset: 86399, Kind: api.SaveFixed, Save: -1800, Format: "X"}}},
		},
		Links: []api.Link{{Target: "A/b", Name: "New"}, {Target: "+_-/0", Name: "A"}},
	}
	for _, text := range []string{text, text + "\n", text + "\n\n", text + " # end\n#"} {
		if s, f := source.Parse(text); f != fine || !sample.Same(s, want) {
			t.Fatalf("%v, %v", s, f)
		}
		reads(t, text)
	}
	for _, text := range []string{"", "\n", "\n\n\n", " ", "#", "# Rule", "\t\n #\n"} {
		if s, f := source.Parse(text); f != fine || !sample.Same(s, api.Source{}) {
			t.Fatalf("Parse(%q): %v, %v", text, s, f)
		}
		reads(t, text)
	}
}

// P10.1: years of no to five digits, noughts ahead, 0 itself, only and max, in FROM, in TO and of eras.
func TestParseYears(t *testing.T) {
	texts := []string{
		"", "only", "max", "Only", "ONLY", "MAX", "onl", "onlyy", "o", "ma", "maxi", "maximum", "min", "minimum", "Ever", "only ", " max", "-", "+1", "-1", " 1", "1 ", "1a", "a1", "0x1", "1_0", "1e3", "1.0", "1.", ".1",
		"12:00", "1900s", "000001", "1000000", "9999999", "4294967297", "18446744073709551617", "18446744073709551616", strings.Repeat("0", 300) + "1",
	}
	for _, n := range []int{0, 1, 2, 9, 10, 11, 99, 100, 101, 199, 999, 1000, 1001, 1990, 2037, 9998, 9999, 10000, 10001, 11990, 65537, 99999} {
		for width := 1; width <= 6; width++ {
			texts = append(texts, fmt.Sprintf("%0*d", width, n))
		}
	}
	for _, from := range texts {
		yearTried(t, from)
		for _, to := range []string{from, "1990", "0001", "only", "max", "0"} {
			line, _ := joined([]string{"Rule", "A", from, to, "-", "Jan", "1", "0", "0", "-"}, " ")
			reads(t, line)
			line, _ = joined([]string{"Rule", "A", to, from, "-", "Jan", "1", "0", "0", "-"}, " ")
			reads(t, line)
		}
	}
}

// yearTried tries a text as each of the three years.
func yearTried(t *testing.T, text string) {
	t.Helper()
	n, err := strconv.Atoi(text)
	digits := err == nil && strings.Trim(text, "0123456789") == ""
	ok := digits && len(text) <= 4 && n > 0
	field, _ := joined([]string{text}, "")
	s, f := source.Parse("Rule A " + field + " max - Jan 1 0 0 -")
	if ok && (f != fine || s.Rules[0].From != n) || !ok && f != fault(api.ErrForm, 1, 7) {
		t.Fatalf("FROM %q: %v, %v", text, s, f)
	}
	s, f = source.Parse("Zone A 0 - X " + field + "\n0 - X")
	if ok && (f != fine || s.Zones[0].Eras[0].Year != n) || !ok && f != fault(api.ErrForm, 1, 13) {
		t.Fatalf("YEAR %q: %v, %v", text, s, f)
	}
	s, f = source.Parse("Rule A 1234 " + field + " - Jan 1 0 0 -")
	switch {
	case text == "only":
		n, ok = 1234, true
	case text == "max":
		n, ok = 1000000, true
	}
	if ok && (f != fine || s.Rules[0].To != n) || !ok && f != fault(api.ErrForm, 1, 12) {
		t.Fatalf("TO %q: %v, %v", text, s, f)
	}
}

// P10.1, written out: savings and offsets of each sign at their greatest and just beyond.
func TestParseSeconds(t *testing.T) {
	for _, x := range []struct {
		text           string
		n              int
		saving, offset api.Errno
	}{
		{"0", 0, api.OK, api.OK}, {"-0", 0, api.OK, api.OK}, {"0:00", 0, api.OK, api.OK}, {"1", 3600, api.OK, api.OK}, {"-1:30", -5400, api.OK, api.OK}, {"0:00:01", 1, api.OK, api.OK}, {"012:00", 43200, api.OK, api.OK},
		{"11:59:59", 43199, api.OK, api.OK}, {"12", 43200, api.OK, api.OK}, {"12:00:00", 43200, api.OK, api.OK}, {"-11:59:59", -43199, api.OK, api.OK}, {"-12:00", -43200, api.OK, api.OK},
		{"12:00:01", 43201, api.ErrOffset, api.OK}, {"-12:00:01", -43201, api.ErrOffset, api.OK}, {"13", 46800, api.ErrOffset, api.OK}, {"-13:00", -46800, api.ErrOffset, api.OK},
		{"23:59:59", 86399, api.ErrOffset, api.OK}, {"-23:59:59", -86399, api.ErrOffset, api.OK},
		{"24", 0, api.ErrOffset, api.ErrOffset}, {"-24:00", 0, api.ErrOffset, api.ErrOffset}, {"24:00:01", 0, api.ErrOffset, api.ErrOffset}, {"167:59:59", 0, api.ErrOffset, api.ErrOffset}, {"-167:59:59", 0, api.ErrOffset, api.ErrOffset},
		{"168", 0, api.ErrForm, api.ErrForm}, {"+1", 0, api.ErrForm, api.ErrForm}, {"1:0", 0, api.ErrForm, api.ErrForm}, {"1:60", 0, api.ErrForm, api.ErrForm}, {"1s", 0, api.ErrForm, api.ErrForm}, {"1:00w", 0, api.ErrForm, api.ErrForm},
		{"24u", 0, api.ErrForm, api.ErrForm}, {"--1", 0, api.ErrForm, api.ErrForm}, {"1:00:00:00", 0, api.ErrForm, api.ErrForm}, {"0001", 0, api.ErrForm, api.ErrForm}, {"\"\"", 0, api.ErrForm, api.ErrForm}, {"\" 1\"", 0, api.ErrForm, api.ErrForm},
	} {
		told := func(what, text string, at int, e api.Errno, number func(s api.Source) int) {
			t.Helper()
			reads(t, text)
			s, f := source.Parse(text)
			if e != api.OK && f != fault(e, 1, at) || e == api.OK && (f != fine || number(s) != x.n) {
				t.Errorf("%s %s: %v, %v", what, x.text, s, f)
			}
		}
		told("SAVE", "Rule A 1 max - Jan 1 0 "+x.text+" -", 23, x.saving, func(s api.Source) int { return s.Rules[0].Save })
		told("RULES", "Zone A 1:00 "+x.text+" X", 12, x.saving, func(s api.Source) int { return s.Zones[0].Eras[0].Save })
		told("OFFSET", "Zone A "+x.text+" 0 X", 7, x.offset, func(s api.Source) int { return s.Zones[0].Eras[0].Offset })
	}
	// - is 0, but as RULES nothing.
	s, f := source.Parse("Rule A 1 max - Jan 1 0 - -\nZone A - - X\n")
	if f != fine || s.Rules[0].Save != 0 || s.Zones[0].Eras[0] != (api.Era{Kind: api.SaveNone, Format: "X"}) {
		t.Error(s, f)
	}
}

// P10.1: LETTER's texts of each length from none to nine, each byte at each place.
func TestParseLetters(t *testing.T) {
	for _, x := range []struct {
		text, letter string
		ok           bool
	}{
		{"-", "", true}, {"--", "--", true}, {"+", "+", true}, {"S", "S", true}, {"9", "9", true}, {"-S", "-S", true}, {"S-", "S-", true}, {"max", "max", true}, {"DST", "DST", true}, {"+0330", "+0330", true}, {"abcdEFG8", "abcdEFG8", true}, {"--------", "--------", true},
		{"\"\"", "", false}, {"\"-\"", "", true}, {"abcdEFG89", "", false}, {"---------", "", false}, {"_", "", false}, {"A_", "", false}, {"%s", "", false}, {"A/B", "", false}, {"A.", "", false}, {"\"A B\"", "", false}, {"\" \"", "", false}, {"\"-#\"", "", false},
	} {
		s, f := source.Parse("Rule A 1 max - Jan 1 0 0 " + x.text)
		if x.ok && (f != fine || s.Rules[0].Letter != x.letter) || !x.ok && f != fault(api.ErrForm, 1, 25) {
			t.Errorf("LETTER %s: %v, %v", x.text, s, f)
		}
	}
	for n := range 12 {
		for _, of := range []string{"S", "z", "0", "+", "-", "_", "/"} {
			fieldTried(t, ruleLine, 9, strings.Repeat(of, n))
		}
		sample.Spoiled("Ab+-9Z0a-+x"[:min(n, 11)], func(text string) { fieldTried(t, ruleLine, 9, text) })
	}
	sample.Every("S-+_", 5, func(text string) { fieldTried(t, ruleLine, 9, text) })
}

// fieldTried tries a line with another field at a place, if it may be one.
func fieldTried(t *testing.T, l []string, i int, text string) {
	t.Helper()
	if may(text) {
		line, _ := joined(changed(l, i, text), " ")
		reads(t, line)
	}
}

// P10.1: RULES of each of its three kinds.
func TestParseRules(t *testing.T) {
	for _, x := range []struct {
		text string
		era  api.Era
		e    api.Errno
	}{
		{"-", api.Era{Kind: api.SaveNone}, api.OK},
		{"\"-\"", api.Era{Kind: api.SaveNone}, api.OK},
		{"US", api.Era{Kind: api.SaveRules, Rules: "US"}, api.OK},
		{"_", api.Era{Kind: api.SaveRules, Rules: "_"}, api.OK},
		{"a-9_", api.Era{Kind: api.SaveRules, Rules: "a-9_"}, api.OK},
		{"Zone", api.Era{Kind: api.SaveRules, Rules: "Zone"}, api.OK},
		{strings.Repeat("z", 20), api.Era{Kind: api.SaveRules, Rules: strings.Repeat("z", 20)}, api.OK},
		{"0", api.Era{Kind: api.SaveFixed}, api.OK},
		{"-0", api.Era{Kind: api.SaveFixed}, api.OK},
		{"1:00", api.Era{Kind: api.SaveFixed, Save: 3600}, api.OK},
		{"-0:00:01", api.Era{Kind: api.SaveFixed, Save: -1}, api.OK},
		{"12:00", api.Era{Kind: api.SaveFixed, Save: 43200}, api.OK},
		{"12:00:01", api.Era{}, api.ErrOffset},
		{"-24", api.Era{}, api.ErrOffset},
		{"--", api.Era{}, api.ErrForm},
		{"-US", api.Era{}, api.ErrForm},
		{"+", api.Era{}, api.ErrForm},
		{"1US", api.Era{}, api.ErrForm},
		{"\"\"", api.Era{}, api.ErrForm},
		{"\" US\"", api.Era{}, api.ErrForm},
		{"\"US \"", api.Era{}, api.ErrForm},
		{"US/A", api.Era{}, api.ErrForm},
		{"US+", api.Era{}, api.ErrForm},
		{strings.Repeat("z", 21), api.Era{}, api.ErrForm},
		{"1:00s", api.Era{}, api.ErrForm},
		{"168", api.Era{}, api.ErrForm},
	} {
		for line, text := range []string{"Zone A 1:00 " + x.text + " X", "Zone A 1:00 - X 1990\n" + "       1:00 " + x.text + " X"} {
			reads(t, text)
			want := x.era
			want.Offset, want.Format = 3600, "X"
			s, f := source.Parse(text)
			if x.e != api.OK && f != fault(x.e, line+1, 12) || x.e == api.OK && (f != fine || s.Zones[0].Eras[line] != want) {
				t.Errorf("RULES %s: %v, %v", x.text, s, f)
			}
		}
	}
	for _, text := range []string{"", "-", "A", "_b", "1:00", "-1", strings.Repeat("a", 19), strings.Repeat("a", 20), "12:00:00"} {
		sample.Spoiled(text, func(text string) { fieldTried(t, zoneLine[:5], 3, text) })
	}
}

// P10.1: FORMATs with none, one and two %, each letter behind it, / at each place and twice.
func TestParseFormats(t *testing.T) {
	for text, ok := range map[string]bool{
		"X": true, "-": true, "+": true, "9": true, "-00": true, "+0330": true, "%s": true, "%z": true, "E%sT": true, "E%s": true, "%sT": true, "+%z-": true, "A/B": true, "-/+": true, "EST/EDT": true, "%ss": true, "%szs": true, "%zz": true, "s%s": true,
		"": false, "%": false, "E%": false, "%S": false, "%Z": false, "%d": false, "%a": false, "%-": false, "%%": false, "%%s": false, "%s%": false, "%s%s": false, "%s%z": false, "%sT%z": false, "%/": false, "%s/": false, "/%s": false, "A/%s": false, "%s/B": false, "A/%z": false, "A/B%s": false, "%+s": false,
		"/": false, "//": false, "/A": false, "A/": false, "A//B": false, "A/B/C": false, "A/B/": false, "/A/B": false, "E_T": false, "E.T": false, "E T": false, " X": false, "X ": false, "#": false, "X#": false, "~": false,
		strings.Repeat("A", 20): true, strings.Repeat("A", 21): false, "A/" + strings.Repeat("B", 18): true, "A/" + strings.Repeat("B", 19): false, strings.Repeat("B", 18) + "/A": true, strings.Repeat("B", 19) + "/A": false,
		"%s" + strings.Repeat("B", 18): true, "%s" + strings.Repeat("B", 19): false, strings.Repeat("B", 18) + "%z": true, strings.Repeat("B", 19) + "%z": false, strings.Repeat("B", 19) + "%": false,
	} {
		field, _ := joined([]string{text}, "")
		s, f := source.Parse("Zone A 1:00 - " + field)
		if ok && (f != fine || s.Zones[0].Eras[0].Format != text) || !ok && f != fault(api.ErrForm, 1, 14) {
			t.Errorf("FORMAT %q: %v, %v", text, s, f)
		}
	}
	sample.Every("%sz/A", 6, func(text string) { fieldTried(t, zoneLine[:5], 4, text) })
	for _, text := range []string{"", "%", "E%sT", "%z", "EST/EDT", "X", "A%", "%s%s", "A/%s", strings.Repeat("A", 19), strings.Repeat("A", 20), "%s" + strings.Repeat("A", 17), "A/" + strings.Repeat("A", 17)} {
		sample.Spoiled(text, func(text string) { fieldTried(t, zoneLine[:5], 4, text) })
	}
}

// P10.1: eras with and without a year, with none to four texts behind it, at each place of a zone.
func TestParseEras(t *testing.T) {
	ends := []string{"", " 1990", " 1990 Oct", " 1990 Oct lastSun", " 1990 Oct lastSun 2:00s", " 1990 Oct lastSun 2:00s 0", " Oct", " 1990 lastSun", " 1990 Oct 2:00s"}
	for _, a := range ends {
		for _, b := range ends {
			for _, c := range ends {
				text := "Zone A 1:00 - X" + a + "\n2:00 US Y" + b + "\n3:00 1:00 Z" + c
				reads(t, text)
				reads(t, text+"\n")
				reads(t, text+"\n4:00 - V\nLink A B")
				reads(t, text+"\nLink A B\n")
			}
		}
	}
}

// P10.1, written out: an era's further lines, whatever their first field is, and what stands between them.
func TestParseFurtherEras(t *testing.T) {
	zone := "Zone A 1:00 - X 1990\n"
	for _, word := range []string{"Rule", "Zone", "Link", "rule", "\"Rule\"", "\"\"", "?"} {
		refused(t, zone+word, fault(api.ErrFew, 2, len(word)))
		refused(t, zone+word+" A", fault(api.ErrFew, 2, len(word)+2))
		refused(t, zone+"\n"+word+" A B", fault(api.ErrForm, 3, 0))
		refused(t, zone+"# x\n \n"+word+" A B C D E F", fault(api.ErrForm, 4, 0))
		refused(t, zone+word+" A B C D E F G", fault(api.ErrMore, 2, len(word)+13))
	}
	refused(t, zone+"Rule A 1 max - Jan 1 0 0 -", fault(api.ErrMore, 2, 21))
	refused(t, zone+"Zone B 1:00 - X", fault(api.ErrForm, 2, 0))
	refused(t, zone+"Link A B", fault(api.ErrForm, 2, 0))
	for _, between := range []string{"", "\n", "# Rule A\n", "\t \n\n  # x\n", strings.Repeat("\n", 1000)} {
		text := zone + between + "2:00 - Y 1991\n" + between + "  3:00 - Z\n" + between + "Link A B"
		s, f := source.Parse(text)
		if f != fine || len(s.Zones) != 1 || len(s.Zones[0].Eras) != 3 || s.Zones[0].Eras[2].Format != "Z" || len(s.Links) != 1 {
			t.Errorf("%q: %v, %v", between, s, f)
		}
		reads(t, text)
	}
}

// P10.1, written out: a zone whose next era isn't there, at the text's end.
func TestParseEraNotThere(t *testing.T) {
	for _, x := range []struct {
		text string
		line int
	}{
		{"Zone A 1:00 US C%sT 1990", 2}, {"Zone A 1:00 US C%sT 1990\n", 2}, {"Zone A 1:00 US C%sT 1990 # x", 2}, {"Zone A 1:00 US C%sT 1990\n\n", 3}, {"Zone A 1:00 US C%sT 1990\n ", 3}, {"Zone A 1:00 US C%sT 1990\n#\n", 3},
		{"\n\nZone A 1:00 US C%sT 1990", 4}, {"Zone A 1:00 - X 1990\n2:00 - Y 1991 Oct", 3}, {"Zone A 1:00 - X 1990\n2:00 - Y 1991 Oct\n", 3}, {"Link A B\nZone A 1:00 - X 1990\n\n2:00 - Y 1991\n\n# x\n\n", 8},
		{"Zone B 1:00 - X\nZone A 1:00 - X 1990", 3}, {"Zone A 1:00 - X 1990" + strings.Repeat("\n", 99980), 99981},
	} {
		refused(t, x.text, fault(api.ErrFew, x.line, 0))
	}
}

// times are so many lines of a rule.
func times(n int, line string) string { return strings.Repeat(line+"\n", n) }

// P10.1: as many rules, zones, links and eras as may be, and one more.
func TestParseAsManyAsMayBe(t *testing.T) {
	rule, zone, link := "Rule A 1 max - Jan 1 0 0 -", "Zone A 0 - X", "Link A B"
	eras := "Zone A 0 - X 1\n" + times(38, "0 - X 2") // 39 of them, the last one not there yet
	for _, x := range []struct {
		text, more string
		lines      int
	}{
		{times(200, rule), rule, 200}, {times(50, zone), zone, 50}, {times(100, link), link, 100}, {eras + "0 - X 3\n", "0 - X", 40},
	} {
		full := x.text
		if x.lines == 40 {
			// With a year behind it the fortieth era asks for a further one.
			refused(t, full, fault(api.ErrFew, 41, 0))
			if reads(t, eras+"0 - X\n"+zone+"\n"+rule) {
				t.Error("forty eras are refused")
			}
		} else if reads(t, full) || reads(t, full+"\n#\n") {
			t.Errorf("%d of %q are refused", x.lines, x.more)
		}
		first := strings.Fields(x.more)[0]
		for _, more := range []string{x.more, x.more + " x", first, first + " ? ? ?", x.more + " x x x x x x"} {
			refused(t, full+more, fault(api.ErrMany, x.lines+1, 0))
			refused(t, full+"\n# x\n \t"+more+"\n?", fault(api.ErrMany, x.lines+3, 2))
		}
		// What layer 8 tells comes first.
		refused(t, full+x.more+" \x01", fault(api.ErrForm, x.lines+1, len(x.more)+1))
		refused(t, full+x.more+strings.Repeat(" ", 500), fault(api.ErrMany, x.lines+1, 500))
	}
	all := times(200, rule) + times(100, link) + times(49, zone) + eras + "0 - X\n"
	if reads(t, all) {
		t.Error("all at once are refused")
	}
	for _, more := range []string{rule, zone, link} {
		refused(t, all+more, fault(api.ErrMany, 200+100+49+40+1, 0))
	}
	refused(t, all+"A", fault(api.ErrWord, 390, 0))
	// Each zone has its own eras.
	if text := strings.Repeat(eras+"0 - X\n", 50); reads(t, text) {
		t.Error("forty eras of fifty zones are refused")
	}
}

// P10.1: texts of 100000 bytes and of one more, whatever stands in them.
func TestParseLongTexts(t *testing.T) {
	for _, fill := range []string{"\n", " \n", "#\n", "\t# x\n", strings.Repeat("#", 500) + "\n"} {
		for _, text := range []string{"", "Link A B\n", "?\n", "Zone A 0 - X 1990\n", "\x01\n", "Rule"} {
			for n := 99998; n <= 100002; n++ {
				tail := strings.Repeat(fill, n/len(fill)+1)
				whole := text + tail[:n-len(text)]
				if n > 100000 {
					refused(t, whole, fault(api.ErrMany, 0, 0))
				} else {
					reads(t, whole)
				}
			}
		}
	}
	refused(t, strings.Repeat("\n", 99999)+"?", fault(api.ErrWord, 100000, 0))
	refused(t, strings.Repeat("\n", 100000)+"?", fault(api.ErrMany, 0, 0))
	refused(t, strings.Repeat("a", 100000), fault(api.ErrMany, 1, 500))
	refused(t, strings.Repeat("a", 100001), fault(api.ErrMany, 0, 0))
	refused(t, strings.Repeat("\x00", 1<<22), fault(api.ErrMany, 0, 0))
}

// P10.1: what layer 8 tells of a line, wherever it stands.
func TestParseWrongLines(t *testing.T) {
	for _, ahead := range []string{"", "\n", "Link A B\n", "# \x01\"\n\n", "Zone A 0 - X\n", "Zone A 0 - X 1990\n", "Zone A 0 - X 1990\n0 - X 1991\n\n"} {
		line := strings.Count(ahead, "\n") + 1
		for _, x := range []struct {
			text string
			at   int
			e    api.Errno
		}{
			{"\x01", 0, api.ErrForm}, {"Link A B\r", 8, api.ErrForm}, {"Link A \"B", 7, api.ErrForm}, {"Link A B\"", 8, api.ErrForm}, {"Link A \"B\"C", 10, api.ErrForm}, {"? \xff", 2, api.ErrForm}, {"Rule \x7f", 5, api.ErrForm}, {"0 - \"X\t\"", 6, api.ErrForm},
			{"Link" + strings.Repeat(" x", 20), 35, api.ErrMany}, {strings.Repeat("x ", 16) + "x", 32, api.ErrMany}, {strings.Repeat("x ", 17) + "\x01", 32, api.ErrMany}, {"\x01 " + strings.Repeat("x ", 17), 0, api.ErrForm},
			{strings.Repeat(" ", 501), 500, api.ErrMany}, {"#" + strings.Repeat("x", 500), 500, api.ErrMany}, {"\x01" + strings.Repeat(" ", 500), 500, api.ErrMany}, {"Link A B" + strings.Repeat(" ", 493), 500, api.ErrMany},
		} {
			for _, behind := range []string{"", "\n", "\n?", "\n\x01"} {
				refused(t, ahead+x.text+behind, fault(x.e, line, x.at))
			}
		}
		// A remark may have any bytes.
		reads(t, ahead+"# \x01\xff\"\r\n0 - X # \x01\n")
		reads(t, ahead+strings.Repeat(" ", 500))
		reads(t, ahead+"Link A B"+strings.Repeat(" ", 492))
		reads(t, ahead+"0 - X"+strings.Repeat(" ", 495))
	}
}

// P10.2: names of sets and of zones.
func TestNames(t *testing.T) {
	named := func(text string) {
		t.Helper()
		if source.Set(text) != fits("set", text) || source.Place(text) != fits("place", text) {
			t.Fatalf("%q: Set %v, Place %v", text, source.Set(text), source.Place(text))
		}
		fieldTried(t, ruleLine, 1, text)
		fieldTried(t, zoneLine[:5], 1, text)
		fieldTried(t, zoneLine[:5], 3, text)
		fieldTried(t, linkLine, 1, text)
		fieldTried(t, linkLine, 2, text)
	}
	sample.Every("Z_-9+/", 5, named)
	for n := range 44 {
		for _, of := range []string{"a", "Z", "0", "_", "-", "+", "/", "a/", "/a", "a-", "_9", "9a", ".", " "} {
			named(strings.Repeat(of, 44)[:n])
		}
	}
	for _, text := range []string{"", "a", "ab", "abc", "a/b", strings.Repeat("a", 19), strings.Repeat("a", 20), strings.Repeat("a", 39), strings.Repeat("a", 40), "America/Argentina/Buenos_Aires"} {
		sample.Spoiled(text, named)
	}
}

// P10.2, written out: names.
func TestNamesWrittenOut(t *testing.T) {
	for text, ok := range map[string]bool{
		"US": true, "_": true, "a": true, "Z": true, "A-9_": true, "a----": true, "Rule": true, strings.Repeat("a", 20): true,
		"": false, "9": false, "9a": false, "-": false, "-a": false, "+a": false, "a+": false, "a/b": false, "a b": false, " a": false, "a ": false, "a.": false, "a\n": false, "a\x00": false, "\xe4": false, "\u00e4": false, "a\u212a": false, "@": false, "[": false, "`": false, "{": false,
		strings.Repeat("a", 21): false, strings.Repeat("a", 1<<20): false,
	} {
		if source.Set(text) != ok {
			t.Errorf("Set(%.50q): %v", text, !ok)
		}
	}
	for text, ok := range map[string]bool{
		"A": true, "9": true, "-": true, "+": true, "_": true, "US": true, "Etc/GMT+5": true, "Etc/GMT-14": true, "America/New_York": true, "a/b/c/d": true, "0/0": true, "-/-": true, strings.Repeat("a", 40): true, strings.Repeat("a/", 19) + "ab": true,
		"": false, "/": false, "//": false, "/a": false, "a/": false, "a//b": false, "a/b/": false, "/a/b": false, "a b": false, "a.b": false, "..": false, "a\n": false, "a/\x00": false, "a/\u00e4": false, "a:b": false, "a%": false, "a,b": false, "a@": false,
		strings.Repeat("a", 41): false, strings.Repeat("a/", 20) + "a": false, strings.Repeat("a/", 20): false, strings.Repeat("a/", 1<<20): false, strings.Repeat("/", 40): false,
	} {
		if source.Place(text) != ok {
			t.Errorf("Place(%.50q): %v", text, !ok)
		}
	}
}

// The chapter's examples.
func TestExamples(t *testing.T) {
	s, f := source.Parse("Rule US 1967 2006 - Oct lastSun 2:00 0 S")
	want := api.Rule{Name: "US", From: 1967, To: 2006, Spot: api.Spot{Month: 10, Kind: api.OnLast, Weekday: 7, Time: 7200}, Letter: "S"}
	if f != fine || !sample.Same(s, api.Source{Rules: []api.Rule{want}}) {
		t.Error(s, f)
	}
	refused(t, "Zone A 1:00 US C%sT 1990", fault(api.ErrFew, 2, 0))
	refused(t, "Zone A 24 - X", fault(api.ErrOffset, 1, 7))
	refused(t, "Zone A 24:00 - X", fault(api.ErrOffset, 1, 7))
	refused(t, "Rule", fault(api.ErrFew, 1, 4))
}
