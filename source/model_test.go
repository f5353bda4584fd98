package source_test

import (
	"fmt"
	"regexp"
	"strconv"
	"strings"
	"testing"

	"analemma/api"
	"analemma/fields"
	"analemma/moment"
	"analemma/sample"
	"analemma/source"
)

// fine is told where nothing is wrong.
var fine = api.Fault{}

// fault is an error at a byte of a line.
func fault(e api.Errno, line, at int) api.Fault { return api.Fault{Err: e, Line: line, At: at} }

// heads are what stands in a line of each first word behind it, and how many of these there must be; a further era has no word.
var heads = map[string]struct {
	columns []string
	fewest  int
}{
	"Rule": {strings.Fields("set year to dash month day clock save letter"), 9},
	"Zone": {strings.Fields("place offset rules format year month day clock"), 4},
	"Link": {strings.Fields("place place"), 2},
	"":     {strings.Fields("offset rules format year month day clock"), 3},
}

// forms are what columns must look like, as far as that can be told so.
var forms = map[string]*regexp.Regexp{
	"set":    regexp.MustCompile(`\A[A-Za-z_][A-Za-z0-9_-]{0,19}\z`),
	"place":  regexp.MustCompile(`\A[A-Za-z0-9_+-]+(?:/[A-Za-z0-9_+-]+)*\z`),
	"year":   regexp.MustCompile(`\A(?:[1-9][0-9]{0,3}|0[1-9][0-9]{0,2}|00[1-9][0-9]?|000[1-9])\z`),
	"to":     regexp.MustCompile(`\A(?:[1-9][0-9]{0,3}|0[1-9][0-9]{0,2}|00[1-9][0-9]?|000[1-9]|only|max)\z`),
	"dash":   regexp.MustCompile(`\A-\z`),
	"letter": regexp.MustCompile(`\A[A-Za-z0-9+-]{1,8}\z`),
	"format": regexp.MustCompile(`\A(?:[A-Za-z0-9+-]*%[sz][A-Za-z0-9+-]*|[A-Za-z0-9+-]+(?:/[A-Za-z0-9+-]+)?)\z`),
}

// longest are the most bytes that columns may have, where the form doesn't tell.
var longest = map[string]int{"place": 40, "format": 20}

// fits tells whether a text looks as a column must.
func fits(column, text string) bool {
	return forms[column].MatchString(text) && (longest[column] == 0 || len(text) <= longest[column])
}

// wrong is what is wrong with a text in a column, by the words.
func wrong(column, text string) api.Errno {
	switch column {
	case "month":
		_, _, e := moment.Parse([]string{text})
		return e
	case "day":
		_, _, e := moment.Parse([]string{"Jan", text})
		return e
	case "clock":
		_, _, e := moment.Clock(text)
		return e
	case "offset":
		_, e := moment.Offset(text)
		return e
	case "save":
		n, e := moment.Offset(text)
		if n < -43200 || n > 43200 {
			return api.ErrOffset
		}
		return e
	case "rules":
		switch {
		case text == "-":
			return api.OK
		case text != "" && strings.Contains("ABCDEFGHIJKLMNOPQRSTUVWXYZabcdefghijklmnopqrstuvwxyz_", text[:1]):
			return wrong("set", text)
		}
		return wrong("save", text)
	}
	if !fits(column, text) {
		return api.ErrForm
	}
	return api.OK
}

// number is a right year.
func number(text string) int {
	n, _ := strconv.Atoi(text)
	return n
}

// ruleOf is the rule of the right fields behind Rule.
func ruleOf(l []string) api.Rule {
	x := api.Rule{Name: l[0], From: number(l[1]), Letter: l[8]}
	x.To = map[string]int{"only": x.From, "max": 1000000}[l[2]]
	if x.To == 0 {
		x.To = number(l[2])
	}
	x.Spot, _, _ = moment.Parse(l[4:7])
	x.Save, _ = moment.Offset(l[7])
	if x.Letter == "-" {
		x.Letter = ""
	}
	return x
}

// eraOf is the era of right fields.
func eraOf(l []string) api.Era {
	x := api.Era{Format: l[2]}
	x.Offset, _ = moment.Offset(l[0])
	switch {
	case l[1] == "-":
	case fits("set", l[1]):
		x.Kind, x.Rules = api.SaveRules, l[1]
	default:
		x.Kind = api.SaveFixed
		x.Save, _ = moment.Offset(l[1])
	}
	if len(l) > 3 {
		x.Until, x.Year = true, number(l[3])
		x.Spot, _, _ = moment.Parse(l[4:])
	}
	return x
}

// model is what Parse must answer, by the words.
func model(text string) (api.Source, api.Fault) {
	if len(text) > 100000 {
		return api.Source{}, fault(api.ErrMany, 0, 0)
	}
	return modelOf(text)
}

// modelOf is what a text means, however long it is.
func modelOf(text string) (api.Source, api.Fault) {
	var s api.Source
	open := false
	lines := strings.Split(text, "\n")
	if lines[len(lines)-1] == "" {
		lines = lines[:len(lines)-1]
	}
	for i, line := range lines {
		words, at, e := fields.Split(line)
		if e != api.OK {
			return api.Source{}, fault(e, i+1, at)
		}
		if len(words) == 0 {
			continue
		}
		if e, at := added(&s, line, words, open); e != api.OK {
			return api.Source{}, fault(e, i+1, at)
		}
		open = false
		if n := len(s.Zones); n > 0 {
			open = s.Zones[n-1].Eras[len(s.Zones[n-1].Eras)-1].Until
		}
	}
	if open {
		return api.Source{}, fault(api.ErrFew, len(lines)+1, 0)
	}
	return s, fine
}

// added puts what a line means to a source, or tells what is wrong with it, and where.
func added(s *api.Source, line string, words []api.Word, open bool) (api.Errno, int) {
	kind, first := words[0].Text, words[0].At
	counts := map[string][2]int{"Rule": {len(s.Rules), 200}, "Zone": {len(s.Zones), 50}, "Link": {len(s.Links), 100}}
	if open {
		kind = ""
		counts[""] = [2]int{len(s.Zones[len(s.Zones)-1].Eras), 40}
	} else {
		words = words[1:]
	}
	head := heads[kind]
	switch count, ok := counts[kind]; {
	case !ok:
		return api.ErrWord, first
	case count[0] == count[1]:
		return api.ErrMany, first
	case len(words) < head.fewest:
		return api.ErrFew, len(line)
	case len(words) > len(head.columns):
		return api.ErrMore, words[len(head.columns)].At
	}
	var l []string
	for i, word := range words {
		if e := wrong(head.columns[i], word.Text); e != api.OK {
			return e, word.At
		}
		l = append(l, word.Text)
	}
	switch kind {
	case "Rule":
		s.Rules = append(s.Rules, ruleOf(l))
	case "Zone":
		s.Zones = append(s.Zones, api.Zone{Name: l[0], Eras: []api.Era{eraOf(l[1:])}})
	case "Link":
		s.Links = append(s.Links, api.Link{Target: l[0], Name: l[1]})
	case "":
		z := &s.Zones[len(s.Zones)-1]
		z.Eras = append(z.Eras, eraOf(l))
	}
	return api.OK, 0
}

// dashed is a text, or - for nothing.
func dashed(text string) string {
	if text == "" {
		return "-"
	}
	return text
}

// spotText is a spot as it is written, or what is none.
func spotText(s api.Spot) string {
	l, e := moment.Print(s)
	if e != api.OK {
		return "? ? ?"
	}
	return strings.Join(l, " ")
}

// eraText is an era as it is written, by the words.
func eraText(x api.Era) string {
	saved := "?"
	switch x.Kind {
	case api.SaveNone:
		saved = "-"
	case api.SaveFixed:
		saved = moment.Time(x.Save)
	case api.SaveRules:
		saved = x.Rules
	}
	text := moment.Time(x.Offset) + " " + saved + " " + x.Format
	if x.Until {
		text += fmt.Sprintf(" %d %s", x.Year, spotText(x.Spot))
	}
	return text
}

// paper is a tree as it is written, by the words, be it right or not.
func paper(s api.Source) string {
	var b strings.Builder
	for _, x := range s.Rules {
		to := fmt.Sprint(x.To)
		switch {
		case x.To == x.From:
			to = "only"
		case x.To == 1000000:
			to = "max"
		}
		fmt.Fprintf(&b, "Rule %s %d %s - %s %s %s\n", x.Name, x.From, to, spotText(x.Spot), moment.Time(x.Save), dashed(x.Letter))
	}
	for _, z := range s.Zones {
		head := "Zone " + z.Name + " "
		for _, x := range z.Eras {
			b.WriteString(head + eraText(x) + "\n")
			head = ""
		}
	}
	for _, x := range s.Links {
		b.WriteString("Link " + x.Target + " " + x.Name + "\n")
	}
	return b.String()
}

// right tells whether a tree is that of some text: then it is that of the text as which it is written.
func right(s api.Source) bool {
	read, f := modelOf(paper(s))
	return f == fine && sample.Same(read, s)
}

// cut is a text's beginning, for telling of it.
func cut(text string) string {
	if len(text) > 400 {
		return text[:400] + ".."
	}
	return text
}

// reads tries Parse with a text, and what is read with the other calls; it answers whether anything was wrong.
func reads(t *testing.T, text string) bool {
	t.Helper()
	want, wrong := model(text)
	s, f := source.Parse(text)
	if f != wrong || !sample.Same(s, want) {
		t.Fatalf("Parse(%q): %v, %v; must be %v, %v", cut(text), s, f, want, wrong)
	}
	if f == fine {
		prints(t, s)
	}
	return f != fine
}

// refused tries Parse with a text of which it is known what is wrong.
func refused(t *testing.T, text string, want api.Fault) {
	t.Helper()
	if s, f := source.Parse(text); f != want || s.Rules != nil || s.Zones != nil || s.Links != nil {
		t.Fatalf("Parse(%q): %v, %v; must be %v", cut(text), s, f, want)
	}
	reads(t, text)
}

// prints tries Right and Print with a tree, and Parse with what is written (P10.3).
func prints(t *testing.T, s api.Source) {
	t.Helper()
	ok := right(s)
	if source.Right(s) != ok {
		t.Fatalf("Right(%v): %v", s, !ok)
	}
	want, err := paper(s), api.OK
	switch {
	case !ok:
		want, err = "", api.ErrArg
	case len(want) > 100000:
		want, err = "", api.ErrMany
	}
	text, e := source.Print(s)
	if text != want || e != err {
		t.Fatalf("Print(%v): %q, %d; must be %q, %d", s, cut(text), e, cut(want), err)
	}
	if e != api.OK {
		return
	}
	if again, f := source.Parse(text); f != fine || !sample.Same(again, s) {
		t.Fatalf("Parse(%q): %v, %v; must be %v", cut(text), again, f, s)
	}
}
