package sound_test

import (
	"fmt"
	"math"
	"slices"
	"strings"
	"testing"

	"analemma/api"
	"analemma/sound"
	"analemma/source"
)

// whole is a source without flaws: sets between one another's rules, zones of one, two and more eras, links to zones and to links ahead of them and behind.
const whole = `
Rule E 1981 max  - Mar lastSun 1:00u 1:00 S
Rule A 1990 1999 - Apr 1       2:00  1:00 D
Rule E 1979 1995 - Sep lastSun 1:00u 0    -
Rule B 1995 only - Jun 1       0:00s -0:30 x
Rule E 1996 max  - Oct lastSun 1:00u 0    -
Rule A 1990 1999 - Oct 1       2:00  0    S
Link Older Oldest
Zone Europe/One 1:00 E C%sT
Zone Two -5:00 A   A%sT  1995 Jul 1 3:00
          0:00 -   Z
Zone Four 0:10 -    LMT   1980 Jan 1
          1:00 0:20 +1/+2 1990 May 1 12:00s
          2:00 B    %z    1999 Dec 31 24:00u
          3:00 E    N%s
Link Europe/One Old
Link Old Older
Link Four 4
`

// day is a spot on a day of a month.
func day(month, day, time, ref int) api.Spot {
	return api.Spot{Month: month, Kind: api.OnDay, Day: day, Time: time, Ref: ref}
}

// P13.1, P13.3, P13.4: sources without flaws.
func TestWithoutFlaws(t *testing.T) {
	for _, s := range []api.Source{
		{}, {Rules: []api.Rule{}, Zones: []api.Zone{}, Links: []api.Link{}}, parsed(whole),
		parsed("Rule A 1 only - Jan 1 0 0 -"), parsed("Zone A 0 - X"),
		parsed("Rule US 2007 max - Mar Sun>=8 2:00 1:00 D\nRule US 2007 max - Nov Sun>=1 2:00 0 S\nZone NY -5:00 US E%sT\nLink NY Old"),
	} {
		if got := tries(t, s); got != none {
			t.Errorf("%v: %v", s, got)
		}
	}
}

// P13.1: of sources that aren't right nothing else is told, whatever else is wrong with them.
func TestNotRight(t *testing.T) {
	for _, x := range []struct {
		what   string
		change func(s *api.Source)
	}{
		{"a rule without a name", func(s *api.Source) { s.Rules[0].Name = "" }},
		{"From 0", func(s *api.Source) { s.Rules[1].From = 0 }},
		{"To 0", func(s *api.Source) { s.Rules[2].To = 0 }},
		{"To ahead of Ever", func(s *api.Source) { s.Rules[0].To = api.Ever - 1 }},
		{"a rule's spot", func(s *api.Source) { s.Rules[4].Spot.Weekday = 0 }},
		{"a rule's saving", func(s *api.Source) { s.Rules[1].Save = 43201 }},
		{"a rule's letter", func(s *api.Source) { s.Rules[5].Letter = "-" }},
		{"an empty rule", func(s *api.Source) { s.Rules = append(s.Rules, api.Rule{}) }},
		{"too many rules", func(s *api.Source) { s.Rules = slices.Repeat(s.Rules[3:4], api.MaxRules+1) }},
		{"a zone without a name", func(s *api.Source) { s.Zones[2].Name = "" }},
		{"a zone without eras", func(s *api.Source) { s.Zones[1].Eras = nil }},
		{"an era without an end ahead of another one", func(s *api.Source) { s.Zones[1].Eras[0] = s.Zones[1].Eras[1] }},
		{"an era without an end between others", func(s *api.Source) { s.Zones[2].Eras[1] = s.Zones[2].Eras[3] }},
		{"a last era with an end", func(s *api.Source) { s.Zones[2].Eras = s.Zones[2].Eras[:3] }},
		{"an era with an empty set's name", func(s *api.Source) { s.Zones[0].Eras[0].Rules = "" }},
		{"an era with an empty set's name, and rules without one", func(s *api.Source) { s.Zones[0].Eras[0].Rules, s.Rules[0].Name = "", "" }},
		{"a set's name beside no saving", func(s *api.Source) { s.Zones[1].Eras[1].Rules = "A" }},
		{"an offset of a day", func(s *api.Source) { s.Zones[1].Eras[1].Offset = wholeDay }},
		{"the least offset", func(s *api.Source) { s.Zones[0].Eras[0].Offset = math.MinInt }},
		{"the greatest saving", func(s *api.Source) { s.Zones[2].Eras[1].Save = math.MaxInt }},
		{"a fourth kind", func(s *api.Source) { s.Zones[0].Eras[0].Kind = 3 }},
		{"a kind below", func(s *api.Source) { s.Zones[1].Eras[1].Kind = -1 }},
		{"no format", func(s *api.Source) { s.Zones[2].Eras[3].Format = "" }},
		{"an end's year", func(s *api.Source) { s.Zones[2].Eras[0].Year = 0 }},
		{"an end's spot", func(s *api.Source) { s.Zones[2].Eras[2].Spot.Day = 0 }},
		{"too many eras", func(s *api.Source) {
			s.Zones[2].Eras = slices.Insert(s.Zones[2].Eras, 0, slices.Repeat(s.Zones[2].Eras[:1], 37)...)
		}},
		{"too many zones", func(s *api.Source) { s.Zones = slices.Repeat(s.Zones[:1], api.MaxZones+1) }},
		{"a link without a name", func(s *api.Source) { s.Links[1].Name = "" }},
		{"a link's target", func(s *api.Source) { s.Links[0].Target = "/" }},
		{"an empty link", func(s *api.Source) { s.Links = append(s.Links, api.Link{}) }},
		{"too many links", func(s *api.Source) { s.Links = slices.Repeat(s.Links[:1], api.MaxLinks+1) }},
		{"names of bytes above 127", func(s *api.Source) { s.Zones[1].Name, s.Links[0].Name = "\xc3\xa4", "\xff" }},
	} {
		for _, more := range []string{"", "Rule A 2 1 - Jan 1 0 0 -\n", "Zone Two 0 - X\n", "Zone No 0 No X\n", "Link No No\n"} {
			s := parsed(whole + more)
			x.change(&s)
			if source.Right(s) {
				t.Fatalf("%s: right", x.what)
			}
			if got := tries(t, s); got != (api.Flaw{Err: api.ErrArg}) {
				t.Errorf("%s: %v", x.what, got)
			}
		}
	}
}

// P13.1: as many of each as may be; the first flaw is told where it is the last part that has it.
func TestAsManyAsMayBe(t *testing.T) {
	var s api.Source
	for i := range api.MaxRules {
		s.Rules = append(s.Rules, api.Rule{Name: fmt.Sprint("S", i%8), From: 1900 + i, To: 1900 + i, Spot: day(1, 1, 0, i%3), Save: i})
	}
	for i := range api.MaxZones {
		z := api.Zone{Name: fmt.Sprint("Z", i)}
		for k := range api.MaxEras {
			x := api.Era{Offset: k, Kind: api.SaveRules, Rules: fmt.Sprint("S", k%8), Format: "X", Until: k < api.MaxEras-1}
			if x.Until {
				x.Year, x.Spot = 1900+k, day(1, 1, 0, k%3)
			}
			z.Eras = append(z.Eras, x)
		}
		s.Zones = append(s.Zones, z)
	}
	for i := range api.MaxLinks {
		s.Links = append(s.Links, api.Link{Target: fmt.Sprint("L", i+1), Name: fmt.Sprint("L", i)})
	}
	s.Links[api.MaxLinks-1].Target = "Z49"
	if got := sound.Check(s); got != none {
		t.Fatal(got)
	}
	if z, ok := sound.Resolve(s, "L0"); z != 49 || !ok {
		t.Fatal(z, ok)
	}
	triesNames(t, s)
	for _, x := range []struct {
		what   string
		change func()
		want   api.Flaw
	}{
		{"a ring of all links", func() { s.Links[api.MaxLinks-1].Target = "L0" }, ofLink(api.ErrOrder, 0)},
		{"the last link", func() { s.Links[api.MaxLinks-1].Target = "No" }, ofLink(api.ErrUnknown, 99)},
		{"the last link's name", func() { s.Links[api.MaxLinks-1].Name = "Z49" }, ofLink(api.ErrTwice, 99)},
		{"the last era's offset", func() { s.Zones[49].Eras[39].Offset = wholeDay - 199 }, ofEra(api.ErrOffset, 49, 39)},
		{"the last era's set", func() { s.Zones[49].Eras[39].Rules = "S8" }, ofEra(api.ErrUnknown, 49, 39)},
		{"the last end", func() { s.Zones[49].Eras[38].Year = 1936 }, ofEra(api.ErrOrder, 49, 38)},
		{"the last zone's name", func() { s.Zones[49].Name = "Z48" }, ofEra(api.ErrTwice, 49, 0)},
		{"turns that are near in the last set", func() { s.Rules[199].From, s.Rules[199].To = 1999, 2091 }, ofRule(api.ErrNear, 7)},
		{"the last rule's years", func() { s.Rules[199].To = 1998 }, ofRule(api.ErrOrder, 199)},
	} {
		x.change()
		if got := sound.Check(s); got != x.want {
			t.Errorf("%s: %v; must be %v", x.what, got, x.want)
		}
		triesNames(t, s)
	}
}

// P13.1, written out: rules whose To is less than, as great as and greater than From, and Ever.
func TestYears(t *testing.T) {
	for _, x := range []struct {
		from, to int
		falls    bool
	}{
		{1990, 1980, true}, {1990, 1989, true}, {1990, 1990, false}, {1990, 1991, false}, {1990, api.Ever, false}, {1, 1, false}, {2, 1, true}, {1, 9999, false},
		{9999, 9999, false}, {9999, 9998, true}, {9998, 9999, false}, {9999, 1, true}, {9999, api.Ever, false}, {1, api.Ever, false},
	} {
		for at := range 3 {
			s := parsed(months("R", "1999", 3))
			s.Rules[at].From, s.Rules[at].To = x.from, x.to
			want := none
			if x.falls {
				want = ofRule(api.ErrOrder, at)
			}
			if got := tries(t, s); got != want {
				t.Errorf("%d to %d at %d: %v; must be %v", x.from, x.to, at, got, want)
			}
		}
	}
}

// P13.1, written out: sets that are crowded, go on for ever by too many rules, or have turns that are near, also where more than one of these is so.
func TestSets(t *testing.T) {
	near := "Rule R 1985 only - Jan 1 0 0 -\nRule R 1985 only - Jan 2 23:59:59 0 -\n"
	apart := "Rule R 1985 only - Jan 1 0 0 -\nRule R 1985 only - Jan 3 0 0 -\n"
	for _, x := range []struct {
		what, text string
		want       api.Errno
	}{
		{"ten rules", months("R", "only", 10), api.OK},
		{"eleven rules", months("R", "only", 11), api.ErrMany},
		{"twelve rules", months("R", "1999", 12), api.ErrMany},
		{"eleven rules, ten in each year", months("R", "only", 10) + "Rule R 1991 max - Dec 1 0 0 -", api.OK},
		{"eleven rules in the last one's year", months("R", "1991", 10) + "Rule R 1991 max - Dec 1 0 0 -", api.ErrMany},
		{"one rule for ever", months("R", "max", 1), api.OK},
		{"two rules for ever", months("R", "max", 2), api.OK},
		{"three rules for ever", months("R", "max", 3), api.ErrMore},
		{"four rules for ever", months("R", "max", 4), api.ErrMore},
		{"two rules for ever and eight that are not", months("R", "max", 2) + strings.ReplaceAll(months("R", "9999", 8), " 1 0 0", " 15 0 0"), api.OK},
		{"three rules for ever, from years far from one another", "Rule R 1 max - Jan 1 0 0 -\nRule R 5000 max - May 1 0 0 -\nRule R 9999 max - Sep 1 0 0 -", api.ErrMore},
		{"turns that are near", near, api.ErrNear},
		{"turns that lie just Apart", apart, api.OK},
		{"near turns of which the later one is ahead", "Rule R 1985 only - Jan 2 0 0 -\nRule R 1985 only - Jan 1 0 0 -", api.ErrNear},
		{"like turns", "Rule R 1985 only - Jan 1 0 0 -\nRule R 1985 only - Jan 1 0 0 -", api.ErrNear},
		{"near turns of two years", "Rule R 1985 only - Jan 1 0 0 -\nRule R 1984 only - Dec 31 0 0 -", api.ErrNear},
		{"near spots of years that differ", "Rule R 1985 only - Jan 1 0 0 -\nRule R 1986 only - Jan 1 0 0 -", api.OK},
		{"near turns of rules for ever", "Rule R 1985 max - Mar 1 0 0 -\nRule R 1990 max - Feb 28 0 0 -", api.ErrNear},
		{"crowded, and for ever", months("R", "max", 11), api.ErrMany},
		{"crowded, and near", months("R", "only", 11) + near, api.ErrMany},
		{"near, and crowded", near + months("R", "only", 11), api.ErrMany},
		{"for ever, and near", months("R", "max", 3) + near, api.ErrMore},
		{"near, and for ever", near + months("R", "max", 3), api.ErrMore},
		{"all three", near + months("R", "max", 12), api.ErrMany},
	} {
		want := none
		if x.want != api.OK {
			want = ofRule(x.want, 0)
		}
		if got := tries(t, parsed(x.text)); got != want {
			t.Errorf("%s: %v; must be %v", x.what, got, want)
		}
		if want.Err != api.OK {
			want.At = 1
		}
		if got := tries(t, parsed(zipped(others(30), lines(x.text)))); got != want {
			t.Errorf("%s, between others: %v; must be %v", x.what, got, want)
		}
	}
}

// lines are a text's lines.
func lines(text string) []string { return strings.Split(strings.Trim(text, "\n"), "\n") }

// others are lines of so many sets of a rule each.
func others(n int) []string {
	var l []string
	for i := range n {
		l = append(l, fmt.Sprintf("Rule Q%d 1985 max - Jan 1 0 0 -", i))
	}
	return l
}

// zipped are the lines of two lists by turns, the first one's ahead.
func zipped(a, b []string) string {
	text := ""
	for i := range max(len(a), len(b)) {
		for _, l := range [][]string{a, b} {
			if i < len(l) {
				text += l[i] + "\n"
			}
		}
	}
	return text
}

// firstRule is the place of a set's first rule.
func firstRule(s api.Source, name string) int {
	return slices.IndexFunc(s.Rules, func(r api.Rule) bool { return r.Name == name })
}

// P13.1: two sets with each other's rules between their own: the one whose first rule stands first is told, at that.
func TestSetsByTurns(t *testing.T) {
	sets := []struct {
		want api.Errno
		text string
	}{
		{api.OK, months("?", "only", 10)}, {api.ErrMany, months("?", "only", 11)}, {api.ErrMore, months("?", "max", 3)},
		{api.ErrNear, "Rule ? 1985 only - Jan 1 0 0 -\nRule ? 1999 only - Jan 1 0 0 -\nRule ? 1985 only - Jan 2 0 0 -"},
	}
	for _, x := range sets {
		for _, y := range sets {
			for ahead := range 4 {
				first := append(others(ahead), lines(strings.ReplaceAll(x.text, "?", "R"))...)
				s := parsed(zipped(first, lines(strings.ReplaceAll(y.text, "?", "S"))))
				want := none
				switch {
				case x.want != api.OK && (ahead == 0 || y.want == api.OK):
					want = ofRule(x.want, firstRule(s, "R"))
				case y.want != api.OK:
					want = ofRule(y.want, firstRule(s, "S"))
				}
				if got := tries(t, s); got != want {
					t.Errorf("%v and %v, %d ahead: %v; must be %v", x.want, y.want, ahead, got, want)
				}
			}
		}
	}
}
