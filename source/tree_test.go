package source_test

import (
	"math"
	"slices"
	"strings"
	"testing"
	"unsafe"

	"analemma/api"
	"analemma/sample"
	"analemma/source"
)

// The spots of the tree that may be.
var (
	sunday = api.Spot{Month: 10, Kind: api.OnLast, Weekday: 7, Time: 7200, Ref: api.Standard}
	eighth = api.Spot{Month: 3, Kind: api.OnDay, Day: 8, Time: -5400, Ref: api.Universal}
)

// tree is a tree that may be, of each kind of everything, made anew each time.
func tree() api.Source {
	return api.Source{
		Rules: []api.Rule{
			{Name: "US", From: 1967, To: 2006, Spot: sunday, Save: 3600, Letter: "D"},
			{Name: "US", From: 1967, To: 1967, Spot: eighth, Save: 0, Letter: ""},
			{Name: "_e-9", From: 1, To: api.Ever, Spot: sunday, Save: -1800, Letter: "+-x"},
		},
		Zones: []api.Zone{
			{Name: "America/New_York", Eras: []api.Era{
				{Offset: -17762, Kind: api.SaveNone, Format: "LMT", Until: true, Year: 1883, Spot: eighth},
				{Offset: -18000, Kind: api.SaveFixed, Save: 3600, Format: "EDT", Until: true, Year: 1967, Spot: sunday},
				{Offset: -18000, Kind: api.SaveRules, Rules: "US", Format: "E%sT"},
			}},
			{Name: "B", Eras: []api.Era{{Offset: 3600, Kind: api.SaveRules, Rules: "_e-9", Format: "X/Y"}}},
			{Name: "C", Eras: []api.Era{{Offset: 0, Kind: api.SaveNone, Format: "%z"}}},
			{Name: "D", Eras: []api.Era{{Offset: 0, Kind: api.SaveFixed, Save: -60, Format: "-"}}},
		},
		Links: []api.Link{{Target: "America/New_York", Name: "Old"}, {Target: "Old", Name: "E+1/2"}},
	}
}

// numbers are numbers at which some field turns, and of all sizes.
var numbers = []int{
	math.MinInt, math.MinInt + 1, -1 << 32, -604800, -604799, -86401, -86400, -86399, -43201, -43200, -43199, -3600, -1, 0, 1, 2, 3, 4, 6, 7, 8, 11, 12, 13, 30, 31, 32, 256, 257,
	1966, 1967, 1968, 9998, 9999, 10000, 43199, 43200, 43201, 86399, 86400, 86401, 604799, 604800, 999999, 1000000, 1000001, 1 << 32, 1<<32 + 1, math.MaxInt - 1, math.MaxInt,
}

// texts are texts that some field may be or not.
var texts = []string{
	"", "-", "--", "+", "_", "a", "Z", "0", "9a", "a9", "a b", "a ", " a", "a\n", "\na", "a#", "#", "\"", "\"a\"", "a\"", "\t", "\x00", "a\x7f", "\xff", "\u00e4", "a/b", "/", "a/", "/a", "a//b", "a/b/c", "%s", "%z", "%", "%a", "a%sb", "%s%s", "a%", "%s/a", "US", "1:00", "only", "max", "Rule", "?",
	"A 1\nRule A", "X\nZone Y 0 - X", "X 1990\n0 - X", "B\nLink C D",
	strings.Repeat("a", 8), strings.Repeat("a", 9), strings.Repeat("-", 8), strings.Repeat("a", 20), strings.Repeat("a", 21), strings.Repeat("a", 40), strings.Repeat("a", 41), strings.Repeat("a/", 20), strings.Repeat("a/", 19) + "bb", strings.Repeat("a", 600),
}

// P10.2, P10.3: trees that differ from one that may be in one field of a rule alone.
func TestRulesEachField(t *testing.T) {
	prints(t, tree())
	for i := range tree().Rules {
		with := func(change func(x *api.Rule)) {
			t.Helper()
			s := tree()
			change(&s.Rules[i])
			prints(t, s)
		}
		for _, text := range texts {
			with(func(x *api.Rule) { x.Name = text })
			with(func(x *api.Rule) { x.Letter = text })
		}
		for _, n := range numbers {
			with(func(x *api.Rule) { x.From = n })
			with(func(x *api.Rule) { x.To = n })
			with(func(x *api.Rule) { x.From, x.To = n, n })
			with(func(x *api.Rule) { x.Save = n })
			for k := range 6 {
				with(func(x *api.Rule) { *sample.SpotFields(&x.Spot)[k] = n })
			}
		}
		with(func(x *api.Rule) { x.Spot = api.Spot{} })
		with(func(x *api.Rule) { *x = api.Rule{} })
	}
}

// P10.2, P10.3: trees that differ from one that may be in one field of an era alone.
func TestErasEachField(t *testing.T) {
	for z, zone := range tree().Zones {
		for i := range zone.Eras {
			with := func(change func(x *api.Era)) {
				t.Helper()
				s := tree()
				change(&s.Zones[z].Eras[i])
				prints(t, s)
			}
			for _, text := range texts {
				with(func(x *api.Era) { x.Rules = text })
				with(func(x *api.Era) { x.Format = text })
				with(func(x *api.Era) { x.Kind, x.Save, x.Rules = api.SaveRules, 0, text })
			}
			for _, n := range numbers {
				with(func(x *api.Era) { x.Offset = n })
				with(func(x *api.Era) { x.Kind = n })
				with(func(x *api.Era) { x.Save = n })
				with(func(x *api.Era) { x.Year = n })
				with(func(x *api.Era) { x.Kind, x.Save, x.Rules = api.SaveFixed, n, "" })
				for k := range 6 {
					with(func(x *api.Era) { *sample.SpotFields(&x.Spot)[k] = n })
				}
			}
			with(func(x *api.Era) { x.Until = !x.Until })
			with(func(x *api.Era) { x.Until, x.Year, x.Spot = true, 2000, sunday })
			with(func(x *api.Era) { x.Until, x.Year, x.Spot = false, 0, api.Spot{} })
			with(func(x *api.Era) { x.Spot = api.Spot{} })
			with(func(x *api.Era) { x.Spot = sunday })
			with(func(x *api.Era) { *x = api.Era{} })
		}
	}
}

// P10.2, P10.3: trees that differ in a zone's or a link's name, or in how many eras there are.
func TestZonesAndLinksEachField(t *testing.T) {
	with := func(change func(s *api.Source)) {
		t.Helper()
		s := tree()
		change(&s)
		prints(t, s)
	}
	for _, text := range texts {
		for i := range tree().Zones {
			with(func(s *api.Source) { s.Zones[i].Name = text })
		}
		for i := range tree().Links {
			with(func(s *api.Source) { s.Links[i].Name = text })
			with(func(s *api.Source) { s.Links[i].Target = text })
		}
	}
	for i := range tree().Zones {
		with(func(s *api.Source) { s.Zones[i].Eras = nil })
		with(func(s *api.Source) { s.Zones[i].Eras = []api.Era{} })
		with(func(s *api.Source) { s.Zones[i].Eras = s.Zones[i].Eras[1:] })
		with(func(s *api.Source) { s.Zones[i].Eras = s.Zones[i].Eras[:len(s.Zones[i].Eras)-1] })
		with(func(s *api.Source) { s.Zones[i].Eras = slices.Concat(s.Zones[i].Eras, s.Zones[i].Eras) })
		with(func(s *api.Source) { s.Zones[i] = api.Zone{} })
		with(func(s *api.Source) { s.Zones = s.Zones[i:] })
	}
	with(func(s *api.Source) { s.Rules = nil })
	with(func(s *api.Source) { s.Zones = nil })
	with(func(s *api.Source) { s.Links = nil })
	with(func(s *api.Source) { s.Links = append(s.Links, api.Link{}) })
	with(func(s *api.Source) { s.Rules = append(s.Rules, api.Rule{}) })
	prints(t, api.Source{})
	prints(t, api.Source{Rules: []api.Rule{}, Zones: []api.Zone{}, Links: []api.Link{}})
}

// P10.2, written out: which trees may be.
func TestRightWrittenOut(t *testing.T) {
	for _, x := range []struct {
		what   string
		change func(s *api.Source)
		ok     bool
	}{
		{"as it is", func(s *api.Source) {}, true},
		{"no rules", func(s *api.Source) { s.Rules = nil }, true},
		{"To ahead of From", func(s *api.Source) { s.Rules[0].To = 1900 }, true},
		{"From 1", func(s *api.Source) { s.Rules[0].From = 1 }, true},
		{"From 0", func(s *api.Source) { s.Rules[0].From = 0 }, false},
		{"From and To 0", func(s *api.Source) { s.Rules[1].From, s.Rules[1].To = 0, 0 }, false},
		{"To 0", func(s *api.Source) { s.Rules[0].To = 0 }, false},
		{"To 9999", func(s *api.Source) { s.Rules[0].To = 9999 }, true},
		{"To 10000", func(s *api.Source) { s.Rules[0].To = 10000 }, false},
		{"From Ever", func(s *api.Source) { s.Rules[2].From = api.Ever }, false},
		{"To beyond Ever", func(s *api.Source) { s.Rules[2].To = api.Ever + 1 }, false},
		{"the letter -", func(s *api.Source) { s.Rules[0].Letter = "-" }, false},
		{"the letter --", func(s *api.Source) { s.Rules[0].Letter = "--" }, true},
		{"nine letters", func(s *api.Source) { s.Rules[0].Letter = "abcdefghi" }, false},
		{"a save of 12 hours", func(s *api.Source) { s.Rules[0].Save = -43200 }, true},
		{"a save beyond", func(s *api.Source) { s.Rules[0].Save = -43201 }, false},
		{"a wrong spot", func(s *api.Source) { s.Rules[0].Spot.Day = 1 }, false},
		{"an offset of a day", func(s *api.Source) { s.Zones[1].Eras[0].Offset = 86400 }, false},
		{"an offset just below", func(s *api.Source) { s.Zones[1].Eras[0].Offset = -86399 }, true},
		{"Save beside SaveNone", func(s *api.Source) { s.Zones[2].Eras[0].Save = 1 }, false},
		{"Rules beside SaveNone", func(s *api.Source) { s.Zones[2].Eras[0].Rules = "US" }, false},
		{"Rules beside SaveFixed", func(s *api.Source) { s.Zones[3].Eras[0].Rules = "US" }, false},
		{"a Save of 0 by SaveFixed", func(s *api.Source) { s.Zones[3].Eras[0].Save = 0 }, true},
		{"a Save beyond by SaveFixed", func(s *api.Source) { s.Zones[3].Eras[0].Save = 43201 }, false},
		{"Save beside SaveRules", func(s *api.Source) { s.Zones[1].Eras[0].Save = 3600 }, false},
		{"no Rules beside SaveRules", func(s *api.Source) { s.Zones[1].Eras[0].Rules = "" }, false},
		{"Rules that are no set's", func(s *api.Source) { s.Zones[1].Eras[0].Rules = "Nowhere" }, true},
		{"Rules that are no name", func(s *api.Source) { s.Zones[1].Eras[0].Rules = "1:00" }, false},
		{"a fourth kind", func(s *api.Source) { s.Zones[1].Eras[0].Kind = 3 }, false},
		{"no format", func(s *api.Source) { s.Zones[1].Eras[0].Format = "" }, false},
		{"a Year without an Until", func(s *api.Source) { s.Zones[1].Eras[0].Year = 1990 }, false},
		{"a Spot without an Until", func(s *api.Source) { s.Zones[1].Eras[0].Spot = sunday }, false},
		{"an Until without a Spot", func(s *api.Source) { s.Zones[0].Eras[0].Spot = api.Spot{} }, false},
		{"an Until without a Year", func(s *api.Source) { s.Zones[0].Eras[0].Year = 0 }, false},
		{"a first era for ever", func(s *api.Source) {
			s.Zones[0].Eras[0].Until, s.Zones[0].Eras[0].Year, s.Zones[0].Eras[0].Spot = false, 0, api.Spot{}
		}, false},
		{"a last era with an end", func(s *api.Source) {
			s.Zones[0].Eras[2].Until, s.Zones[0].Eras[2].Year, s.Zones[0].Eras[2].Spot = true, 1990, sunday
		}, false},
		{"no eras", func(s *api.Source) { s.Zones[1].Eras = nil }, false},
		{"ends that don't rise", func(s *api.Source) { s.Zones[0].Eras[1].Year = 1 }, true},
		{"two zones of one name", func(s *api.Source) { s.Zones[1].Name = "C" }, true},
		{"a link to nowhere", func(s *api.Source) { s.Links[0].Target = "Nowhere" }, true},
		{"a link without a target", func(s *api.Source) { s.Links[0].Target = "" }, false},
	} {
		s := tree()
		x.change(&s)
		if source.Right(s) != x.ok {
			t.Errorf("%s: %v", x.what, !x.ok)
		}
		if _, e := source.Print(s); (e == api.OK) != x.ok || !x.ok && e != api.ErrArg {
			t.Errorf("%s: %d", x.what, e)
		}
		prints(t, s)
	}
}

// P10.2: trees with as many rules, zones, links and eras as may be, and one more.
func TestRightAsManyAsMayBe(t *testing.T) {
	rule, zone, link := tree().Rules[0], tree().Zones[1], tree().Links[0]
	era := tree().Zones[0].Eras[0]
	for more := range 3 {
		prints(t, api.Source{Rules: slices.Repeat([]api.Rule{rule}, 199+more)})
		prints(t, api.Source{Zones: slices.Repeat([]api.Zone{zone}, 49+more)})
		prints(t, api.Source{Links: slices.Repeat([]api.Link{link}, 99+more)})
		eras := append(slices.Repeat([]api.Era{era}, 38+more), zone.Eras[0])
		prints(t, api.Source{Zones: []api.Zone{{Name: "A", Eras: eras}}})
		prints(t, api.Source{Zones: []api.Zone{zone, {Name: "A", Eras: eras}, {Name: "B", Eras: eras}}})
		all := api.Source{Rules: slices.Repeat([]api.Rule{rule}, 200), Zones: slices.Repeat([]api.Zone{zone}, 50), Links: slices.Repeat([]api.Link{link}, 99+more)}
		prints(t, all)
		if source.Right(all) != (more < 2) {
			t.Errorf("%d links: %v", 99+more, more >= 2)
		}
	}
	if source.Right(api.Source{Rules: make([]api.Rule, 1<<20)}) {
		t.Error("a million rules may be")
	}
}

// P10.2, written out: a tree's text.
func TestPrintWrittenOut(t *testing.T) {
	const want = "Rule US 1967 2006 - Oct lastSun 2:00s 1:00 D\n" +
		"Rule US 1967 only - Mar 8 -1:30u 0:00 -\n" +
		"Rule _e-9 1 max - Oct lastSun 2:00s -0:30 +-x\n" +
		"Zone America/New_York -4:56:02 - LMT 1883 Mar 8 -1:30u\n" +
		"-5:00 1:00 EDT 1967 Oct lastSun 2:00s\n" +
		"-5:00 US E%sT\n" +
		"Zone B 1:00 _e-9 X/Y\n" +
		"Zone C 0:00 - %z\n" +
		"Zone D 0:00 -0:01 -\n" +
		"Link America/New_York Old\n" +
		"Link Old E+1/2\n"
	if text, e := source.Print(tree()); text != want || e != api.OK {
		t.Errorf("%q, %d", text, e)
	}
	if s, f := source.Parse(want); f != fine || !sample.Same(s, tree()) {
		t.Error(s, f)
	}
	if text, e := source.Print(api.Source{}); text != "" || e != api.OK {
		t.Errorf("%q, %d", text, e)
	}
	if text, e := source.Print(api.Source{Links: []api.Link{{}}}); text != "" || e != api.ErrArg {
		t.Errorf("%q, %d", text, e)
	}
	// Rules, zones and links are written in this order, whatever the order of the text was.
	s, _ := source.Parse("Link A B\nZone A 1 0 X 02 # x\n1:00:00 - Y\n\nRule A 0009 0009 - january 01 2 - -")
	if text, e := source.Print(s); text != "Rule A 9 only - Jan 1 2:00 0:00 -\nZone A 1:00 0:00 X 2 Jan 1 0:00\n1:00 - Y\nLink A B\n" || e != api.OK {
		t.Errorf("%q, %d", text, e)
	}
}

// P10.2, P10.3: each field at its least and greatest, all at once.
func TestPrintLeastAndGreatest(t *testing.T) {
	least := api.Spot{Month: 1, Kind: api.OnAfter, Weekday: 1, Day: 1, Time: -604799, Ref: api.Wall}
	greatest := api.Spot{Month: 12, Kind: api.OnAhead, Weekday: 7, Day: 31, Time: 604799, Ref: api.Universal}
	set, place := strings.Repeat("z", 20), strings.Repeat("z", 40)
	s := api.Source{
		Rules: []api.Rule{
			{Name: "A", From: 1, To: 1, Spot: least, Save: -43200, Letter: ""},
			{Name: "_", From: 9999, To: 1, Spot: least, Save: -43200, Letter: "+"},
			{Name: set, From: 9999, To: 9999, Spot: greatest, Save: 43200, Letter: "zzzzzzzz"},
			{Name: set, From: 1, To: 9999, Spot: greatest, Save: 43200, Letter: "zzzzzzzz"},
			{Name: set, From: 9999, To: 1000000, Spot: greatest, Save: 43200, Letter: "zzzzzzzz"},
		},
		Zones: []api.Zone{
			{Name: "+", Eras: []api.Era{
				{Offset: -86399, Kind: api.SaveFixed, Save: -43200, Format: "+", Until: true, Year: 1, Spot: least},
				{Offset: 86399, Kind: api.SaveFixed, Save: 43200, Format: set, Until: true, Year: 9999, Spot: greatest},
				{Offset: 86399, Kind: api.SaveRules, Rules: set, Format: set},
			}},
			{Name: place, Eras: []api.Era{{Format: "%s"}}},
		},
		Links: []api.Link{{Target: "+", Name: "-"}, {Target: place, Name: place}},
	}
	want := "Rule A 1 only - Jan Mon>=1 -167:59:59 -12:00 -\n" +
		"Rule _ 9999 1 - Jan Mon>=1 -167:59:59 -12:00 +\n" +
		"Rule " + set + " 9999 only - Dec Sun<=31 167:59:59u 12:00 zzzzzzzz\n" +
		"Rule " + set + " 1 9999 - Dec Sun<=31 167:59:59u 12:00 zzzzzzzz\n" +
		"Rule " + set + " 9999 max - Dec Sun<=31 167:59:59u 12:00 zzzzzzzz\n" +
		"Zone + -23:59:59 -12:00 + 1 Jan Mon>=1 -167:59:59\n" +
		"23:59:59 12:00 " + set + " 9999 Dec Sun<=31 167:59:59u\n" +
		"23:59:59 " + set + " " + set + "\n" +
		"Zone " + place + " 0:00 - %s\n" +
		"Link + -\n" +
		"Link " + place + " " + place + "\n"
	if text, e := source.Print(s); text != want || e != api.OK {
		t.Errorf("%q, %d", text, e)
	}
	prints(t, s)
}

// P10.2: trees whose texts would have 100000 bytes, and more: they may be, but aren't written.
func TestPrintLong(t *testing.T) {
	era := api.Era{Offset: -86399, Kind: api.SaveFixed, Save: -43199, Format: strings.Repeat("A", 20), Until: true, Year: 1999, Spot: api.Spot{Month: 5, Kind: api.OnAfter, Weekday: 3, Day: 28, Time: -604799}}
	last := api.Era{Format: "X"}
	var s api.Source
	for len(paper(s)) <= 100000 && len(s.Zones) < 50 {
		s.Zones = append(s.Zones, api.Zone{Name: "A", Eras: append(slices.Repeat([]api.Era{era}, 39), last)})
	}
	// Names are made longer, or shorter by whole eras, till there are as many bytes as may be.
	for len(paper(s)) > 100000 {
		eras := s.Zones[len(s.Zones)-1].Eras
		s.Zones[len(s.Zones)-1].Eras = eras[1:]
	}
	for i := range s.Zones {
		s.Zones[i].Name = strings.Repeat("A", min(40, 1+100000-len(paper(s))))
	}
	if len(paper(s)) != 100000 {
		t.Fatal(len(paper(s)))
	}
	if text, e := source.Print(s); len(text) != 100000 || e != api.OK {
		t.Error(len(text), e)
	}
	prints(t, s)
	z := &s.Zones[len(s.Zones)-1]
	z.Name += "A"
	if text, e := source.Print(s); text != "" || e != api.ErrMany || !source.Right(s) {
		t.Error(len(text), e)
	}
	prints(t, s)
	z.Name = ""
	if text, e := source.Print(s); text != "" || e != api.ErrArg {
		t.Error(len(text), e)
	}
	for i := range s.Zones {
		s.Zones[i] = api.Zone{Name: strings.Repeat("A", 40), Eras: append(slices.Repeat([]api.Era{era}, 39), last)}
	}
	s.Rules = slices.Repeat(tree().Rules[:1], 200)
	s.Links = slices.Repeat(tree().Links[:1], 100)
	if text, e := source.Print(s); text != "" || e != api.ErrMany || !source.Right(s) {
		t.Error(len(text), e)
	}
	prints(t, s)
}

// dice are numbers by a fixed rule, and what is made of them.
type dice struct{ *sample.Dice }

// rolled are dice that come again behind so many numbers.
func rolled(n int) *dice { return &dice{sample.Rolled(n)} }

// one is one of some texts.
func (d *dice) one(l ...string) string { return sample.Pick(d.Dice, l...) }

// anySpot is a right spot.
func (d *dice) anySpot() api.Spot {
	s := api.Spot{Month: d.From(1, 12), Kind: d.To(4), Weekday: d.From(1, 7), Day: d.From(1, 31), Time: d.From(-604799, 604799), Ref: d.To(3)}
	switch s.Kind {
	case api.OnDay:
		s.Weekday = 0
	case api.OnLast:
		s.Day = 0
	}
	return s
}

// anyEra is a right era, with or without an end.
func (d *dice) anyEra(until bool) api.Era {
	x := api.Era{Offset: d.From(-86399, 86399), Kind: d.To(3), Format: d.one("X", "E%sT", "%z", "A/B", "-00", "+%s", strings.Repeat("a", 20))}
	switch x.Kind {
	case api.SaveFixed:
		x.Save = d.From(-43200, 43200)
	case api.SaveRules:
		x.Rules = d.one("US", "_", "a-", "Zone", strings.Repeat("b", 20))
	}
	if until {
		x.Until, x.Year, x.Spot = true, d.From(1, 9999), d.anySpot()
	}
	return x
}

// anyTree is a right tree.
func (d *dice) anyTree() api.Source {
	var s api.Source
	for range d.To(6) {
		x := api.Rule{Name: d.one("US", "_", "a-", "Rule"), From: d.From(1, 9999), To: d.From(1, 9999), Spot: d.anySpot(), Save: d.From(-43200, 43200), Letter: d.one("", "S", "--", "+", "abcdefgh")}
		switch d.To(4) {
		case 0:
			x.To = api.Ever
		case 1:
			x.To = x.From
		}
		s.Rules = append(s.Rules, x)
	}
	for range d.To(5) {
		z := api.Zone{Name: d.one("A", "a/b/c", "-", "Zone", "9")}
		for range d.To(4) {
			z.Eras = append(z.Eras, d.anyEra(true))
		}
		z.Eras = append(z.Eras, d.anyEra(false))
		s.Zones = append(s.Zones, z)
	}
	for range d.To(4) {
		s.Links = append(s.Links, api.Link{Target: d.one("A", "a/b/c", "_"), Name: d.one("Link", "+", "x/y")})
	}
	return s
}

// P10.3: trees by a fixed rule are written, and read as they were.
func TestWrittenIsReadAsItWas(t *testing.T) {
	d := rolled(200000)
	for range 4000 {
		s := d.anyTree()
		if !source.Right(s) {
			t.Fatalf("%v isn't right", s)
		}
		prints(t, s)
	}
}

// anyLine are the fields of a line: mostly right ones.
func (d *dice) anyLine() []string {
	var l []string
	switch d.To(9) {
	case 0, 1, 2:
		l = []string{"Rule", d.one("US", "_a"), d.one("1967", "0001"), d.one("only", "max", "2006"), "-", d.one("Oct", "march"), d.one("lastSun", "8", "Fri<=3"), d.one("2:00", "0s", "-"), d.one("0", "1:00", "-"), d.one("S", "-")}
	case 3, 4:
		l = []string{"Zone", d.one("A", "a/b"), d.one("1:00", "-0"), d.one("-", "US", "1:00"), d.one("X", "E%sT", "A/B"), "1990", "Oct", "lastSun", "0"}
		l = l[:5+d.To(2)*d.From(1, 4)]
	case 5, 6, 7:
		l = []string{d.one("1:00", "-5"), d.one("-", "US", "1:00"), d.one("X", "%z"), "1991", "Mar", "Sun>=8", "2u"}
		l = l[:3+d.To(2)*d.From(1, 4)]
	case 8:
		l = []string{"Link", d.one("A", "a/b"), d.one("B", "-")}
	}
	switch d.To(30) {
	case 0:
		l[d.To(len(l))] = d.one("?", "", "24:00", "13:00", "a b", "#", "Rule", "0", "a/")
	case 1:
		l = l[:d.To(len(l))]
	case 2:
		l = append(l, d.one("x", "", "0"), d.one("y", "1"))
	}
	return l
}

// anyLines are lines in an order in which they are right more often than not.
func (d *dice) anyLines() [][]string {
	var l [][]string
	open := false
	for range d.To(9) {
		line := d.anyLine()
		for range 20 {
			further := len(line) > 0 && !slices.Contains([]string{"Rule", "Zone", "Link"}, line[0])
			if further == open {
				break
			}
			line = d.anyLine()
		}
		l = append(l, line)
		if len(line) > 0 {
			open = open && len(line) > 3 || line[0] == "Zone" && len(line) > 5
		}
	}
	if open {
		l = append(l, []string{"0", "-", "X"})
	}
	return l
}

// page is a text of lines of fields, with where each line stands and each field of it.
type page struct {
	text   string
	lines  []int   // the numbers of the lines
	places [][]int // the byte at which each field begins
	ends   []int   // the lines' lengths
	all    int     // how many lines there are
}

// put is a page of lines, each with a gap ahead of each field and a tail, with further lines ahead of each.
func put(l [][]string, gap, tail, further func() string) page {
	var p page
	for _, fields := range l {
		between := further()
		p.text += between
		p.all += strings.Count(between, "\n") + 1
		line, places := "", []int{}
		for i, text := range fields {
			if i > 0 {
				line += " "
			}
			line += gap()
			places = append(places, len(line))
			field, _ := joined([]string{text}, "")
			line += field
		}
		line += tail()
		p.text += line + "\n"
		p.lines, p.places, p.ends = append(p.lines, p.all), append(p.places, places), append(p.ends, len(line))
	}
	return p
}

// moved is where a fault of one page stands in another one of the same lines.
func moved(f api.Fault, a, b page) api.Fault {
	i := slices.Index(a.lines, f.Line)
	if f == fine {
		return f
	}
	if i < 0 {
		return fault(f.Err, b.all+1, f.At)
	}
	f.Line = b.lines[i]
	if k := slices.Index(a.places[i], f.At); k >= 0 {
		f.At = b.places[i][k]
	} else {
		f.At = b.ends[i]
	}
	return f
}

// P10.4: lines without fields, remarks and further blanks turn nothing but places.
func TestBlanksAndRemarksTurnNothing(t *testing.T) {
	d := rolled(200003)
	none := func() string { return "" }
	gap := func() string { return d.one("", " ", "\t", "  \t ", "     ") }
	tail := func() string { return d.one("", " ", "\t ", " # x", "#", "\t#Rule A \x01\"") }
	further := func() string { return d.one("", "\n", "# x\n", " \t\n\n", "#\xff\n  # y\n", "\n\n\n") }
	wrong := 0
	for range 6000 {
		l := d.anyLines()
		a, b := put(l, none, none, none), put(l, gap, tail, further)
		s, f := source.Parse(a.text)
		r, g := source.Parse(b.text)
		if !sample.Same(s, r) || g != moved(f, a, b) {
			t.Fatalf("Parse(%q): %v, %v; Parse(%q): %v, %v", a.text, s, f, b.text, r, g)
		}
		reads(t, a.text)
		if reads(t, b.text) {
			wrong++
		}
	}
	if wrong < 1000 || wrong > 5000 {
		t.Fatalf("%d of 6000 texts are wrong", wrong)
	}
}

// P10.5: what is wrong is told by what stands up to its line.
func TestWhatStandsBehindTurnsNothing(t *testing.T) {
	d := rolled(200005)
	none := func() string { return "" }
	behind := []string{"", "\n", "\n\n", "\n?", "\nRule", "\n\x01", "\n" + strings.Repeat("x", 600), "\n0 - X", "\nZone A 0 - X\n", "\n" + times(300, "Link A B"), "\nLink A B\nZone A 24 - X 1990"}
	for range 3000 {
		p := put(d.anyLines(), none, none, none)
		_, f := source.Parse(p.text)
		if f == fine || f.Line > p.all {
			continue
		}
		// The lines up to the one that is wrong, and others behind them.
		upTo := strings.Join(strings.Split(p.text, "\n")[:f.Line], "\n")
		for _, text := range behind {
			refused(t, upTo+text, f)
		}
		if open := strings.Join(strings.Split(p.text, "\n")[:f.Line-1], "\n"); reads(t, open) {
			if _, g := source.Parse(open); g.Err != api.ErrFew || g.At != 0 {
				t.Fatalf("Parse(%q): %v; with the line behind it %v", open, g, f)
			}
		}
	}
}

// P10.1: texts of any bytes.
func TestAnyBytes(t *testing.T) {
	d := rolled(200007)
	pieces := []string{"Rule", "Zone", "Link", " ", " ", " ", "\n", "\n", "\t", "\"", "#", "A", "US", "1990", "only", "max", "-", "Oct", "lastSun", "2:00", "1:00", "0", "E%sT", "%z", "X", "24:00", "\x00", "\xff", "\r"}
	for range 40000 {
		var text strings.Builder
		for range d.To(40) {
			text.WriteString(pieces[d.To(len(pieces))])
		}
		reads(t, text.String())
	}
	for range 20000 {
		b := []byte("Rule US 1967 2006 - Oct lastSun 2:00 1:00 S\nZone A 1:00 - X 1980\n2:00 US E%sT\nLink A B\n")
		for range 1 + d.To(3) {
			b[d.To(len(b))] = byte(d.To(256))
		}
		reads(t, string(b))
	}
}

// shared tells whether two texts stand in one memory.
func shared(a, b string) bool {
	from, at := uintptr(unsafe.Pointer(unsafe.StringData(a))), uintptr(unsafe.Pointer(unsafe.StringData(b)))
	return a != "" && b != "" && from < at+uintptr(len(b)) && at < from+uintptr(len(a))
}

// Rule 4: what is handed in is not changed, its spare room neither, and an answer is new memory.
func TestMemory(t *testing.T) {
	text := "Rule US0 1967 2006 - Oct lastSun 2:00 1:00 S00\nZone A00 1:00 - X00 1980\n2:00 US0 E%sT\nZone B00 1:00 - Y00\nLink A00 B00\n"
	s, _ := source.Parse(text)
	r, _ := source.Parse(text)
	for _, x := range []string{s.Rules[0].Name, s.Rules[0].Letter, s.Zones[0].Name, s.Zones[0].Eras[0].Format, s.Zones[0].Eras[1].Rules, s.Zones[0].Eras[1].Format, s.Links[0].Target, s.Links[0].Name} {
		if shared(x, text) {
			t.Errorf("%q stands in the text's memory", x)
		}
	}
	if shared(s.Zones[0].Eras[1].Format, r.Zones[0].Eras[1].Format) {
		t.Error("two answers share memory")
	}
	// What is put behind a list, or changed in it, is seen nowhere else.
	for i := range s.Zones {
		eras := s.Zones[i].Eras
		for k := range eras[:cap(eras)] {
			eras[:cap(eras)][k] = api.Era{Format: "?"}
		}
		if i == 0 && s.Zones[1].Eras[0].Format != "Y00" {
			t.Error("eras of two zones share memory")
		}
	}
	if want, _ := model(text); !sample.Same(r, want) {
		t.Error(r)
	}
	x := tree()
	x.Rules = append(x.Rules, api.Rule{Name: "spare"})[:3]
	x.Zones[0].Eras = append(x.Zones[0].Eras, api.Era{Format: "spare"})[:3]
	source.Right(x)
	source.Print(x)
	if !sample.Same(x, tree()) || x.Rules[:4][3].Name != "spare" || x.Zones[0].Eras[:4][3].Format != "spare" {
		t.Error(x)
	}
}

// Rule 6: an answer doesn't hang on what was asked ahead of it.
func TestAskedAgain(t *testing.T) {
	for range 3 {
		reads(t, "Zone A 1:00 - X 1990\n2:00 - Y")
		reads(t, "2:00 - Y")
		reads(t, "Zone A 1:00 - X 1990")
		reads(t, times(200, "Rule A 1 max - Jan 1 0 0 -"))
		reads(t, times(201, "Rule A 1 max - Jan 1 0 0 -"))
		prints(t, tree())
		prints(t, api.Source{Links: []api.Link{{}}})
	}
}
