package table_test

import (
	"fmt"
	"math"
	"slices"
	"strings"
	"testing"

	"analemma/api"
	"analemma/sample"
	"analemma/sound"
	"analemma/table"
)

// P14.1, P14.3, P14.4: sources by a fixed rule.
func TestCompileByARule(t *testing.T) {
	d := sample.Rolled(1 << 16)
	for range 400 {
		tries(t, anySource(d, anySet))
	}
}

// P14.1, P14.3, P14.4: sources whose turns lie about the ends of years, some in the first year and some in the last ones that are named.
func TestCompileAboutTheEndsOfYears(t *testing.T) {
	d := sample.Rolled(1 << 16)
	for range 300 {
		tries(t, anySource(d, edgySet))
	}
}

// The chapter's examples, and the document's.
func TestExamples(t *testing.T) {
	s := sane("Zone A 1:00 - X")
	if got, e := table.Compile(s, 0); !alike(got, api.Table{Name: "A", First: api.Phase{Offset: 3600, Abbr: "X"}, Until: at(2040, 1, 1, 0, 0, 0)}) || e != api.OK {
		t.Error(got, e)
	}
	tries(t, s)
	s = sane(`
Rule E 1979 1995 - Sep lastSun 1:00u 0    -
Rule E 1980 only - Apr Sun>=1  1:00u 1:00 S
Rule E 1981 max  - Mar lastSun 1:00u 1:00 S
Rule E 1996 max  - Oct lastSun 1:00u 0    -
Zone A 1:00 E CE%sT`)
	x, e := table.Compile(s, 0)
	if e != api.OK || x.Until != at(2040, 1, 1, 0, 0, 0) || !slices.Equal(x.Tail, s.Rules[2:]) || x.Offset != 3600 || x.Format != "CE%sT" || x.First != (api.Phase{Offset: 3600, Abbr: "CET"}) {
		t.Error(x, e)
	}
	if len(x.Shifts) != 120 || x.Shifts[0] != (api.Shift{At: at(1980, 4, 6, 1, 0, 0), Phase: api.Phase{Offset: 7200, Save: 3600, Abbr: "CEST"}}) || x.Shifts[119] != (api.Shift{At: at(2039, 10, 30, 1, 0, 0), Phase: api.Phase{Offset: 3600, Abbr: "CET"}}) {
		t.Error(x.Shifts)
	}
	tries(t, s)
	s = sane("Rule US 2007 max - Mar Sun>=8 2:00 1:00 D\nRule US 2007 max - Nov Sun>=1 2:00 0 S\nZone NY -5:00 US E%sT\nLink NY Old")
	x, e = table.Compile(s, 0)
	for n, want := range map[int64]api.Phase{
		at(2021, 7, 1, 4, 0, 0): {Offset: -14400, Save: 3600, Abbr: "EDT"}, at(9999, 7, 1, 4, 0, 0): {Offset: -14400, Save: 3600, Abbr: "EDT"}, at(9999, 12, 1, 4, 0, 0): {Offset: -18000, Abbr: "EST"},
		at(2021, 3, 14, 6, 59, 59): {Offset: -18000, Abbr: "EST"}, at(2021, 3, 14, 7, 0, 0): {Offset: -14400, Save: 3600, Abbr: "EDT"}, at(2021, 11, 7, 5, 59, 59): {Offset: -14400, Save: 3600, Abbr: "EDT"}, at(2021, 11, 7, 6, 0, 0): {Offset: -18000, Abbr: "EST"},
	} {
		if got, ok := table.At(x, n); got != want || !ok || e != api.OK {
			t.Errorf("%d: %v, %v, %d; must be %v", n, got, ok, e, want)
		}
	}
	tries(t, s)
}

// P14.1, written out: all of a table of a zone with eras of each kind of saving.
func TestCompileWrittenOut(t *testing.T) {
	s := sane(many)
	phase := func(offset, save int, abbr string) api.Phase {
		return api.Phase{Offset: offset, Save: save, Abbr: abbr}
	}
	two := api.Table{Name: "Two", First: phase(-18000, 0, "AST"), Until: at(2040, 1, 1, 0, 0, 0)}
	for year := 1990; year < 1995; year++ {
		two.Shifts = append(two.Shifts,
			api.Shift{At: at(year, 4, 1, 7, 0, 0), Phase: phase(-14400, 3600, "ADT")},
			api.Shift{At: at(year, 10, 1, 6, 0, 0), Phase: phase(-18000, 0, "AST")})
	}
	two.Shifts = append(two.Shifts,
		api.Shift{At: at(1995, 4, 1, 7, 0, 0), Phase: phase(-14400, 3600, "ADT")},
		api.Shift{At: at(1995, 7, 1, 7, 0, 0), Phase: phase(0, 0, "Z")})
	four := api.Table{Name: "Four", First: phase(600, 0, "LMT"), Until: at(2040, 1, 1, 0, 0, 0), Tail: []api.Rule{s.Rules[0], s.Rules[4]}, Offset: 10800, Format: "N%s"}
	four.Shifts = []api.Shift{
		{At: at(1979, 12, 31, 23, 50, 0), Phase: phase(4800, 1200, "+2")},
		{At: at(1990, 5, 1, 11, 0, 0), Phase: phase(7200, 0, "+02")},
		{At: at(1995, 5, 31, 22, 0, 0), Phase: phase(5400, -1800, "+0130")},
		{At: at(2000, 1, 1, 0, 0, 0), Phase: phase(10800, 0, "N")},
	}
	for year := 2000; year < 2040; year++ {
		march, october := at(year, 3, 31, 1, 0, 0), at(year, 10, 31, 1, 0, 0)
		// 1970-01-01 was a Thursday, and so the fourth day ahead of a Sunday's midnight, which is the third of a week.
		march, october = march-(march/wholeDay+4)%7*wholeDay, october-(october/wholeDay+4)%7*wholeDay
		four.Shifts = append(four.Shifts, api.Shift{At: march, Phase: phase(14400, 3600, "NS")}, api.Shift{At: october, Phase: phase(10800, 0, "N")})
	}
	for zone, want := range map[int]api.Table{1: two, 2: four} {
		if got, e := table.Compile(s, zone); !alike(got, want) || e != api.OK {
			t.Errorf("zone %d: %v, %d; must be %v", zone, got, e, want)
		}
	}
	tries(t, s)
}

// P14.1: sources with a flaw of each kind, and such as aren't right: no zone of them is compiled, not even one that has no part in it.
func TestCompileOfFlaws(t *testing.T) {
	for _, more := range []string{
		"Rule Q 1990 1980 - Jan 1 0 0 -", strings.Repeat("Rule Q 1990 only - Jan 1 0 0 -\n", 11), strings.Repeat("Rule Q 1990 max - Jan 1 0 0 -\n", 3), "Rule E 2000 max - Jan 1 0 0 -", "Rule Q 1990 only - Jan 1 0 0 -\nRule Q 1990 only - Jan 2 0 0 -",
		"Zone Two 0 - X", "Zone Q 0 Nope X", "Zone Q 23:00 1:00 X", "Zone Q 0 - X 1990\n0 - X 1989\n0 - X",
		"Link Two Four", "Link Two Old", "Link Nowhere Q", "Link Q Q", "Link Q P\nLink P Q",
	} {
		s := parsed(many + more)
		if sound.Check(s) == (api.Flaw{}) {
			t.Fatalf("%q has no flaw", more)
		}
		tries(t, s)
		for z := range s.Zones {
			if got, e := table.Compile(s, z); !none(got) || e != api.ErrArg {
				t.Errorf("%q: %v, %d", more, got, e)
			}
		}
	}
	for i, change := range []func(s *api.Source){
		func(s *api.Source) { s.Rules[0].Name = "" }, func(s *api.Source) { s.Rules[0].To = api.Ever - 1 }, func(s *api.Source) { s.Rules[5].Letter = "-" }, func(s *api.Source) { s.Rules = append(s.Rules, api.Rule{}) },
		func(s *api.Source) { s.Zones[0].Name = "/" }, func(s *api.Source) { s.Zones[1].Eras = nil }, func(s *api.Source) { s.Zones[1].Eras[1].Until = true }, func(s *api.Source) { s.Zones[1].Eras[0].Until = false }, func(s *api.Source) { s.Zones[0].Eras[0].Offset = math.MinInt }, func(s *api.Source) { s.Zones[2].Eras[3].Kind = 3 }, func(s *api.Source) { s.Zones[1].Eras[1].Format = "" },
		func(s *api.Source) { s.Links[0].Name = "" }, func(s *api.Source) { s.Links = slices.Repeat(s.Links, 60) },
	} {
		s := parsed(many)
		change(&s)
		tries(t, s)
		for z := -1; z <= len(s.Zones); z++ {
			if got, e := table.Compile(s, z); !none(got) || e != api.ErrArg {
				t.Errorf("change %d, zone %d: %v, %d", i, z, got, e)
			}
		}
	}
	for _, s := range []api.Source{{}, {Zones: []api.Zone{}}, {Rules: sane(many).Rules}, {Zones: []api.Zone{{}}}} {
		tries(t, s)
	}
}

// P14.1: Until, by the greatest year that a zone and its sets name.
func TestUntil(t *testing.T) {
	for _, x := range []struct {
		text string
		last int
	}{
		{"Zone A 1 - X", 2037},
		{"Zone A 1 - X 2036\n2 - X", 2037}, {"Zone A 1 - X 2037\n2 - X", 2037}, {"Zone A 1 - X 2038\n2 - X", 2038}, {"Zone A 1 - X 1990\n1 - Y 2100\n2 - X", 2100}, {"Zone A 1 - X 9999 Dec 31 167:59:59\n2 - X", 9999}, {"Zone A 1 - X 1\n2 - X", 2037},
		{"Zone A 1 R X\nRule R 1990 2036 - Jan 1 0 0 -", 2037}, {"Zone A 1 R X\nRule R 1990 2037 - Jan 1 0 0 -", 2037}, {"Zone A 1 R X\nRule R 1990 2038 - Jan 1 0 0 -", 2038}, {"Zone A 1 R X\nRule R 9999 only - Jan 1 0 0 -", 9999}, {"Zone A 1 R X\nRule R 1990 max - Jan 1 0 0 -", 2037},
		{"Zone A 1 R X\nRule R 2037 max - Jan 1 0 0 -", 2037}, {"Zone A 1 R X\nRule R 2038 max - Jan 1 0 0 -", 2038}, {"Zone A 1 R X\nRule R 9999 max - Jan 1 0 0 -", 9999}, {"Zone A 1 R X\nRule R 2000 2050 - Jan 1 0 0 -\nRule R 2040 2045 - Jul 1 0 0 -\nRule R 2041 max - Apr 1 0 0 -", 2050},
		// The sets of all eras count, wherever these stand, and no others.
		{"Zone A 1 R X 1990\n1 - Y 1991\n1 Q X\nRule R 2000 2060 - Jan 1 0 0 -\nRule Q 2000 2050 - Jan 1 0 0 -", 2060}, {"Zone A 1 R X 1990\n1 - Y 1991\n1 Q X\nRule R 2000 2050 - Jan 1 0 0 -\nRule Q 2000 2060 - Jan 1 0 0 -", 2060}, {"Zone A 1 R X 2070\n1 - Y\nRule R 2000 2060 - Jan 1 0 0 -", 2070},
		{"Zone A 1 R X\nRule R 2000 2050 - Jan 1 0 0 -\nRule Q 2000 2060 - Jan 1 0 0 -", 2050}, {"Zone A 1 1:00 X\nRule R 2000 2050 - Jan 1 0 0 -\nZone B 1 R X 3000\n0 - X", 2037},
	} {
		s := sane(x.text)
		got, e := table.Compile(s, 0)
		if got.Until != at(x.last+3, 1, 1, 0, 0, 0) || e != api.OK {
			t.Errorf("%q: %d, %d; must be the year %d", x.text, got.Until, e, x.last+3)
		}
		tries(t, s)
	}
}

// P14.1: shifts up to Until, not at it, and in the years behind the last one that is named.
func TestShiftsAheadOfUntil(t *testing.T) {
	for near := -2; near <= 2; near++ {
		for ref := range 3 {
			for _, save := range []int{0, hour, -hour} {
				// The rule turns at about the beginning of each year, by universal time.
				time := near
				if ref != utc {
					time += hour
				}
				if ref == wall {
					time += save
				}
				s := api.Source{Rules: []api.Rule{
					{Name: "R", From: 2000, To: api.Ever, Spot: day(7, 1, 0, utc), Save: save, Letter: "A"},
					{Name: "R", From: 2000, To: api.Ever, Spot: day(1, 1, time, ref), Letter: "B"},
				}, Zones: []api.Zone{{Name: "Z", Eras: []api.Era{{Offset: hour, Kind: api.SaveRules, Rules: "R", Format: "%s"}}}}}
				tries(t, s)
				x, _ := table.Compile(s, 0)
				last := x.Shifts[len(x.Shifts)-1]
				if near < 0 && last.At != at(2040, 1, 1, 0, 0, near) || near >= 0 && last.At != at(2039, 7, 1, 0, 0, 0) {
					t.Errorf("%d seconds behind Until, clock %d, save %d: %v", near, ref, save, last)
				}
			}
		}
	}
}

// P14.1, written out: which rules are the tail, and what stands beside it.
func TestTail(t *testing.T) {
	const sets = `
Rule R 1990 max  - Mar 1 0 1:00 D
Rule Q 1990 1999 - Jul 1 0 1:00 D
Rule P 2000 max  - Oct 1 0 0    -
Rule R 1990 1999 - Jul 1 0 0    S
Rule P 1990 1999 - Mar 1 0 1:00 x
Rule R 2000 max  - Oct 1 0 0    T
Rule O 2000 max  - Oct 1 0 0    -
Rule O 2000 max  - Jan 1 0 0    -
`
	for _, x := range []struct {
		zone   string
		tail   []int
		offset int
		format string
	}{
		{"1:00 R X%s", []int{0, 5}, 3600, "X%s"}, {"-1:00 P %z", []int{2}, -3600, "%z"}, {"0 P A/B", []int{2}, 0, "A/B"}, {"1:00 Q X", nil, 0, ""}, {"1:00 - X", nil, 0, ""}, {"1:00 1:00 X", nil, 0, ""}, {"1:00 O X", []int{6, 7}, 3600, "X"},
		{"1:00 - Y 1980\n2:00 R X", []int{0, 5}, 7200, "X"}, {"1:00 R Y 2000\n2:00 - X", nil, 0, ""}, {"1:00 R Y 2000\n2:00 1:00 X", nil, 0, ""}, {"1:00 R Y 2000\n2:00 Q X", nil, 0, ""}, {"1:00 R Y 2000\n2:00 P X", []int{2}, 7200, "X"}, {"1:00 P Y 9999\n2:00 R X", []int{0, 5}, 7200, "X"},
	} {
		s := sane(sets + "Zone A " + x.zone)
		var want []api.Rule
		for _, i := range x.tail {
			want = append(want, s.Rules[i])
		}
		got, e := table.Compile(s, 0)
		if !slices.Equal(got.Tail, want) || got.Offset != x.offset || got.Format != x.format || e != api.OK {
			t.Errorf("%q: %v, %d, %q, %d; must be %v", x.zone, got.Tail, got.Offset, got.Format, e, want)
		}
		tries(t, s)
		slices.Reverse(s.Rules)
		slices.Reverse(want)
		if got, _ := table.Compile(s, 0); !slices.Equal(got.Tail, want) {
			t.Errorf("%q, turned about: %v; must be %v", x.zone, got.Tail, want)
		}
	}
}

// P14.1: turns and ends at which nothing changes are no shifts; a change of the abbreviation alone, or of the saving alone, is one.
func TestWhatIsAShift(t *testing.T) {
	for _, x := range []struct {
		text string
		want []int64
	}{
		{"Zone A 1:00 - X 1990\n1:00 - X", nil},
		{"Zone A 1:00 - X 1990 Jan 1 0:00u\n1:00 - Y", []int64{at(1990, 1, 1, 0, 0, 0)}},
		{"Zone A 1:00 - X 1990 Jan 1 0:00u\n0:00 1:00 X", []int64{at(1990, 1, 1, 0, 0, 0)}},
		{"Zone A 1:00 - X 1990 Jan 1 0:00u\n2:00 -1:00 X 1991 Jan 1 0:00u\n1:00 - X", []int64{at(1990, 1, 1, 0, 0, 0), at(1991, 1, 1, 0, 0, 0)}},
		{"Zone A 1:00 - X 1990\n1:00 0 X 1991\n1:00 0 A/X 1992 Jan 1 0:00u\n1:00 - X", []int64{at(1991, 1, 1, 0, 0, 0) - 3600, at(1992, 1, 1, 0, 0, 0)}},
		{"Rule R 2000 2003 - Mar 1 0 0 S\nRule R 2000 2003 - Aug 1 0 0 S\nZone A 0 R %s", nil},
		{"Rule R 2000 2003 - Mar 1 0 0 S\nRule R 2000 2003 - Aug 1 0 0 -\nZone A 0 R X", nil},
		{"Rule R 2000 2000 - Mar 1 0u 0 S\nRule R 2000 2000 - Aug 1 0u 0 T\nZone A 0 R %s", []int64{at(2000, 8, 1, 0, 0, 0)}},
		{"Rule R 2000 2000 - Mar 1 0u 1:00 S\nRule R 2000 2000 - Aug 1 0u 1:00 S\nZone A 0 R %s", []int64{at(2000, 3, 1, 0, 0, 0)}},
		// An era that ends just where its set turns, or in which the next one's set turns just then, has one shift there, or none.
		{"Rule R 2000 2000 - Mar 1 0u 1:00 S\nZone A 0 R X 2000 Mar 1 0u\n1:00 - X", []int64{at(2000, 3, 1, 0, 0, 0)}},
		{"Rule R 2000 2000 - Mar 1 0u 1:00 S\nZone A 1:00 - X 2000 Mar 1 0u\n0 R X", []int64{at(2000, 3, 1, 0, 0, 0)}},
		{"Rule R 2000 2000 - Mar 1 0u 0 S\nRule R 1999 1999 - Mar 1 0u 1:00 S\nZone A 1:00 - X 2000 Mar 1 0u\n1:00 R X", nil},
		{"Rule R 2000 2000 - Mar 1 0u 1:00 S\nZone A 0 R X 2000 Mar 1 0u\n0 R X", []int64{at(2000, 3, 1, 0, 0, 0)}},
		{"Rule R 2000 2000 - Mar 1 0:00:01u 1:00 S\nZone A 1:00 - X 2000 Mar 1 0u\n0 R X", []int64{at(2000, 3, 1, 0, 0, 0), at(2000, 3, 1, 0, 0, 1)}},
		{"Rule R 2000 2000 - Feb 29 23:59:59u 1:00 S\nZone A 0 R X 2000 Mar 1 0u\n0 - X", []int64{at(2000, 2, 29, 23, 59, 59), at(2000, 3, 1, 0, 0, 0)}},
		// By wall's clock the first turn of an era is less what its set saves ahead of it, whatever the era ahead saved.
		{"Rule R 1990 only - Mar 1 0 1:00 S\nRule R 2000 only - Mar 1 1:00 0 S\nZone A 0 12:00 Y 1999 Jan 1 0u\n0 R X", []int64{at(1999, 1, 1, 0, 0, 0), at(2000, 3, 1, 0, 0, 0)}},
		{"Rule R 2000 only - Mar 1 1:00 1:00 S\nZone A 0 12:00 Y 1999 Jan 1 0u\n0 R X", []int64{at(1999, 1, 1, 0, 0, 0), at(2000, 3, 1, 1, 0, 0)}},
	} {
		s := sane(x.text)
		x0, e := table.Compile(s, 0)
		var got []int64
		for _, shift := range x0.Shifts {
			got = append(got, shift.At)
		}
		if !slices.Equal(got, x.want) || e != api.OK {
			t.Errorf("%q: %v, %d; must be %v", x.text, x0.Shifts, e, x.want)
		}
		tries(t, s)
	}
}

// yearly is a source of a set that turns so often each year, of the years from one to another, each turn to other letters than the one ahead.
func yearly(often, from, to int) api.Source {
	s := api.Source{Zones: []api.Zone{{Name: "Z", Eras: []api.Era{{Kind: api.SaveRules, Rules: "R", Format: "%s"}}}}}
	for i := range often {
		s.Rules = append(s.Rules, api.Rule{Name: "R", From: from, To: to, Spot: day(1+i, 15, 0, i%3), Letter: fmt.Sprint("L", i)})
	}
	return s
}

// more is a source with so many further rules of its set, of a year each.
func more(s api.Source, n int) api.Source {
	for i := range n {
		s.Rules = append(s.Rules, api.Rule{Name: "R", From: 5000 + i, To: 5000 + i, Spot: day(7, 15, 0, utc), Letter: "M"})
	}
	return s
}

// endless is a source of which the first two rules go on for ever.
func endless(s api.Source) api.Source {
	s.Rules[0].To, s.Rules[1].To = api.Ever, api.Ever
	return s
}

// P14.1: as many shifts as may be, and one more.
func TestAsManyShiftsAsMayBe(t *testing.T) {
	for _, x := range []struct {
		what   string
		s      api.Source
		shifts int
	}{
		// Ahead of all turns the letter is the first turn's, so that this one is no shift.
		{"three a year", yearly(3, 1, 9999), 29996},
		{"one more", more(yearly(3, 1, 9999), 1), 29997},
		{"four more", more(yearly(3, 1, 9999), 4), 30000},
		{"five more", more(yearly(3, 1, 9999), 5), 30001},
		{"ten in 3000 years", yearly(10, 1001, 4000), 29999},
		{"ten in 3000 years, and behind them one letter twice", more(yearly(10, 1001, 4000), 2), 30000},
		{"ten a year", yearly(10, 1, 9999), 99989},
		// Two years are ahead of Until behind the last one that is named.
		{"three a year up to 9997, two for ever", endless(yearly(3, 1, 9997)), 29994},
		{"three a year up to 9999, two for ever", endless(yearly(3, 1, 9999)), 30000},
		{"three a year up to 9999, two for ever, and one more", more(endless(yearly(3, 1, 9999)), 1), 30001},
	} {
		got, e := table.Compile(x.s, 0)
		if x.shifts > 30000 {
			if !none(got) || e != api.ErrMany {
				t.Errorf("%s: %d shifts, %d", x.what, len(got.Shifts), e)
			}
			continue
		}
		if len(got.Shifts) != x.shifts || e != api.OK {
			t.Errorf("%s: %d shifts, %d; must be %d", x.what, len(got.Shifts), e, x.shifts)
		}
		follows(t, x.s, 0, got)
	}
}

// P14.1: far more turns than shifts may be, at most of which nothing changes.
func TestManyTurnsWithoutShifts(t *testing.T) {
	s := yearly(10, 1, 9999)
	for i := range s.Rules {
		s.Rules[i].Letter = "S"
	}
	if got, e := table.Compile(s, 0); len(got.Shifts) != 0 || e != api.OK || got.Until != at(10002, 1, 1, 0, 0, 0) {
		t.Errorf("%d shifts, %d", len(got.Shifts), e)
	}
	s.Rules[4].Save, s.Rules[4].To = hour, 2000
	if got, e := table.Compile(s, 0); len(got.Shifts) != 4000 || e != api.OK {
		t.Errorf("%d shifts, %d", len(got.Shifts), e)
	}
}

// P14.1, P14.3: as many eras as may be, of which each has some turns of one set, or none.
func TestAsManyErasAsMayBe(t *testing.T) {
	for _, months := range []int{1, 4, 7, 13} {
		s := yearly(5, 1980, api.Ever)
		for i := range s.Rules {
			s.Rules[i].Save = []int{0, hour, -hour}[i%3]
			if i > 1 {
				s.Rules[i].To = 2030
			}
		}
		var l []api.Era
		for i := range api.MaxEras {
			x := api.Era{Offset: i % 4 * 100, Kind: api.SaveRules, Rules: "R", Format: "%s"}
			if i < api.MaxEras-1 {
				n := 1985*12 + i*months
				x.Until, x.Year, x.Spot = true, n/12, day(1+n%12, 15, 0, i%3)
			}
			l = append(l, x)
		}
		s.Zones[0].Eras = l
		if f := sound.Check(s); f != (api.Flaw{}) {
			t.Fatal(f)
		}
		tries(t, s)
	}
}
