package eras_test

import (
	"math"
	"slices"
	"testing"
	"unsafe"

	"analemma/api"
	"analemma/eras"
	"analemma/sample"
	"analemma/source"
)

// P12.1 to P12.3: sources by a fixed rule.
func TestSourcesByARule(t *testing.T) {
	d := sample.Rolled(1 << 17)
	for range 400 {
		s := anySource(d)
		if !source.Right(s) {
			t.Fatalf("%v isn't right", s)
		}
		tries(t, s)
	}
}

// P12.1, written out: names that no rule, one rule and several rules have, in sources that are right and that are not.
func TestSetWrittenOut(t *testing.T) {
	rule := func(name, letter string) api.Rule {
		return api.Rule{Name: name, From: 2000, To: 2001, Spot: day(5, 1, 0, wall), Letter: letter}
	}
	l := []api.Rule{rule("A", "1"), rule("B", "2"), rule("A", "3"), rule("AB", "4"), rule("C", "5"), rule("a", "6"), rule("B", "7"), rule("A", "8"), rule("A", "3")}
	wrong := append(slices.Clone(l), api.Rule{Letter: "9"}, rule("1 /", "10"), rule("", "11"), api.Rule{Name: "A", From: -1, Letter: "12"}, rule("\x00\xff", "13"))
	for _, x := range []struct {
		l     []api.Rule
		name  string
		which []int
	}{
		{l, "A", []int{0, 2, 7, 8}}, {l, "B", []int{1, 6}}, {l, "AB", []int{3}}, {l, "C", []int{4}}, {l, "a", []int{5}},
		{l, "", nil}, {l, "b", nil}, {l, "ABC", nil}, {l, "A ", nil}, {l, " A", nil}, {l, "Z", nil}, {l, "A*", nil}, {l, "\x00", nil}, {nil, "A", nil}, {nil, "", nil}, {l[:2], "C", nil},
		{wrong, "A", []int{0, 2, 7, 8, 12}}, {wrong, "B", []int{1, 6}}, {wrong, "", []int{9, 11}}, {wrong, "1 /", []int{10}}, {wrong, "\x00\xff", []int{13}}, {wrong, "Z", nil}, {wrong, "\x00", nil},
	} {
		var want []api.Rule
		for _, i := range x.which {
			want = append(want, x.l[i])
		}
		// What else a source has counts for nothing, be it right or not.
		for _, s := range []api.Source{
			{Rules: x.l}, {Rules: x.l, Zones: []api.Zone{{Name: x.name, Eras: []api.Era{saved(0, api.SaveRules, 0, "X")}}}},
			{Rules: x.l, Zones: []api.Zone{{}}, Links: make([]api.Link, 200)}, {Rules: x.l, Links: []api.Link{{Target: x.name, Name: x.name}}},
		} {
			if got := eras.Set(s, x.name); !slices.Equal(got, want) {
				t.Errorf("%q: %v; must be %v", x.name, got, want)
			}
			triesSets(t, s)
		}
	}
	many := slices.Repeat([]api.Rule{rule("A", "1"), rule("B", "2")}, 300)
	if got := eras.Set(api.Source{Rules: many}, "B"); len(got) != 300 || got[0] != many[1] || got[299] != many[1] {
		t.Error(len(got))
	}
}

// P12.3: as many eras, zones, rules and links as may be, and one more of each.
func TestAsManyAsMayBe(t *testing.T) {
	s := ended(slices.Repeat([]int{3, 1, 2, 4, 6}, 7))
	for i := range 4 {
		s.Zones[0].Eras = slices.Insert(s.Zones[0].Eras, len(s.Zones[0].Eras)-1, until(saved(i, api.SaveRules, 0, "R%s"), 2000, day(2, 1+i, 0, utc)))
	}
	d := sample.Rolled(1 << 12)
	for range api.MaxRules {
		s.Rules = append(s.Rules, d.Rule())
	}
	last := api.Zone{Name: "Last", Eras: []api.Era{saved(hour, api.SaveRules, 0, "L%s")}}
	s.Zones = append(s.Zones, slices.Repeat([]api.Zone{last}, api.MaxZones-1)...)
	s.Links = slices.Repeat([]api.Link{{Target: "Z", Name: "L"}}, api.MaxLinks)
	if len(s.Zones[0].Eras) != api.MaxEras || !source.Right(s) {
		t.Fatal(len(s.Zones[0].Eras))
	}
	for n := at(1999, 12, 31, 12, 0, 0); n < at(2000, 2, 6, 0, 0, 0); n += wholeDay / 2 {
		want := phaseOf(s, s.Zones[0].Eras[holds(s, s.Zones[0].Eras, n)], n)
		if got, ok := eras.At(s, 0, n); got != want || !ok {
			t.Errorf("%d: %v, %v; must be %v", n, got, ok, want)
		}
		want = phaseOf(s, last.Eras[0], n)
		if got, ok := eras.Phase(s, api.MaxZones-1, 0, n); got != want || !ok {
			t.Errorf("%d: %v, %v; must be %v", n, got, ok, want)
		}
	}
	for _, more := range []func(x *api.Source){
		func(x *api.Source) { x.Rules = append(x.Rules, x.Rules[0]) },
		func(x *api.Source) { x.Zones = append(x.Zones, last) },
		func(x *api.Source) { x.Links = append(x.Links, x.Links[0]) },
		func(x *api.Source) { x.Zones[0].Eras = slices.Insert(x.Zones[0].Eras, 0, x.Zones[0].Eras[0]) },
	} {
		x := copied(s)
		more(&x)
		if source.Right(x) {
			t.Fatal("right")
		}
		for _, z := range []int{0, 1, api.MaxZones - 1, api.MaxZones} {
			nowhere(t, x, z)
		}
	}
}

// P12.2, P12.3: zones and eras whose place is below 0 or too great.
func TestPlaces(t *testing.T) {
	s := parsed(ruled)
	for z, zone := range s.Zones {
		for _, i := range places(len(zone.Eras)) {
			nothing(t, s, z, i)
		}
	}
	for _, z := range places(len(s.Zones)) {
		nowhere(t, s, z)
	}
	for _, s := range []api.Source{{}, {Rules: s.Rules}, {Links: s.Links}, {Zones: []api.Zone{}}} {
		for _, z := range append(places(0), places(3)...) {
			nowhere(t, s, z)
		}
	}
}

// P12.2, P12.3: sources that aren't right, in whatever part of them: nothing is told, of no zone.
func TestNotRight(t *testing.T) {
	tries(t, parsed(ruled))
	for _, x := range []struct {
		what   string
		change func(s *api.Source)
	}{
		{"a rule without a name", func(s *api.Source) { s.Rules[0].Name = "" }},
		{"a rule's name", func(s *api.Source) { s.Rules[3].Name = "1:00" }},
		{"From 0", func(s *api.Source) { s.Rules[1].From = 0 }},
		{"From beyond MaxYear", func(s *api.Source) { s.Rules[5].From = 10000 }},
		{"To 0", func(s *api.Source) { s.Rules[2].To = 0 }},
		{"To ahead of Ever", func(s *api.Source) { s.Rules[0].To = api.Ever - 1 }},
		{"a rule's month", func(s *api.Source) { s.Rules[0].Spot.Month = 13 }},
		{"a rule's weekday", func(s *api.Source) { s.Rules[0].Spot.Weekday = 0 }},
		{"a rule's time", func(s *api.Source) { s.Rules[0].Spot.Time = 604800 }},
		{"a rule's clock", func(s *api.Source) { s.Rules[5].Spot.Ref = 3 }},
		{"a rule's saving", func(s *api.Source) { s.Rules[1].Save = 43201 }},
		{"a rule's letter", func(s *api.Source) { s.Rules[1].Letter = "-" }},
		{"an empty rule behind all", func(s *api.Source) { s.Rules = append(s.Rules, api.Rule{}) }},
		{"a zone without a name", func(s *api.Source) { s.Zones[0].Name = "" }},
		{"a zone's name", func(s *api.Source) { s.Zones[2].Name = "a//b" }},
		{"a zone without eras", func(s *api.Source) { s.Zones[1].Eras = nil }},
		{"an empty zone behind all", func(s *api.Source) { s.Zones = append(s.Zones, api.Zone{}) }},
		{"a last era with an Until", func(s *api.Source) { s.Zones[0].Eras[0] = until(s.Zones[0].Eras[0], 2000, day(1, 1, 0, wall)) }},
		{"a last era that is missing", func(s *api.Source) { s.Zones[2].Eras = s.Zones[2].Eras[:3] }},
		{"a first era without an Until", func(s *api.Source) { s.Zones[1].Eras[0] = s.Zones[1].Eras[1] }},
		{"an Until alone taken away", func(s *api.Source) { s.Zones[2].Eras[1].Until = false }},
		{"an offset of a day", func(s *api.Source) { s.Zones[1].Eras[1].Offset = 86400 }},
		{"an offset below", func(s *api.Source) { s.Zones[0].Eras[0].Offset = -86400 }},
		{"the greatest offset", func(s *api.Source) { s.Zones[0].Eras[0].Offset = math.MaxInt }},
		{"a kind below", func(s *api.Source) { s.Zones[1].Eras[1].Kind = -1 }},
		{"a fourth kind", func(s *api.Source) { s.Zones[0].Eras[0].Kind = 3 }},
		{"the greatest kind", func(s *api.Source) { s.Zones[1].Eras[1].Kind = math.MaxInt }},
		{"a kind that doesn't go with its fields", func(s *api.Source) { s.Zones[0].Eras[0].Kind = api.SaveNone }},
		{"a saving beside none", func(s *api.Source) { s.Zones[1].Eras[1].Save = hour }},
		{"a saving beside rules", func(s *api.Source) { s.Zones[0].Eras[0].Save = hour }},
		{"rules beside a saving", func(s *api.Source) { s.Zones[2].Eras[1].Rules = "A" }},
		{"a saving too great", func(s *api.Source) { s.Zones[2].Eras[1].Save = -43201 }},
		{"no rules", func(s *api.Source) { s.Zones[0].Eras[0].Rules = "" }},
		{"no format", func(s *api.Source) { s.Zones[1].Eras[1].Format = "" }},
		{"a format of two marks", func(s *api.Source) { s.Zones[0].Eras[0].Format = "%s/%z" }},
		{"an Until of the year 0", func(s *api.Source) { s.Zones[2].Eras[0].Year = 0 }},
		{"an Until beyond MaxYear", func(s *api.Source) { s.Zones[2].Eras[0].Year = 10000 }},
		{"an Until's spot", func(s *api.Source) { s.Zones[2].Eras[2].Spot.Day = 0 }},
		{"an Until's clock", func(s *api.Source) { s.Zones[1].Eras[0].Spot.Ref = 3 }},
		{"a year without an Until", func(s *api.Source) { s.Zones[2].Eras[3].Year = 2000 }},
		{"a spot without an Until", func(s *api.Source) { s.Zones[2].Eras[3].Spot = day(1, 1, 0, wall) }},
		{"a link without a name", func(s *api.Source) { s.Links[1].Name = "" }},
		{"a link's target", func(s *api.Source) { s.Links[0].Target = "/" }},
		{"an empty link behind all", func(s *api.Source) { s.Links = append(s.Links, api.Link{}) }},
	} {
		s := parsed(ruled)
		x.change(&s)
		if source.Right(s) {
			t.Fatalf("%s: right", x.what)
		}
		t.Run(x.what, func(t *testing.T) { refused(t, s) })
	}
}

// told is all that is told of a zone.
type told struct {
	ends        []int64
	phases, all []api.Phase
}

// ask asks all that is told of a zone, at some times.
func ask(s api.Source, zone int, times []int64) told {
	var x told
	for i := range s.Zones[zone].Eras {
		n, _ := eras.End(s, zone, i)
		x.ends = append(x.ends, n)
		for _, n := range times {
			p, _ := eras.Phase(s, zone, i, n)
			x.phases = append(x.phases, p)
		}
	}
	for _, n := range times {
		p, _ := eras.At(s, zone, n)
		x.all = append(x.all, p)
	}
	return x
}

// alike tells whether the same is told.
func (x told) alike(y told) bool {
	return slices.Equal(x.ends, y.ends) && slices.Equal(x.phases, y.phases) && slices.Equal(x.all, y.all)
}

// others are changes of what neither a zone nor its sets are; each tells where the zone stands then.
func others(own func(r api.Rule) bool) []func(s *api.Source, zone int) int {
	more := parsed(ruled)
	for i := range more.Rules {
		more.Rules[i].Name += "-other"
	}
	return []func(s *api.Source, zone int) int{
		func(s *api.Source, zone int) int {
			s.Zones = s.Zones[zone : zone+1]
			return 0
		},
		func(s *api.Source, zone int) int {
			s.Zones = slices.Concat(more.Zones, s.Zones)
			return zone + len(more.Zones)
		},
		func(s *api.Source, zone int) int {
			s.Zones = append(s.Zones, s.Zones[zone])
			s.Zones = append(s.Zones, more.Zones...)
			return zone
		},
		func(s *api.Source, zone int) int {
			slices.Reverse(s.Zones)
			return len(s.Zones) - 1 - zone
		},
		func(s *api.Source, zone int) int {
			for i := range s.Zones {
				if i != zone {
					s.Zones[i] = api.Zone{Name: s.Zones[zone].Name, Eras: slices.Concat(more.Zones[1].Eras[:1], s.Zones[zone].Eras)}
				}
			}
			return zone
		},
		func(s *api.Source, zone int) int {
			s.Zones[zone].Name = "Another/Name"
			return zone
		},
		func(s *api.Source, zone int) int {
			s.Links = nil
			return zone
		},
		func(s *api.Source, zone int) int {
			s.Links = append(s.Links, more.Links...)
			slices.Reverse(s.Links)
			s.Links = append(s.Links, api.Link{Target: "Nowhere", Name: s.Zones[zone].Name}, api.Link{Target: "B", Name: "A"})
			return zone
		},
		func(s *api.Source, zone int) int {
			s.Rules = slices.DeleteFunc(s.Rules, func(r api.Rule) bool { return !own(r) })
			return zone
		},
		func(s *api.Source, zone int) int {
			var l []api.Rule
			for _, r := range s.Rules {
				l = append(append(l, more.Rules[len(l)%len(more.Rules)], r), more.Rules...)
			}
			s.Rules = append(l, more.Rules...)
			return zone
		},
		func(s *api.Source, zone int) int {
			for i, r := range s.Rules {
				if !own(r) {
					s.Rules[i] = more.Rules[i%len(more.Rules)]
					s.Rules[i].Name = r.Name
				}
			}
			return zone
		},
		func(s *api.Source, zone int) int {
			// Other sets turn about, and stand behind all of the zone's own.
			rest := slices.DeleteFunc(slices.Clone(s.Rules), own)
			slices.Reverse(rest)
			s.Rules = append(slices.DeleteFunc(s.Rules, func(r api.Rule) bool { return !own(r) }), rest...)
			return zone
		},
	}
}

// P12.4: what a zone tells hangs on its eras, and on the sets that they name, alone.
func TestOtherPartsTurnNothing(t *testing.T) {
	d := sample.Rolled(1 << 16)
	l := []api.Source{parsed(ruled)}
	for range 60 {
		l = append(l, anySource(d))
	}
	for _, s := range l {
		for z, zone := range s.Zones {
			own := func(r api.Rule) bool {
				return slices.ContainsFunc(zone.Eras, func(x api.Era) bool { return x.Rules == r.Name })
			}
			when := times(s, zone.Eras)
			want := ask(s, z, when)
			for i, change := range others(own) {
				x := copied(s)
				place := change(&x, z)
				if !source.Right(x) {
					t.Fatalf("change %d of %v: not right", i, s)
				}
				if !ask(x, place, when).alike(want) {
					t.Fatalf("change %d of %v turns what zone %d tells", i, s, z)
				}
			}
		}
	}
}

// P12.4: what its eras and the sets that they name are, all of it counts.
func TestOwnPartsCount(t *testing.T) {
	s := parsed(ruled)
	when := times(s, slices.Concat(s.Zones[0].Eras, s.Zones[1].Eras, s.Zones[2].Eras))
	for _, x := range []struct {
		what   string
		turned []bool // of which zones something else is told
		change func(s *api.Source)
	}{
		{"a saving of E", []bool{true, false, false}, func(s *api.Source) { s.Rules[0].Save = 7200 }},
		{"a letter of E", []bool{true, false, false}, func(s *api.Source) { s.Rules[4].Letter = "x" }},
		{"a spot of E", []bool{true, false, false}, func(s *api.Source) { s.Rules[2].Spot.Time++ }},
		{"a rule of A taken away", []bool{false, true, false}, func(s *api.Source) { s.Rules = slices.Delete(s.Rules, 1, 2) }},
		{"a rule of A named B", []bool{false, true, true}, func(s *api.Source) { s.Rules[1].Name = "B" }},
		{"a year of B", []bool{false, false, true}, func(s *api.Source) { s.Rules[3].From = 1994 }},
		{"a rule for None", []bool{false, false, true}, func(s *api.Source) {
			s.Rules = append(s.Rules, api.Rule{Name: "None", From: 2000, To: 2000, Spot: day(1, 2, 0, utc), Save: 1})
		}},
		{"an offset", []bool{true, false, false}, func(s *api.Source) { s.Zones[0].Eras[0].Offset++ }},
		{"a format", []bool{false, true, false}, func(s *api.Source) { s.Zones[1].Eras[1].Format = "X" }},
		{"an end", []bool{false, true, false}, func(s *api.Source) { s.Zones[1].Eras[0].Spot.Time++ }},
		{"an end's year", []bool{false, false, true}, func(s *api.Source) { s.Zones[2].Eras[2].Year++ }},
		{"an end's clock", []bool{false, false, true}, func(s *api.Source) { s.Zones[2].Eras[1].Spot.Ref = wall }},
		{"a saving of an era", []bool{false, false, true}, func(s *api.Source) { s.Zones[2].Eras[1].Save = 0 }},
	} {
		changed := parsed(ruled)
		x.change(&changed)
		for z, turned := range x.turned {
			if ask(changed, z, when).alike(ask(s, z, when)) == turned {
				t.Errorf("%s, zone %d: turned must be %v", x.what, z, turned)
			}
		}
		tries(t, changed)
	}
}

// The chapter's examples, and the document's.
func TestExamples(t *testing.T) {
	europe := parsed(`
Rule E 1977 1980 - Apr Sun>=1  1:00u 1:00 S
Rule E 1977 only - Sep lastSun 1:00u 0    -
Rule E 1978 only - Oct 1       1:00u 0    -
Rule E 1979 1995 - Sep lastSun 1:00u 0    -
Rule E 1981 max  - Mar lastSun 1:00u 1:00 S
Rule E 1996 max  - Oct lastSun 1:00u 0    -
Zone A 1:00 E C%sT`)
	for n, want := range map[int64]api.Phase{
		at(2021, 7, 1, 0, 0, 0): {Offset: 7200, Save: 3600, Abbr: "CST"}, at(2021, 1, 1, 0, 0, 0): {Offset: 3600, Abbr: "CT"},
		at(2021, 3, 28, 0, 59, 59): {Offset: 3600, Abbr: "CT"}, at(2021, 3, 28, 1, 0, 0): {Offset: 7200, Save: 3600, Abbr: "CST"},
		at(2021, 10, 31, 0, 59, 59): {Offset: 7200, Save: 3600, Abbr: "CST"}, at(2021, 10, 31, 1, 0, 0): {Offset: 3600, Abbr: "CT"},
	} {
		if got, ok := eras.At(europe, 0, n); got != want || !ok {
			t.Errorf("%d: %v, %v; must be %v", n, got, ok, want)
		}
	}
	tries(t, europe)
	if got := eras.Abbr("%z", "", -12600, 0); got != "-0330" {
		t.Error(got)
	}
	york := parsed("Rule US 2007 max - Mar Sun>=8 2:00 1:00 D\nRule US 2007 max - Nov Sun>=1 2:00 0 S\nZone NY -5:00 US E%sT\nLink NY Old")
	for n, want := range map[int64]api.Phase{
		at(2021, 7, 1, 0, 0, 0): {Offset: -14400, Save: 3600, Abbr: "EDT"}, at(9999, 7, 1, 0, 0, 0): {Offset: -14400, Save: 3600, Abbr: "EDT"}, at(9999, 12, 31, 0, 0, 0): {Offset: -18000, Abbr: "EST"}, at(1900, 7, 1, 0, 0, 0): {Offset: -18000, Abbr: "EST"},
		at(2021, 3, 14, 6, 59, 59): {Offset: -18000, Abbr: "EST"}, at(2021, 3, 14, 7, 0, 0): {Offset: -14400, Save: 3600, Abbr: "EDT"}, at(2021, 11, 7, 5, 59, 59): {Offset: -14400, Save: 3600, Abbr: "EDT"}, at(2021, 11, 7, 6, 0, 0): {Offset: -18000, Abbr: "EST"},
	} {
		if got, ok := eras.At(york, 0, n); got != want || !ok {
			t.Errorf("%d: %v, %v; must be %v", n, got, ok, want)
		}
	}
}

// shared tells whether two texts stand in one memory.
func shared(a, b string) bool {
	from, at := uintptr(unsafe.Pointer(unsafe.StringData(a))), uintptr(unsafe.Pointer(unsafe.StringData(b)))
	return a != "" && b != "" && from < at+uintptr(len(b)) && at < from+uintptr(len(a))
}

// Rule 4: what is handed in is neither changed nor kept, its spare room neither, and an answer is new memory.
func TestMemory(t *testing.T) {
	s := parsed(ruled)
	n := len(s.Rules)
	s.Rules = append(s.Rules, api.Rule{Name: "E", Letter: "spare"})[:n]
	s.Zones = append(s.Zones, api.Zone{Name: "spare"})[:3]
	s.Zones[1].Eras = append(s.Zones[1].Eras, api.Era{Format: "spare"})[:2]
	set := eras.Set(s, "E")
	for z := range s.Zones {
		ask(s, z, ends)
	}
	if !sample.Same(s, parsed(ruled)) || s.Rules[:n+1][n].Letter != "spare" || s.Zones[:4][3].Name != "spare" || s.Zones[1].Eras[:3][2].Format != "spare" {
		t.Error(s)
	}
	again, want := eras.Set(s, "E"), setOf(s, "E")
	if shared(set[0].Name, s.Rules[0].Name) || shared(set[0].Letter, s.Rules[0].Letter) || shared(set[0].Name, again[0].Name) {
		t.Error("a set's texts stand in the source's memory")
	}
	clear(set[:cap(set)])
	if !sample.Same(s, parsed(ruled)) || !slices.Equal(again, want) {
		t.Error(s, again)
	}
	clear(s.Rules)
	if !slices.Equal(again, want) || len(want) != 3 {
		t.Error(again)
	}
	letter := "a letter that is long"
	for _, format := range []string{"GMT-that-is-long", "long-without/long-with", "long-at-the-end-%s", "%s"} {
		for _, save := range []int{0, 1} {
			for _, letter := range []string{letter, ""} {
				if got := eras.Abbr(format, letter, 0, save); shared(got, format) || shared(got, letter) {
					t.Errorf("%q stands in the memory of %q or %q", got, format, letter)
				}
			}
		}
	}
}

// Rule 6: an answer doesn't hang on what was asked ahead of it.
func TestAskedAgain(t *testing.T) {
	s, other := parsed(ruled), ended([]int{10, 5})
	want := ask(s, 2, ends)
	for range 3 {
		tries(t, other)
		refused(t, api.Source{Zones: []api.Zone{{}}})
		if !ask(s, 2, ends).alike(want) {
			t.Fatal("another answer")
		}
	}
}
