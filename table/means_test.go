package table_test

import (
	"slices"
	"testing"
	"unsafe"

	"analemma/api"
	"analemma/sample"
	"analemma/sound"
	"analemma/table"
)

// P14.3: at many seconds of all years about those that rules and ends name, and about those that they don't.
func TestMeansAllTheWay(t *testing.T) {
	d := sample.Rolled(1 << 16)
	l := []api.Source{sane(many), sane("Rule US 2007 max - Mar Sun>=8 2:00 1:00 D\nRule US 2007 max - Nov Sun>=1 2:00 0 S\nZone NY -5:00 US E%sT")}
	for range 5 {
		l = append(l, anySource(d, anySet), anySource(d, edgySet))
	}
	for _, s := range l {
		for z := range s.Zones {
			x, e := table.Compile(s, z)
			if e != api.OK {
				t.Fatal(e)
			}
			for n := at(1992, 1, 1, 0, 0, 0); n < at(2008, 1, 1, 0, 0, 0); n += 43201 {
				means(t, s, z, x, n)
			}
			for n := at(1, 1, 1, 0, 0, 0); n < at(20000, 1, 1, 0, 0, 0); n += 173 * 86399 {
				means(t, s, z, x, n)
			}
		}
	}
}

// means tries whether a zone's table tells at a time what its eras mean.
func means(t *testing.T, s api.Source, z int, x api.Table, n int64) {
	t.Helper()
	if got, ok := table.At(x, n); got != stands(s, z, n) || !ok {
		t.Fatalf("zone %d of %v, at %d: %v, %v; must be %v", z, s, n, got, ok, stands(s, z, n))
	}
}

// P14.1, P14.3: turns just Apart, by all clocks, at offsets and savings that bring their universal times as near as may be.
func TestTurnsJustApart(t *testing.T) {
	for _, offset := range []int{-86399, -43200, -43199, 0, 43199, 43200, 86399} {
		for refs := range 9 {
			for _, saves := range [][3]int{{0, 43200, -43200}, {43200, -43200, 0}, {-43200, 43200, 0}, {0, 0, 0}, {43200, 0, 43200}, {-43200, 0, -43200}} {
				s := api.Source{Rules: []api.Rule{
					{Name: "R", From: 1999, To: 2000, Spot: day(6, 1, 0, utc), Save: saves[0], Letter: "0"},
					{Name: "R", From: 1999, To: 2000, Spot: day(9, 1, 0, refs%3), Save: saves[1], Letter: "1"},
					{Name: "R", From: 1999, To: api.Ever, Spot: day(9, 3, 0, refs/3), Save: saves[2], Letter: "2"},
				}, Zones: []api.Zone{{Name: "Z", Eras: []api.Era{{Offset: offset, Kind: api.SaveRules, Rules: "R", Format: "%s"}}}}}
				if sound.Check(s).Err == api.ErrOffset {
					continue
				}
				tries(t, s)
				if x, _ := table.Compile(s, 0); len(x.Shifts) < 5 {
					t.Fatal(x)
				}
				// And where an era ends between the two, or just at one of them.
				for near := range 7 {
					x := s
					x.Zones = []api.Zone{{Name: "Z", Eras: slices.Repeat(s.Zones[0].Eras, 2)}}
					x.Zones[0].Eras[0].Until, x.Zones[0].Eras[0].Year = true, 2000
					x.Zones[0].Eras[0].Spot = day(9, 1+near/2, near%2*43200, refs/3)
					tries(t, x)
				}
			}
		}
	}
}

// others are changes of what neither a zone nor its sets are, without flaws; each tells where the zone stands then.
func others(own func(name string) bool) []func(s *api.Source, zone int) int {
	more := sane(many)
	for i := range more.Rules {
		more.Rules[i].Name += "-other"
	}
	for i := range more.Zones {
		more.Zones[i].Name += "/other"
		for k, x := range more.Zones[i].Eras {
			if x.Kind == api.SaveRules {
				more.Zones[i].Eras[k].Rules += "-other"
			}
		}
	}
	more.Rules[3].To = 9999
	return []func(s *api.Source, zone int) int{
		func(s *api.Source, zone int) int {
			s.Zones, s.Links = s.Zones[zone:zone+1], nil
			return 0
		},
		func(s *api.Source, zone int) int {
			s.Rules = slices.DeleteFunc(s.Rules, func(r api.Rule) bool { return !own(r.Name) })
			s.Zones, s.Links = s.Zones[zone:zone+1], nil
			return 0
		},
		func(s *api.Source, zone int) int {
			s.Rules, s.Zones = slices.Concat(more.Rules, s.Rules), slices.Concat(more.Zones, s.Zones)
			return zone + len(more.Zones)
		},
		func(s *api.Source, zone int) int {
			var l []api.Rule
			for i, r := range s.Rules {
				l = append(l, r)
				if i < len(more.Rules) {
					l = append(l, more.Rules[i])
				}
			}
			s.Rules = l
			return zone
		},
		func(s *api.Source, zone int) int {
			slices.Reverse(s.Zones)
			return len(s.Zones) - 1 - zone
		},
		func(s *api.Source, zone int) int {
			for i := range s.Zones {
				if i != zone {
					s.Zones[i].Eras = []api.Era{{Offset: 1, Format: "Y", Until: true, Year: 9999, Spot: day(1, 1, 0, wall)}, {Offset: 2, Kind: api.SaveFixed, Save: 3, Format: "%z"}}
				}
			}
			return zone
		},
		func(s *api.Source, zone int) int {
			for i, r := range s.Rules {
				if !own(r.Name) {
					s.Rules[i].From, s.Rules[i].To, s.Rules[i].Spot, s.Rules[i].Save = 2100+i, 2100+i, day(1, 1, 0, wall), 0
				}
			}
			return zone
		},
		func(s *api.Source, zone int) int {
			s.Links = []api.Link{{Target: s.Zones[zone].Name, Name: "Another"}, {Target: "Another", Name: "More/of/it"}}
			return zone
		},
	}
}

// copied is a tree in new memory.
func copied(s api.Source) api.Source {
	s.Rules, s.Zones, s.Links = slices.Clone(s.Rules), slices.Clone(s.Zones), slices.Clone(s.Links)
	for i := range s.Zones {
		s.Zones[i].Eras = slices.Clone(s.Zones[i].Eras)
	}
	return s
}

// P14.5: a table hangs on the zone, and the sets that it names, alone.
func TestOtherPartsTurnNothing(t *testing.T) {
	d := sample.Rolled(1 << 16)
	l := []api.Source{sane(many)}
	for range 60 {
		l = append(l, anySource(d, anySet), anySource(d, edgySet))
	}
	for _, s := range l {
		for z, zone := range s.Zones {
			own := func(name string) bool {
				return slices.ContainsFunc(zone.Eras, func(x api.Era) bool { return x.Rules == name })
			}
			want, wantErr := table.Compile(s, z)
			for i, change := range others(own) {
				x := copied(s)
				place := change(&x, z)
				if f := sound.Check(x); f != (api.Flaw{}) {
					t.Fatalf("change %d of %v: %v", i, s, f)
				}
				if got, e := table.Compile(x, place); !table.Same(got, want) || !alike(got, want) || e != wantErr {
					t.Fatalf("change %d of %v turns the table of zone %d: %v, %d; was %v, %d", i, s, z, got, e, want, wantErr)
				}
			}
		}
	}
}

// P14.5: all of a zone, and of its sets, counts.
func TestOwnPartsCount(t *testing.T) {
	for _, x := range []struct {
		what   string
		turned []bool // the tables of which zones become others
		change func(s *api.Source)
	}{
		{"a zone's name", []bool{true, false, false, false}, func(s *api.Source) { s.Zones[0].Name, s.Links = "Other", nil }},
		{"a saving of E", []bool{true, false, true, true}, func(s *api.Source) { s.Rules[0].Save = 7200 }},
		{"a letter of E", []bool{true, false, true, true}, func(s *api.Source) { s.Rules[4].Letter = "x" }},
		{"a spot of E", []bool{true, false, true, true}, func(s *api.Source) { s.Rules[0].Spot.Time++ }},
		{"a rule of E ahead of the last era", []bool{true, false, false, true}, func(s *api.Source) { s.Rules[2].Spot.Time++ }},
		{"a rule of A taken away", []bool{false, true, false, false}, func(s *api.Source) { s.Rules = slices.Delete(s.Rules, 1, 2) }},
		{"a year of A", []bool{false, true, false, false}, func(s *api.Source) { s.Rules[5].To = 2050 }},
		{"a year of B", []bool{false, false, true, false}, func(s *api.Source) { s.Rules[3].From, s.Rules[3].To = 1994, 1994 }},
		{"an offset", []bool{true, false, false, false}, func(s *api.Source) { s.Zones[0].Eras[0].Offset++ }},
		{"a format", []bool{false, true, false, false}, func(s *api.Source) { s.Zones[1].Eras[1].Format = "X" }},
		{"an end", []bool{false, true, false, false}, func(s *api.Source) { s.Zones[1].Eras[0].Spot.Time++ }},
		{"an end's year", []bool{false, false, true, false}, func(s *api.Source) { s.Zones[2].Eras[2].Year++ }},
		{"an end's clock", []bool{false, false, true, false}, func(s *api.Source) { s.Zones[2].Eras[1].Spot.Ref = wall }},
		{"a saving of an era", []bool{false, false, true, false}, func(s *api.Source) { s.Zones[2].Eras[1].Save = 0 }},
	} {
		s := sane(many)
		x.change(&s)
		for z, turned := range x.turned {
			want, _ := table.Compile(sane(many), z)
			if got, e := table.Compile(s, z); alike(got, want) == turned || table.Same(got, want) == turned || e != api.OK {
				t.Errorf("%s, zone %d: turned must be %v, error %d", x.what, z, turned, e)
			}
		}
		tries(t, s)
	}
}

// shared tells whether two texts stand in one memory.
func shared(a, b string) bool {
	from, at := uintptr(unsafe.Pointer(unsafe.StringData(a))), uintptr(unsafe.Pointer(unsafe.StringData(b)))
	return a != "" && b != "" && from < at+uintptr(len(b)) && at < from+uintptr(len(a))
}

// texts are all texts of a table.
func texts(x api.Table) []string {
	l := []string{x.Name, x.Format, x.First.Abbr}
	for _, s := range x.Shifts {
		l = append(l, s.Phase.Abbr)
	}
	for _, r := range x.Tail {
		l = append(l, r.Name, r.Letter)
	}
	return l
}

// sourceTexts are all texts of a source.
func sourceTexts(s api.Source) []string {
	var l []string
	for _, r := range s.Rules {
		l = append(l, r.Name, r.Letter)
	}
	for _, z := range s.Zones {
		l = append(l, z.Name)
		for _, x := range z.Eras {
			l = append(l, x.Rules, x.Format)
		}
	}
	return l
}

// Rule 4: of Compile: what is handed in is neither changed nor kept, its spare room neither, and an answer is new memory.
func TestCompileMemory(t *testing.T) {
	s := sane(many)
	s.Rules = append(s.Rules, api.Rule{Name: "E", Letter: "spare"})[:6]
	s.Zones = append(s.Zones, api.Zone{Name: "spare"})[:4]
	for i := range s.Zones {
		n := len(s.Zones[i].Eras)
		s.Zones[i].Eras = append(s.Zones[i].Eras, api.Era{Format: "spare"})[:n]
	}
	for z, zone := range s.Zones {
		got, _ := table.Compile(s, z)
		again, _ := table.Compile(s, z)
		if !sample.Same(s, sane(many)) || s.Rules[:7][6].Letter != "spare" || s.Zones[:5][4].Name != "spare" || zone.Eras[:len(zone.Eras)+1][len(zone.Eras)].Format != "spare" {
			t.Fatal(s)
		}
		for _, text := range texts(got) {
			for _, from := range slices.Concat(sourceTexts(s), texts(again)) {
				if shared(text, from) {
					t.Fatalf("zone %d: %q stands in the memory of %q", z, text, from)
				}
			}
		}
		clear(got.Shifts[:cap(got.Shifts)])
		clear(got.Tail[:cap(got.Tail)])
		want, _ := compiled(sane(many), z)
		if !alike(again, want) || !sample.Same(s, sane(many)) {
			t.Fatal(again)
		}
	}
	got, _ := table.Compile(s, 3)
	want, _ := compiled(sane(many), 3)
	for i := range s.Zones {
		clear(s.Zones[i].Eras)
	}
	clear(s.Rules)
	clear(s.Zones)
	if !alike(got, want) {
		t.Error(got)
	}
}

// Rule 6: an answer doesn't hang on what was asked ahead of it.
func TestAskedAgain(t *testing.T) {
	s := sane(many)
	want, _ := compiled(s, 3)
	for z := range 8 {
		table.Compile(s, z%5)
		table.Compile(yearly(10, 1, 9999), 0)
		table.Compile(api.Source{Zones: []api.Zone{{}}}, z)
		if got, e := table.Compile(s, 3); !alike(got, want) || e != api.OK {
			t.Fatal(got, e)
		}
	}
}
