package eras_test

import (
	"fmt"
	"math"
	"math/big"
	"regexp"
	"slices"
	"strings"
	"testing"
	"time"

	"analemma/api"
	"analemma/eras"
	"analemma/moment"
	"analemma/rules"
	"analemma/sample"
	"analemma/source"
)

const (
	hour     = 3600
	wholeDay = 86400
	wall     = api.Wall
	standard = api.Standard
	utc      = api.Universal
)

// ends are times of all sizes.
var ends = []int64{
	math.MinInt64, math.MinInt64 + 1, -1 << 53, -8640000000000, -62135596800, -1 << 31, -wholeDay, -1, 0, 1, wholeDay,
	at(1999, 7, 1, 0, 0, 0), at(2000, 1, 1, 0, 0, 0), at(2021, 7, 1, 0, 0, 0), 253402300800, 8640000000000, 1 << 53, math.MaxInt64 - 1, math.MaxInt64,
}

// places are places at which nothing is, in lists of n.
func places(n int) []int {
	return []int{math.MinInt, math.MinInt + 1, -1 << 32, -n - 1, -n, -2, -1, n, n + 1, 256 + n, 1<<32 + n - 1, 1 << 32, math.MaxInt - 1, math.MaxInt}
}

// at is a moment in seconds, by the language's own calendar.
func at(year int, month time.Month, day, hour, minute, second int) int64 {
	return time.Date(year, month, day, hour, minute, second, 0, time.UTC).Unix()
}

// parsed is the tree of a right text.
func parsed(text string) api.Source {
	s, f := source.Parse(text)
	if f != (api.Fault{}) {
		panic(fmt.Sprintf("%v: %q", f, text))
	}
	return s
}

// ruled is a source of three sets, the rules of which stand between one another's, and of zones with one, two and more eras.
const ruled = `
Rule E 1981 max  - Mar lastSun 1:00u 1:00 S
Rule A 1990 1999 - Apr 1       2:00  1:00 D
Rule E 1979 1995 - Sep lastSun 1:00u 0    -
Rule B 1995 only - Jun 1       0:00s -0:30 x
Rule E 1996 max  - Oct lastSun 1:00u 0    -
Rule A 1990 1999 - Oct 1       2:00  0    S
Zone Europe/One 1:00 E C%sT
Zone Two -5:00 A   A%sT  1995 Jul 1 3:00
          0:00 -   Z
Zone Four 0:10 -    LMT   1980 Jan 1
          1:00 0:20 +1/+2 1990 May 1 12:00s
          2:00 B    %z    1999 Dec 31 24:00u
          3:00 None N%s
Link Europe/One Old
Link Old Older
`

// one is a source of a set and a zone of one era.
func one(l []api.Rule, x api.Era) api.Source {
	return api.Source{Rules: l, Zones: []api.Zone{{Name: "Z", Eras: []api.Era{x, {Format: "End"}}}}}
}

// day is a spot on a day of a month.
func day(month, day, time, ref int) api.Spot {
	return api.Spot{Month: month, Kind: api.OnDay, Day: day, Time: time, Ref: ref}
}

// until is an era with an end.
func until(x api.Era, year int, s api.Spot) api.Era {
	x.Until, x.Year, x.Spot = true, year, s
	return x
}

// saved is an era of each kind of saving: none, a fixed one, and that of the set R.
func saved(offset, kind, save int, format string) api.Era {
	x := api.Era{Offset: offset, Kind: kind, Format: format}
	switch kind {
	case api.SaveFixed:
		x.Save = save
	case api.SaveRules:
		x.Rules = "R"
	}
	return x
}

// copied is a tree in new memory.
func copied(s api.Source) api.Source {
	s.Rules, s.Zones, s.Links = slices.Clone(s.Rules), slices.Clone(s.Zones), slices.Clone(s.Links)
	for i := range s.Zones {
		s.Zones[i].Eras = slices.Clone(s.Zones[i].Eras)
	}
	return s
}

// setOf is the set of a name, by the words.
func setOf(s api.Source, name string) []api.Rule {
	return slices.DeleteFunc(slices.Clone(s.Rules), func(r api.Rule) bool { return r.Name != name })
}

// marked are what formats look like that have each mark, the first ones that count first.
var marked = map[string]*regexp.Regexp{
	"%s": regexp.MustCompile(`(?s)\A(.*?)%s(.*)\z`),
	"%z": regexp.MustCompile(`(?s)\A(.*?)%z(.*)\z`),
	"/":  regexp.MustCompile(`\A([^/]*)/((?s:.*))\z`),
}

// abbrOf is an abbreviation, by the words.
func abbrOf(format, letter string, offset, save int) string {
	if l := marked["%s"].FindStringSubmatch(format); l != nil {
		return l[1] + letter + l[2]
	}
	if l := marked["%z"].FindStringSubmatch(format); l != nil {
		return l[1] + offsetOf(offset) + l[2]
	}
	if l := marked["/"].FindStringSubmatch(format); l != nil {
		return map[bool]string{true: l[1], false: l[2]}[save == 0]
	}
	return format
}

// offsetOf is an offset as it is written, by the words, reckoned without bounds.
func offsetOf(offset int) string {
	sign := "+"
	if offset < 0 {
		sign = "-"
	}
	minutes, seconds := new(big.Int).QuoRem(new(big.Int).Abs(big.NewInt(int64(offset))), big.NewInt(60), new(big.Int))
	hours, minutes := new(big.Int).QuoRem(minutes, big.NewInt(60), new(big.Int))
	text := sign + fmt.Sprintf("%02d", hours)
	switch {
	case seconds.Sign() != 0:
		text += fmt.Sprintf("%02d%02d", minutes, seconds)
	case minutes.Sign() != 0:
		text += fmt.Sprintf("%02d", minutes)
	}
	return text
}

// endOf is when an era with an Until ends, by the words.
func endOf(s api.Source, x api.Era) int64 {
	local, ok := moment.Local(x.Spot, x.Year)
	if !ok || !x.Until {
		panic("no end")
	}
	saved := x.Save
	if x.Kind == api.SaveRules {
		turn, _ := rules.Ahead(setOf(s, x.Rules), local)
		saved = turn.Save
	}
	return local - map[int]int64{wall: int64(x.Offset + saved), standard: int64(x.Offset), utc: 0}[x.Spot.Ref]
}

// phaseOf is an era's phase, by the words.
func phaseOf(s api.Source, x api.Era, t int64) api.Phase {
	save, letter := x.Save, ""
	if x.Kind == api.SaveRules {
		save, letter = rules.Force(setOf(s, x.Rules), x.Offset, t)
	}
	return api.Phase{Offset: x.Offset + save, Save: save, Abbr: abbrOf(x.Format, letter, x.Offset+save, save)}
}

// holds is the place of the era that holds at a time, by the words.
func holds(s api.Source, l []api.Era, t int64) int {
	return slices.IndexFunc(l, func(x api.Era) bool { return !x.Until || endOf(s, x) > t })
}

// turns are the universal times of a set's turns, by the words, in the years about those that the sets here name.
func turns(l []api.Rule, offset int) []int64 {
	var times []int64
	for year := 1979; year <= 2005; year++ {
		for _, x := range rules.Turns(l, year) {
			before, _ := rules.Ahead(l, x.At)
			times = append(times, x.At-map[int]int64{wall: int64(offset + before.Save), standard: int64(offset), utc: 0}[x.Ref])
		}
	}
	return times
}

// times are those at which something may change at a zone, a second ahead of them and one behind them, and times of all sizes.
func times(s api.Source, l []api.Era) []int64 {
	all := slices.Clone(ends)
	for _, x := range l {
		var turned []int64
		if x.Until {
			turned = append(turned, endOf(s, x))
		}
		turned = append(turned, turns(setOf(s, x.Rules), x.Offset)...)
		for _, n := range turned {
			all = append(all, n-1, n, n+1)
		}
	}
	slices.Sort(all)
	return slices.Compact(all)
}

// tries tries all calls with a source.
func tries(t *testing.T, s api.Source) {
	t.Helper()
	if !source.Right(s) {
		refused(t, s)
		return
	}
	triesSets(t, s)
	for z, zone := range s.Zones {
		l := times(s, zone.Eras)
		for i, x := range zone.Eras {
			want := int64(0)
			if x.Until {
				want = endOf(s, x)
			}
			if got, ok := eras.End(s, z, i); got != want || ok != x.Until {
				t.Fatalf("End(%v, %d, %d): %d, %v; must be %d", s, z, i, got, ok, want)
			}
			for _, n := range l {
				want := phaseOf(s, x, n)
				if got, ok := eras.Phase(s, z, i, n); got != want || !ok {
					t.Fatalf("Phase(%v, %d, %d, %d): %v, %v; must be %v", s, z, i, n, got, ok, want)
				}
			}
		}
		for _, n := range l {
			want := phaseOf(s, zone.Eras[holds(s, zone.Eras, n)], n)
			if got, ok := eras.At(s, z, n); got != want || !ok {
				t.Fatalf("At(%v, %d, %d): %v, %v; must be %v", s, z, n, got, ok, want)
			}
		}
		for _, i := range places(len(zone.Eras)) {
			nothing(t, s, z, i)
		}
	}
	for _, z := range places(len(s.Zones)) {
		nowhere(t, s, z)
	}
}

// triesSets tries Set with a source, right or not, and all names in it.
func triesSets(t *testing.T, s api.Source) {
	t.Helper()
	names := []string{"", "?", "Nowhere"}
	for _, r := range s.Rules {
		names = append(names, r.Name, r.Name+"x", strings.ToLower(r.Name))
	}
	for _, name := range names {
		if got, want := eras.Set(s, name), setOf(s, name); !slices.Equal(got, want) {
			t.Fatalf("Set(%v, %q): %v; must be %v", s, name, got, want)
		}
	}
}

// nothing tries what has no answer for want of an era.
func nothing(t *testing.T, s api.Source, z, i int) {
	t.Helper()
	if got, ok := eras.End(s, z, i); got != 0 || ok {
		t.Fatalf("End(%v, %d, %d): %d, %v", s, z, i, got, ok)
	}
	for _, n := range ends {
		if got, ok := eras.Phase(s, z, i, n); got != (api.Phase{}) || ok {
			t.Fatalf("Phase(%v, %d, %d, %d): %v, %v", s, z, i, n, got, ok)
		}
	}
}

// nowhere tries what has no answer for want of a zone.
func nowhere(t *testing.T, s api.Source, z int) {
	t.Helper()
	for _, i := range []int{math.MinInt, -1, 0, 1, 2, math.MaxInt} {
		nothing(t, s, z, i)
	}
	for _, n := range ends {
		if got, ok := eras.At(s, z, n); got != (api.Phase{}) || ok {
			t.Fatalf("At(%v, %d, %d): %v, %v", s, z, n, got, ok)
		}
	}
}

// refused tries all calls with a source that isn't right: sets alone are told.
func refused(t *testing.T, s api.Source) {
	t.Helper()
	triesSets(t, s)
	for z := -1; z <= len(s.Zones); z++ {
		nowhere(t, s, z)
	}
}

// anySource is a right source of few sets, their rules between one another's, and of zones with few eras, of which some end at about a turn of their set.
func anySource(d *sample.Dice) api.Source {
	var s api.Source
	for _, r := range d.Set(9) {
		r.Name = sample.Pick(d, "A", "A", "B", "C")
		s.Rules = append(s.Rules, r)
	}
	for i := range 1 + d.To(3) {
		z := api.Zone{Name: fmt.Sprintf("Z/%d", i)}
		for range d.To(4) {
			z.Eras = append(z.Eras, ending(d, s, anyEra(d)))
		}
		s.Zones = append(s.Zones, api.Zone{Name: z.Name, Eras: append(z.Eras, anyEra(d))})
	}
	if d.To(2) == 0 {
		s.Links = []api.Link{{Target: "Z/0", Name: "L"}, {Target: "L", Name: "Z/1"}}
	}
	return s
}

// anyEra is a right era without an end.
func anyEra(d *sample.Dice) api.Era {
	x := api.Era{
		Offset: sample.Pick(d, 0, hour, -5*hour, 86399, -86399, 45296, -1800),
		Kind:   sample.Pick(d, api.SaveNone, api.SaveFixed, api.SaveRules, api.SaveRules),
		Format: sample.Pick(d, "X", "E%sT", "%s", "%z", "-%z", "A/B", "+00/+01"),
	}
	switch x.Kind {
	case api.SaveFixed:
		x.Save = sample.Pick(d, 0, hour, -hour, 1, 43200, -43200)
	case api.SaveRules:
		x.Rules = sample.Pick(d, "A", "A", "B", "C", "None")
	}
	return x
}

// ending is an era with an end, be it at about a turn of its set.
func ending(d *sample.Dice, s api.Source, x api.Era) api.Era {
	x.Until, x.Year, x.Spot = true, d.From(1994, 2003), d.Spot()
	if set := setOf(s, x.Rules); len(set) > 0 && d.To(3) > 0 {
		r := set[d.To(len(set))]
		x.Year, x.Spot = r.From+d.To(2), r.Spot
		x.Spot.Ref = d.To(3)
		x.Spot.Time = min(max(x.Spot.Time+d.From(-1, 1), -604799), 604799)
	}
	return x
}
