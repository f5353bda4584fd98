package table_test

import (
	"fmt"
	"math"
	"reflect"
	"regexp"
	"slices"
	"testing"
	"time"

	"analemma/api"
	"analemma/eras"
	"analemma/rules"
	"analemma/sample"
	"analemma/sound"
	"analemma/source"
	"analemma/table"
)

const (
	hour     = 3600
	wholeDay = 86400
	wall     = api.Wall
	standard = api.Standard
	utc      = api.Universal
	longAgo  = -9000000000000
)

// ends are times of all sizes: those about the last spots that are told are among them.
var ends = []int64{
	math.MinInt64, math.MinInt64 + 1, -1 << 53, longAgo - 1, longAgo, longAgo + 1, -8640000000000, at(1, 1, 1, 0, 0, 0), -1 << 31, -1, 0, 1, at(1999, 7, 1, 0, 0, 0), at(2021, 7, 1, 0, 0, 0),
	at(2039, 12, 31, 23, 59, 59), at(2040, 1, 1, 0, 0, 0), at(2040, 7, 1, 0, 0, 0), at(9999, 7, 1, 0, 0, 0), at(10001, 12, 31, 23, 59, 59), at(10002, 1, 1, 0, 0, 0), at(12345, 6, 7, 8, 9, 10),
	at(275759, 7, 1, 0, 0, 0), at(275760, 3, 20, 0, 0, 0), at(275760, 9, 13, 0, 0, 0), 8640000000000, 9000000000000, 1 << 53, math.MaxInt64 - 1, math.MaxInt64,
}

// places are places at which nothing is, in lists of n.
func places(n int) []int {
	return []int{math.MinInt, math.MinInt + 1, -1 << 32, -n - 1, -n - 2, -1, n, n + 1, 256 + n, 1<<32 + n, 1 << 32, math.MaxInt - 1, math.MaxInt}
}

// at is a moment in seconds, by the language's own calendar.
func at(year int, month time.Month, day, hour, minute, second int) int64 {
	return time.Date(year, month, day, hour, minute, second, 0, time.UTC).Unix()
}

// day is a spot on a day of a month.
func day(month, day, time, ref int) api.Spot {
	return api.Spot{Month: month, Kind: api.OnDay, Day: day, Time: time, Ref: ref}
}

// parsed is the tree of a right text.
func parsed(text string) api.Source {
	s, f := source.Parse(text)
	if f != (api.Fault{}) {
		panic(fmt.Sprintf("%v: %q", f, text))
	}
	return s
}

// sane is the tree of a text without flaws.
func sane(text string) api.Source {
	s := parsed(text)
	if f := sound.Check(s); f != (api.Flaw{}) {
		panic(fmt.Sprintf("%v: %q", f, text))
	}
	return s
}

// many is a source of three sets, the rules of which stand between one another's, and of zones with one, two and more eras.
const many = `
Rule E 1981 max  - Mar lastSun 1:00u 1:00 S
Rule A 1990 1999 - Apr 1       2:00  1:00 D
Rule E 1979 1995 - Sep lastSun 1:00u 0    -
Rule B 1995 only - Jun 1       0:00s -0:30 x
Rule E 1996 max  - Oct lastSun 1:00u 0    -
Rule A 1990 1999 - Oct 1       2:00  0    S
Zone Europe/One 1:00 E C%sT
Zone Two -5:00 A   A%sT  1995 Jul 1 3:00
          0:00 -   Z
Zone Four 0:10 -    LMT   1980 Jan 1
          1:00 0:20 +1/+2 1990 May 1 12:00s
          2:00 B    %z    1999 Dec 31 24:00u
          3:00 E    N%s
Zone Five 3:00 E N%s 2001 Jul 1 2:00u
          2:00 E %z  2001 Dec 1
          2:00 B %z
Link Europe/One Old
Link Old Older
`

// setOf is the set of a name.
func setOf(s api.Source, name string) []api.Rule {
	return slices.DeleteFunc(slices.Clone(s.Rules), func(r api.Rule) bool { return r.Name != name })
}

// stands is how clocks stand by the eras of a source.
func stands(s api.Source, zone int, t int64) api.Phase {
	p, ok := eras.At(s, zone, t)
	if !ok {
		panic("no phase")
	}
	return p
}

// lastYear is the year of which the words speak: the greatest of those that are named, by a zone and its sets.
func lastYear(s api.Source, zone int) int {
	years := []int{2037}
	for _, x := range s.Zones[zone].Eras {
		if x.Until {
			years = append(years, x.Year)
		}
		if x.Kind != api.SaveRules {
			continue
		}
		for _, r := range setOf(s, x.Rules) {
			years = append(years, r.From)
			if r.To != api.Ever {
				years = append(years, r.To)
			}
		}
	}
	return slices.Max(years)
}

// changes are all seconds at which clocks may come to stand otherwise at a zone, rising: the ends of its eras, and the universal times of all turns of all its sets in all years up to one, by the offset of each of its eras, be it in force or not.
func changes(s api.Source, zone, until int) []int64 {
	var l []int64
	for i, x := range s.Zones[zone].Eras {
		if end, ok := eras.End(s, zone, i); ok {
			l = append(l, end)
		}
		set := setOf(s, x.Rules)
		years := []int{until + 1}
		for _, r := range set {
			years = append(years, r.From)
		}
		for year := slices.Min(years); year <= until; year++ {
			for _, turn := range rules.Turns(set, year) {
				ahead, _ := rules.Ahead(set, turn.At)
				l = append(l, turn.At-map[int]int64{wall: int64(x.Offset + ahead.Save), standard: int64(x.Offset), utc: 0}[turn.Ref])
			}
		}
	}
	slices.Sort(l)
	return slices.Compact(l)
}

// compiled is the table of a zone of a source, by the words.
func compiled(s api.Source, zone int) (api.Table, api.Errno) {
	if zone < 0 || zone >= len(s.Zones) || sound.Check(s) != (api.Flaw{}) {
		return api.Table{}, api.ErrArg
	}
	year := lastYear(s, zone) + 3
	x := api.Table{Name: s.Zones[zone].Name, First: stands(s, zone, longAgo), Until: at(year, 1, 1, 0, 0, 0)}
	for _, t := range changes(s, zone, year+1) {
		if p := stands(s, zone, t); t < x.Until && p != stands(s, zone, t-1) {
			x.Shifts = append(x.Shifts, api.Shift{At: t, Phase: p})
		}
	}
	if len(x.Shifts) > 30000 {
		return api.Table{}, api.ErrMany
	}
	last := s.Zones[zone].Eras[len(s.Zones[zone].Eras)-1]
	x.Tail = slices.DeleteFunc(setOf(s, last.Rules), func(r api.Rule) bool { return r.To != api.Ever })
	if len(x.Tail) > 0 {
		x.Offset, x.Format = last.Offset, last.Format
	}
	return x, api.OK
}

// What names, letters, formats and abbreviations look like, by the words.
var (
	placeName = regexp.MustCompile(`\A[A-Za-z0-9_+-]+(/[A-Za-z0-9_+-]+)*\z`)
	setName   = regexp.MustCompile(`\A[A-Za-z_][A-Za-z0-9_-]{0,19}\z`)
	letter    = regexp.MustCompile(`\A[A-Za-z0-9+-]{0,8}\z`)
	format    = regexp.MustCompile(`\A([A-Za-z0-9+-]*%[sz][A-Za-z0-9+-]*|[A-Za-z0-9+-]+(/[A-Za-z0-9+-]+)?)\z`)
	abbr      = regexp.MustCompile(`\A[\x21-\x7e]{0,40}\z`)
)

// between tells whether a number lies between two others.
func between(n, above, below int) bool { return n > above && n < below }

// right tells whether a table is right, by the words.
func right(x api.Table) bool {
	all := append([]api.Shift{{Phase: x.First}}, x.Shifts...)
	for i, s := range all {
		if !between(s.Phase.Offset, -86400, 86400) || !between(s.Phase.Save, -43201, 43201) || !abbr.MatchString(s.Phase.Abbr) {
			return false
		}
		if i > 0 && s.Phase == all[i-1].Phase || i > 1 && s.At <= all[i-1].At {
			return false
		}
	}
	if !placeName.MatchString(x.Name) || len(x.Name) > 40 || len(x.Shifts) > 30000 || len(x.Shifts) > 0 && x.Shifts[len(x.Shifts)-1].At >= x.Until {
		return false
	}
	return rightTail(x)
}

// rightTail tells whether a table's tail is, by the words.
func rightTail(x api.Table) bool {
	if len(x.Tail) == 0 {
		return x.Offset == 0 && x.Format == ""
	}
	for _, r := range x.Tail {
		if !setName.MatchString(r.Name) || r.To != api.Ever || !letter.MatchString(r.Letter) || r.Letter == "-" || !between(x.Offset, -86400, 86400) || !between(x.Offset+r.Save, -86400, 86400) {
			return false
		}
	}
	return len(x.Tail) <= 2 && rules.Right(x.Tail) && !rules.Near(x.Tail) && format.MatchString(x.Format) && len(x.Format) <= 20
}

// told is what a right table tells, by the words.
func told(x api.Table, t int64) api.Phase {
	if len(x.Tail) > 0 && t >= x.Until {
		save, letter := rules.Force(x.Tail, x.Offset, t)
		return api.Phase{Offset: x.Offset + save, Save: save, Abbr: eras.Abbr(x.Format, letter, x.Offset+save, save)}
	}
	p := x.First
	for _, s := range x.Shifts {
		if s.At <= t {
			p = s.Phase
		}
	}
	return p
}

// alike tells whether two tables are the same; no list and an empty one are one.
func alike(a, b api.Table) bool {
	if len(a.Shifts)+len(b.Shifts) == 0 {
		a.Shifts, b.Shifts = nil, nil
	}
	if len(a.Tail)+len(b.Tail) == 0 {
		a.Tail, b.Tail = nil, nil
	}
	return reflect.DeepEqual(a, b)
}

// none tells whether a table is the zero one.
func none(x api.Table) bool { return alike(x, api.Table{}) }

// tries tries Compile with a source: all its zones, and what isn't one.
func tries(t *testing.T, s api.Source) {
	t.Helper()
	for z := range s.Zones {
		want, wantErr := compiled(s, z)
		got, e := table.Compile(s, z)
		if !alike(got, want) || e != wantErr {
			t.Fatalf("Compile(%v, %d): %v, %d; must be %v, %d", s, z, got, e, want, wantErr)
		}
		if e == api.OK {
			follows(t, s, z, got)
		}
	}
	for _, z := range places(len(s.Zones)) {
		if got, e := table.Compile(s, z); !none(got) || e != api.ErrArg {
			t.Fatalf("Compile(%v, %d): %v, %d", s, z, got, e)
		}
	}
}

// follows tries what follows of a table that was compiled: P14.3 and P14.4.
func follows(t *testing.T, s api.Source, zone int, x api.Table) {
	t.Helper()
	if !table.Right(x) || !right(x) {
		t.Fatalf("Compile(%v, %d): %v, which isn't right", s, zone, x)
	}
	for _, n := range times(s, zone, x) {
		if got, ok := table.At(x, n); got != stands(s, zone, n) || !ok {
			t.Fatalf("%v at %d: %v, %v; must be %v, as zone %d of %v", x, n, got, ok, stands(s, zone, n), zone, s)
		}
	}
}

// times are those at which a table is tried: those of all sizes, those about its Until and about shifts, of many some, and some behind Until at which its tail turns.
func times(s api.Source, zone int, x api.Table) []int64 {
	l := slices.Clone(ends)
	turned := []int64{x.Until}
	for i, shift := range x.Shifts {
		if len(x.Shifts) < 60 || i%(len(x.Shifts)/30) == 0 {
			turned = append(turned, shift.At)
		}
	}
	until := time.Unix(x.Until, 0).UTC().Year()
	for _, year := range []int{until - 1, until, until + 1, until + 400, 275759, 275760} {
		for _, turn := range rules.Turns(x.Tail, year) {
			turned = append(turned, turn.At, turn.At-int64(x.Offset), turn.At-int64(x.Offset+x.Tail[0].Save), turn.At-int64(x.Offset+x.Tail[len(x.Tail)-1].Save))
		}
	}
	for _, n := range turned {
		l = append(l, n-1, n, n+1)
	}
	return l
}

// anySet is a set without flaws, of one to six rules, by a fixed rule.
func anySet(d *sample.Dice, name string) []api.Rule {
	for {
		var l []api.Rule
		first := d.To(12)
		for i := range 1 + d.To(6) {
			r := d.Rule()
			r.Name, r.Spot.Month = name, 1+(first+i*d.From(1, 5))%12
			r.To = max(r.To, r.From)
			l = append(l, r)
		}
		if sound.Check(api.Source{Rules: l}) == (api.Flaw{}) {
			return l
		}
	}
}

// anySource is a source without flaws by a fixed rule: three sets, and zones of few eras, of which some end at about a turn of their set, and some name it again.
func anySource(d *sample.Dice, sets func(d *sample.Dice, name string) []api.Rule) api.Source {
	for {
		s := api.Source{Rules: slices.Concat(sets(d, "A"), sets(d, "B"), sets(d, "C"))}
		for i := range s.Rules {
			k := d.To(i + 1)
			s.Rules[i], s.Rules[k] = s.Rules[k], s.Rules[i]
		}
		for i := range 1 + d.To(2) {
			s.Zones = append(s.Zones, api.Zone{Name: fmt.Sprintf("Z/%d", i), Eras: anyEras(d, s)})
		}
		if sound.Check(s) == (api.Flaw{}) {
			return s
		}
	}
}

// anyEras are eras in whose ends' years order is.
func anyEras(d *sample.Dice, s api.Source) []api.Era {
	l := []api.Era{anyEra(d)}
	years := []int{d.From(1994, 2003), d.From(1994, 2003), d.From(1994, 2003)}
	slices.Sort(years)
	for _, year := range years[d.To(4):] {
		x := anyEra(d)
		if d.To(3) == 0 {
			x.Kind, x.Save, x.Rules, x.Offset = l[0].Kind, l[0].Save, l[0].Rules, l[0].Offset
		}
		x.Until, x.Year, x.Spot = true, year, d.Spot()
		if set := setOf(s, sample.Pick(d, "A", x.Rules, x.Rules, l[0].Rules)); len(set) > 0 {
			r := set[d.To(len(set))]
			x.Spot = r.Spot
			x.Spot.Ref = sample.Pick(d, r.Spot.Ref, r.Spot.Ref, d.To(3))
			x.Spot.Time = min(max(x.Spot.Time+d.From(-1, 1), -604799), 604799)
		}
		l = slices.Insert(l, len(l)-1, x)
	}
	return l
}

// anyEra is a right era without an end.
func anyEra(d *sample.Dice) api.Era {
	x := api.Era{
		Offset: sample.Pick(d, 0, hour, hour, -5*hour, 43199, -43199, 12345, -1800),
		Kind:   sample.Pick(d, api.SaveNone, api.SaveFixed, api.SaveRules, api.SaveRules, api.SaveRules),
		Format: sample.Pick(d, "X", "E%sT", "%s", "%z", "-%z", "A/B", "+00/+01"),
	}
	switch x.Kind {
	case api.SaveFixed:
		x.Save = sample.Pick(d, 0, hour, -hour, 1, 43200, -43200)
	case api.SaveRules:
		x.Rules = sample.Pick(d, "A", "A", "B", "C")
	}
	return x
}

// edgySet is a set without flaws whose spots lie about the ends of years, so that turns of a year lie in the one ahead of it, or behind it, beside turns of that.
func edgySet(d *sample.Dice, name string) []api.Rule {
	spots := []api.Spot{
		{Month: 12, Kind: api.OnAfter, Weekday: 7, Day: 31, Time: 604799}, {Month: 12, Kind: api.OnDay, Day: 31, Time: 604799}, {Month: 12, Kind: api.OnLast, Weekday: 3, Time: 5 * wholeDay},
		{Month: 1, Kind: api.OnAhead, Weekday: 1, Day: 1, Time: -604799}, {Month: 1, Kind: api.OnDay, Day: 1, Time: -604799}, {Month: 1, Kind: api.OnDay, Day: 4}, {Month: 1, Kind: api.OnDay, Day: 1}, {Month: 12, Kind: api.OnDay, Day: 26},
	}
	for {
		var l []api.Rule
		for range 2 + d.To(3) {
			r := d.Rule()
			r.Name, r.Spot = name, spots[d.To(len(spots))]
			r.Spot.Ref = d.To(3)
			r.From = sample.Pick(d, 1, 1995, 1996, 1997, 1998, 2037)
			r.To = sample.Pick(d, r.From, r.From, r.From+1, r.From+2, api.Ever)
			l = append(l, r)
		}
		if sound.Check(api.Source{Rules: l}) == (api.Flaw{}) {
			return l
		}
	}
}
