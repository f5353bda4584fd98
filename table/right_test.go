package table_test

import (
	"fmt"
	"math"
	"slices"
	"strings"
	"testing"

	"analemma/api"
	"analemma/sample"
	"analemma/table"
)

// whole is a right table with shifts and a tail of two rules.
func whole() api.Table {
	return api.Table{
		Name: "A/B", First: api.Phase{Abbr: "X"}, Until: 30,
		Shifts: []api.Shift{{At: 10, Phase: api.Phase{Offset: hour, Save: hour, Abbr: "Y"}}, {At: 20, Phase: api.Phase{Abbr: "X"}}},
		Tail:   []api.Rule{{Name: "R", From: 1970, To: api.Ever, Spot: day(4, 1, 0, utc), Save: hour, Letter: "D"}, {Name: "R", From: 1969, To: api.Ever, Spot: day(10, 1, 0, wall), Letter: "S"}},
		Format: "%s",
	}
}

// short is a right table without a tail.
func short() api.Table {
	x := whole()
	x.Tail, x.Format = nil, ""
	return x
}

// bare is a right table without shifts and without a tail.
func bare() api.Table { return api.Table{Name: "A", First: api.Phase{Abbr: "X"}} }

// changed is a table with one change, and whether that is right.
type changed struct {
	what string
	x    api.Table
	ok   bool
}

// list has changes of one table.
type list struct {
	of  func() api.Table
	all []changed
}

// add adds a change.
func (l *list) add(what string, ok bool, change func(x *api.Table)) {
	x := l.of()
	change(&x)
	l.all = append(l.all, changed{what, x, ok})
}

// phases are changes of each phase of a table.
func phases(of func() api.Table) []changed {
	l := list{of: of}
	for i := range len(of().Shifts) + 1 {
		phase := func(x *api.Table) *api.Phase {
			if i == 0 {
				return &x.First
			}
			return &x.Shifts[i-1].Phase
		}
		for n, ok := range map[int]bool{86399: true, -86399: true, 1234: true, 86400: false, -86400: false, math.MaxInt: false, math.MinInt: false, 1<<32 + 1: false} {
			l.add(fmt.Sprintf("Offset %d of phase %d", n, i), ok, func(x *api.Table) { phase(x).Offset = n })
		}
		for n, ok := range map[int]bool{43200: true, -43200: true, 1234: true, 43201: false, -43201: false, math.MaxInt: false, math.MinInt: false, 1<<32 + 1: false} {
			l.add(fmt.Sprintf("Save %d of phase %d", n, i), ok, func(x *api.Table) { phase(x).Save = n })
		}
		for text, ok := range map[string]bool{"": true, "!": true, "~": true, "Z": true, "%s": true, strings.Repeat("~", 40): true, strings.Repeat("!", 41): false, strings.Repeat("a", 1000): false, "\xc3\xa4": false, "a b": false} {
			l.add(fmt.Sprintf("Abbr %q of phase %d", text, i), ok, func(x *api.Table) { phase(x).Abbr = text })
		}
		for c := range 256 {
			for at := range 3 {
				text := []byte("abc")
				text[at] = byte(c)
				l.add(fmt.Sprintf("Abbr %q of phase %d", text, i), c >= 0x21 && c <= 0x7e, func(x *api.Table) { phase(x).Abbr = string(text) })
			}
		}
	}
	return l.all
}

// shifts are changes of a table's shifts and its Until.
func shifts(of func() api.Table) []changed {
	l := list{of: of}
	for name, ok := range map[string]bool{"": false, "A": true, "UTC": true, "a/b/c": true, "/": false, "a//b": false, "a/": false, "/a": false, "+1": true, "-01:00": false, "a b": false, "\xc3\xa4": false, "A\x00": false, strings.Repeat("a", 40): true, strings.Repeat("a", 41): false, "a.b": false} {
		l.add(fmt.Sprintf("Name %q", name), ok, func(x *api.Table) { x.Name = name })
	}
	l.add("a first shift with the phase of First", false, func(x *api.Table) { x.Shifts[0].Phase = x.First })
	l.add("a shift with the phase of the one ahead", false, func(x *api.Table) { x.Shifts[1].Phase = x.Shifts[0].Phase })
	for i, ahead := range []func(x *api.Table) *api.Phase{func(x *api.Table) *api.Phase { return &x.First }, func(x *api.Table) *api.Phase { return &x.Shifts[0].Phase }} {
		l.add(fmt.Sprintf("shift %d with another Offset alone", i), true, func(x *api.Table) { x.Shifts[i].Phase = *ahead(x); x.Shifts[i].Phase.Offset = -7 })
		l.add(fmt.Sprintf("shift %d with another Save alone", i), true, func(x *api.Table) { x.Shifts[i].Phase = *ahead(x); x.Shifts[i].Phase.Save = -7 })
		l.add(fmt.Sprintf("shift %d with another Abbr alone", i), true, func(x *api.Table) { x.Shifts[i].Phase = *ahead(x); x.Shifts[i].Phase.Abbr += "'" })
	}
	for ats, ok := range map[[3]int64]bool{
		{10, 20, 30}: true, {10, 11, 12}: true, {10, 20, 21}: true, {10, 20, 20}: false, {10, 20, 19}: false, {10, 20, 10}: false, {10, 20, 5}: false, {10, 10, 30}: false, {11, 10, 30}: false, {20, 10, 30}: false, {30, 20, 31}: false, {40, 20, 30}: false, {10, 30, 30}: false, {10, 40, 30}: false,
		{math.MinInt64, math.MaxInt64 - 1, math.MaxInt64}: true, {math.MaxInt64, math.MinInt64, math.MaxInt64}: false, {math.MinInt64, math.MinInt64 + 1, math.MinInt64 + 2}: true, {math.MinInt64, 0, math.MinInt64}: false, {0, math.MaxInt64, math.MaxInt64}: false, {-20, -10, 0}: true, {-10, -20, 0}: false, {math.MinInt64, math.MinInt64, 0}: false, {-1, 0, 1}: true,
	} {
		l.add(fmt.Sprint("At, and Until, ", ats), ok, func(x *api.Table) { x.Shifts[0].At, x.Shifts[1].At, x.Until = ats[0], ats[1], ats[2] })
	}
	for _, until := range []int64{math.MinInt64, -1, 0, 1, math.MaxInt64} {
		l.add(fmt.Sprint("no shifts, and Until ", until), true, func(x *api.Table) { x.Shifts, x.Until = nil, until })
		l.add(fmt.Sprint("empty shifts, and Until ", until), true, func(x *api.Table) { x.Shifts, x.Until = []api.Shift{}, until })
	}
	for n, ok := range map[int]bool{1: true, 29999: true, 30000: true, 30001: false, 60000: false} {
		l.add(fmt.Sprint(n, " shifts"), ok, func(x *api.Table) {
			x.Shifts = nil
			for i := range n {
				x.Shifts = append(x.Shifts, api.Shift{At: int64(i), Phase: api.Phase{Offset: 1 + i%2}})
			}
			x.Until = int64(n)
		})
	}
	for _, i := range []int{0, 14999, 29998} {
		l.add(fmt.Sprint("a fault at shift ", i), false, func(x *api.Table) {
			x.Shifts = slices.Repeat([]api.Shift{{}}, 29999)
			for k := range x.Shifts {
				x.Shifts[k] = api.Shift{At: int64(k), Phase: api.Phase{Offset: 1 + k%2}}
			}
			x.Shifts[i].Phase.Abbr = "\x7f"
			x.Until = math.MaxInt64
		})
	}
	return l.all
}

// tails are changes of a table's tail.
func tails() []changed {
	l := list{of: whole}
	l.add("nothing", true, func(x *api.Table) {})
	l.add("one rule", true, func(x *api.Table) { x.Tail = x.Tail[:1] })
	l.add("the other rule", true, func(x *api.Table) { x.Tail = x.Tail[1:] })
	l.add("three rules", false, func(x *api.Table) {
		x.Tail = append(x.Tail, x.Tail[0])
		x.Tail[2].Spot.Month = 7
	})
	l.add("many rules", false, func(x *api.Table) { x.Tail = slices.Repeat(x.Tail, 150) })
	l.add("one rule twice", false, func(x *api.Table) { x.Tail[1] = x.Tail[0] })
	l.add("an empty rule", false, func(x *api.Table) { x.Tail[1] = api.Rule{} })
	l.add("no tail, but a format", false, func(x *api.Table) { x.Tail = nil })
	l.add("no tail, but an offset", false, func(x *api.Table) { x.Tail, x.Format, x.Offset = nil, "", 1 })
	l.add("no tail, but an offset below 0", false, func(x *api.Table) { x.Tail, x.Format, x.Offset = nil, "", math.MinInt })
	l.add("an empty tail, but a format", false, func(x *api.Table) { x.Tail = x.Tail[:0] })
	l.add("no tail", true, func(x *api.Table) { x.Tail, x.Format = nil, "" })
	l.add("an empty tail", true, func(x *api.Table) { x.Tail, x.Format = x.Tail[:0], "" })
	for i := range 2 {
		rule := func(what string, ok bool, change func(r *api.Rule)) {
			l.add(fmt.Sprintf("rule %d: %s", i, what), ok, func(x *api.Table) { change(&x.Tail[i]) })
		}
		for name, ok := range map[string]bool{"": false, "Q": true, "_": true, "-": false, "1": false, "a/b": false, strings.Repeat("a", 20): true, strings.Repeat("a", 21): false, "\xc3\xa4": false, "R ": false} {
			rule(fmt.Sprintf("Name %q", name), ok, func(r *api.Rule) { r.Name = name })
		}
		for year, ok := range map[int]bool{1: true, 9999: true, 0: false, -1: false, 10000: false, api.Ever: false, math.MinInt: false, math.MaxInt: false} {
			rule(fmt.Sprint("From ", year), ok, func(r *api.Rule) { r.From = year })
		}
		for _, year := range []int{0, 1, 1970, 9999, 10000, api.Ever - 1, api.Ever + 1, math.MaxInt, math.MinInt} {
			rule(fmt.Sprint("To ", year), false, func(r *api.Rule) { r.To = year })
		}
		for save, ok := range map[int]bool{0: true, 43200: true, -43200: true, 43201: false, -43201: false, math.MaxInt: false, math.MinInt: false} {
			rule(fmt.Sprint("Save ", save), ok, func(r *api.Rule) { r.Save = save })
		}
		for text, ok := range map[string]bool{"": true, "-": false, "--": true, "+": true, "12345678": true, "123456789": false, "+-aZ09": true, "a/b": false, "%": false, " ": false, "_": false, "\xc3\xa4": false, "a\x00": false} {
			rule(fmt.Sprintf("Letter %q", text), ok, func(r *api.Rule) { r.Letter = text })
		}
		rule("another month", true, func(r *api.Rule) { r.Spot.Month = 7 })
		rule("month 0", false, func(r *api.Rule) { r.Spot.Month = 0 })
		rule("month 13", false, func(r *api.Rule) { r.Spot.Month = 13 })
		rule("a fifth kind", false, func(r *api.Rule) { r.Spot.Kind = 4 })
		rule("a weekday of a day", false, func(r *api.Rule) { r.Spot.Weekday = 1 })
		rule("day 0", false, func(r *api.Rule) { r.Spot.Day = 0 })
		rule("a time", true, func(r *api.Rule) { r.Spot.Time = -604799 })
		rule("too great a time", false, func(r *api.Rule) { r.Spot.Time = 604800 })
		rule("a fourth clock", false, func(r *api.Rule) { r.Spot.Ref = 3 })
	}
	for time, ok := range map[int]bool{-1: false, 0: true, 1: true, -172800: false, -172799: false, -345600: true, -345599: false, -345601: true} {
		l.add(fmt.Sprintf("two days between, and %d seconds", time), ok, func(x *api.Table) {
			x.Tail[0].Spot, x.Tail[1].Spot = day(6, 10, 0, utc), day(6, 12, time, wall)
		})
	}
	l.add("near across years", false, func(x *api.Table) { x.Tail[0].Spot, x.Tail[1].Spot = day(12, 31, 0, utc), day(1, 1, 0, wall) })
	return append(append(l.all, tailOffsets()...), formats()...)
}

// tailOffsets are offsets of a table, and savings of its tail.
func tailOffsets() []changed {
	l := list{of: whole}
	for _, offset := range []int{0, 43199, 43200, 43201, 86398, 86399, 86400, 86401, 100000, math.MaxInt, math.MaxInt - 43200} {
		for _, save := range []int{-43200, -43199, -1, 0, 1, 43199, 43200} {
			for sign := -1; sign <= 1; sign += 2 {
				for i := range 2 {
					ok := offset < 86400 && offset+save*sign < 86400 && offset+save*sign > -86400
					l.add(fmt.Sprintf("Offset %d, Save %d of rule %d", offset*sign, save, i), ok, func(x *api.Table) {
						x.Offset = offset * sign
						x.Tail[1-i].Save, x.Tail[i].Save = 0, save
					})
				}
			}
		}
	}
	// All savings bring it to less than a day, but alone it is one.
	l.add("a day alone", false, func(x *api.Table) { x.Offset, x.Tail[0].Save, x.Tail[1].Save = 86400, -3600, -1 })
	l.add("a day below alone", false, func(x *api.Table) { x.Offset, x.Tail[0].Save, x.Tail[1].Save = -86400, 3600, 1 })
	return l.all
}

// formats are formats of a table with a tail.
func formats() []changed {
	l := list{of: whole}
	for text, ok := range map[string]bool{
		"": false, "X": true, "%s": true, "%z": true, "a%sb": true, "%": false, "%%": false, "%x": false, "%S": false, "s%": false, "%s%z": false, "%s%": false, "A/B": true, "/": false, "/A": false, "A/": false, "A/B/C": false, "A//B": false, "%s/B": false, "A/%z": false,
		"12345678901234567890": true, "123456789012345678901": false, "123456789012345678%s": true, "1234567890123456789%s": false, "+-": true, "-": true, "_": false, "a b": false, "\xc3\xa4": false, "~": false, "X\x00": false,
	} {
		l.add(fmt.Sprintf("Format %q", text), ok, func(x *api.Table) { x.Format = text })
	}
	sample.Every("A/%sz", 5, func(text string) {
		l.add(fmt.Sprintf("Format %q", text), text != "" && format.MatchString(text), func(x *api.Table) { x.Format = text })
	})
	return l.all
}

// all are all changes of tables.
func all() []changed {
	return slices.Concat(phases(whole), phases(short), phases(bare), shifts(whole), shifts(short), tails())
}

// P14.2: Right, of each field at its bounds and beyond them, and At beside it: of what isn't right nothing is told.
func TestRight(t *testing.T) {
	for _, of := range []func() api.Table{whole, short, bare} {
		if !table.Right(of()) {
			t.Error(of())
		}
	}
	if table.Right(api.Table{}) {
		t.Error("the zero table is right")
	}
	for _, x := range all() {
		if got := table.Right(x.x); got != x.ok || right(x.x) != x.ok {
			t.Errorf("%s: %v, by the words %v; must be %v", x.what, got, right(x.x), x.ok)
		}
		triesAt(t, x.x)
	}
}

// triesAt tries At with a table at times of all sizes and those about its shifts and its Until.
func triesAt(t *testing.T, x api.Table) {
	t.Helper()
	times := []int64{math.MinInt64, -1, 0, 1, math.MaxInt64}
	if len(x.Shifts) < 1000 {
		times = slices.Concat(times, ends, []int64{9, 10, 11, 19, 20, 21, 29, 30, 31, x.Until - 1, x.Until, x.Until + 1})
	}
	ok := right(x)
	for _, n := range times {
		want := api.Phase{}
		if ok {
			want = told(x, n)
		}
		if got, gotOk := table.At(x, n); got != want || gotOk != ok {
			t.Fatalf("At(%v, %d): %v, %v; must be %v, %v", x, n, got, gotOk, want, ok)
		}
	}
}

// P14.2: tables by a fixed rule, of which some are right: what zones were compiled to, with fields of one another.
func TestRightByARule(t *testing.T) {
	d := sample.Rolled(1 << 16)
	var l []api.Table
	for range 60 {
		s := anySource(d, anySet)
		for z := range s.Zones {
			x, _ := table.Compile(s, z)
			l = append(l, x)
		}
	}
	seen := map[bool]int{}
	for range 4000 {
		x, y := l[d.To(len(l))], l[d.To(len(l))]
		x.Shifts, x.Tail = slices.Clone(x.Shifts), slices.Clone(x.Tail)
		for range 1 + d.To(2) {
			mix(d, &x, y)
		}
		got := table.Right(x)
		if got != right(x) {
			t.Fatalf("Right(%v): %v", x, got)
		}
		seen[got]++
		if d.To(10) == 0 {
			triesAt(t, x)
		}
	}
	if seen[true] < 500 || seen[false] < 500 {
		t.Error(seen)
	}
}

// mix puts something of another table into a table.
func mix(d *sample.Dice, x *api.Table, y api.Table) {
	switch d.To(10) {
	case 0:
		x.First = y.First
	case 1:
		x.Shifts = slices.Concat(x.Shifts, y.Shifts)
	case 2:
		x.Shifts = slices.Concat(x.Shifts[:len(x.Shifts)/2], y.Shifts[len(y.Shifts)/2:])
	case 3:
		x.Until = y.Until
	case 4:
		x.Tail = slices.Concat(x.Tail, y.Tail)
	case 5:
		x.Tail, x.Offset, x.Format = slices.Clone(y.Tail), y.Offset, y.Format
	case 6:
		x.Offset = y.Offset + d.From(-1, 1)*43200
	case 7:
		x.Format = y.Format
	case 8:
		x.Name = sample.Pick(d, "A", "A/B", "", "/")
	case 9:
		if len(x.Shifts) > 0 {
			i := d.To(len(x.Shifts))
			x.Shifts[i].At += int64(d.From(-400, 400)) * wholeDay
		}
	}
}
