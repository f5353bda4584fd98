package rules_test

import (
	"cmp"
	"math"
	"slices"
	"testing"
	"time"

	"analemma/api"
	"analemma/moment"
	"analemma/rules"
)

const (
	hour     = 3600
	wholeDay = 86400
	apart    = 172800
	ever     = 1000000
	wall     = api.Wall
	standard = api.Standard
	utc      = api.Universal
)

// ends are times, and years, of all sizes.
var ends = []int64{
	math.MinInt64, math.MinInt64 + 1, math.MinInt64 + 129599, math.MinInt64 + 129600, math.MinInt64 + 129601, -1 << 53, -8640000604800, -8640000000000, -9000000000000, -1 << 40,
	-62135596801, -62135596800, -1 << 32, -wholeDay, -1, 0, 1, wholeDay, 1 << 31, 1 << 32, 253402300799, 253402300800, 1 << 40,
	8640000000000, 8640000086399, 8640000604800, 8640000734400, 9000000000000, 1 << 53, math.MaxInt64 - 129601, math.MaxInt64 - 129600, math.MaxInt64 - 129599, math.MaxInt64 - 1, math.MaxInt64,
}

// offsets are those with which times are tried: about a day, and of both signs.
var offsets = []int{0, 3600, -18000, 86399, -86399, 45296}

// at is a moment in seconds, by the language's own calendar.
func at(year int, month time.Month, day, hour, minute, second int) int64 {
	return time.Date(year, month, day, hour, minute, second, 0, time.UTC).Unix()
}

// rule is a rule in force in some years.
func rule(from, to int, s api.Spot, save int, letter string) api.Rule {
	return api.Rule{Name: "R", From: from, To: to, Spot: s, Save: save, Letter: letter}
}

// day is a spot on a day of a month.
func day(month, day, time, ref int) api.Spot {
	return api.Spot{Month: month, Kind: api.OnDay, Day: day, Time: time, Ref: ref}
}

// weekday is a spot on a weekday of a month: the last one (without a day), or the first one from a day on.
func weekday(month, weekday, day, time, ref int) api.Spot {
	kind := api.OnAfter
	if day == 0 {
		kind = api.OnLast
	}
	return api.Spot{Month: month, Kind: kind, Weekday: weekday, Day: day, Time: time, Ref: ref}
}

// weekdayAhead is a spot on the last weekday up to a day of a month.
func weekdayAhead(month, weekday, day, time, ref int) api.Spot {
	return api.Spot{Month: month, Kind: api.OnAhead, Weekday: weekday, Day: day, Time: time, Ref: ref}
}

// us is the set of the document's example.
func us() []api.Rule {
	return []api.Rule{
		rule(2007, ever, weekday(3, 7, 8, 2*hour, wall), hour, "D"),
		rule(2007, ever, weekday(11, 7, 1, 2*hour, wall), 0, "S"),
	}
}

// right tells whether a set may be, by the words.
func right(l []api.Rule) bool {
	for _, r := range l {
		if r.From < 1 || r.From > 9999 || (r.To < 1 || r.To > 9999) && r.To != ever || r.Save < -43200 || r.Save > 43200 || !moment.Right(r.Spot) {
			return false
		}
	}
	return true
}

// crowded tells whether a right set is crowded, by the words, year by year.
func crowded(l []api.Rule) bool {
	for year := 1; year <= 10000; year++ {
		n := 0
		for _, r := range l {
			if r.From <= year && year <= r.To {
				n++
			}
		}
		if n > 10 {
			return true
		}
	}
	return false
}

// named is the last year that a set names, be it right or not.
func named(l []api.Rule) int {
	year := 1
	for _, r := range l {
		for _, y := range []int{r.From, r.To} {
			if y <= 9999 {
				year = max(year, y)
			}
		}
	}
	return year
}

// turned is a turn, and the place of its rule in the set.
type turned struct {
	api.Turn
	place int
}

// all are the turns of a right set in all years up to one, in order, by the words.
func all(l []api.Rule, until int) []turned {
	var turns []turned
	for i, r := range l {
		for year := r.From; year <= min(r.To, until); year++ {
			if at, ok := moment.Local(r.Spot, year); ok {
				turns = append(turns, turned{api.Turn{At: at, Ref: r.Spot.Ref, Save: r.Save, Letter: r.Letter}, i})
			}
		}
	}
	slices.SortFunc(turns, func(a, b turned) int { return cmp.Or(cmp.Compare(a.At, b.At), cmp.Compare(a.place, b.place)) })
	return turns
}

// nearest is how many seconds lie between the two nearest of turns.
func nearest(turns []turned) int64 {
	least := int64(math.MaxInt64)
	for i := 1; i < len(turns); i++ {
		least = min(least, turns[i].At-turns[i-1].At)
	}
	return least
}

// near tells whether a set is near, by the words: behind the years that are named the calendar comes again after 400 ones.
func near(l []api.Rule) bool {
	return right(l) && !crowded(l) && nearest(all(l, named(l)+402)) < apart
}

// world is a right set with its turns up to a year.
type world struct {
	l     []api.Rule
	turns []turned
	until int
}

// worldOf is a right set with its turns up to some years behind the last one that is named.
func worldOf(l []api.Rule) world {
	until := named(l) + 8
	return world{l, all(l, until), until}
}

// told tells whether all turns that a time hangs on are among those of the world.
func (w world) told(t int64) bool {
	endless := slices.ContainsFunc(w.l, func(r api.Rule) bool { return r.To == ever })
	return !endless || t < at(w.until-1, 1, 1, 0, 0, 0)
}

// turnsOf are a year's turns, by the words: each stands behind those that aren't later.
func (w world) turnsOf(year int) []api.Turn {
	one := slices.Clone(w.l)
	for i := range one {
		if year < one[i].From || year > one[i].To {
			one[i].From, one[i].To = 2, 1
			continue
		}
		one[i].From, one[i].To = year, year
	}
	var l []api.Turn
	for _, x := range all(one, year) {
		l = append(l, x.Turn)
	}
	return l
}

// upTo is how many turns' times are at most a time.
func (w world) upTo(at int64) int {
	n, _ := slices.BinarySearchFunc(w.turns, at, func(x turned, at int64) int {
		if x.At <= at {
			return -1
		}
		return 1
	})
	return n
}

// ahead is the turn ahead of a time, by the words.
func (w world) ahead(at int64) (api.Turn, bool) {
	if at == math.MinInt64 || w.upTo(at-1) == 0 {
		return api.Turn{}, false
	}
	return w.turns[w.upTo(at-1)-1].Turn, true
}

// universal is a turn's universal time, by the words.
func (w world) universal(x turned, offset int) int64 {
	before, _ := w.ahead(x.At)
	return x.At - map[int]int64{wall: int64(offset + before.Save), standard: int64(offset), utc: 0}[x.Ref]
}

// first is the letter ahead of all turns, by the words: of the rules with Save 0 that one's whose first turn is the first in order.
func (w world) first() string {
	for _, x := range w.turns {
		if x.Save == 0 {
			return x.Letter
		}
	}
	return ""
}

// inForce is what is in force at a time, by the words: no turn's universal time lies four days ahead of its time.
func (w world) inForce(offset int, t int64) (int, string) {
	for i := w.upTo(min(t, 1<<60)+4*wholeDay) - 1; i >= 0; i-- {
		if x := w.turns[i]; w.universal(x, offset) <= t {
			return x.Save, x.Letter
		}
	}
	return 0, w.first()
}

// some are turns with which calls are tried: all, but of many those at both ends, and some between.
func (w world) some() []turned {
	n := len(w.turns)
	if n <= 100 {
		return w.turns
	}
	l := slices.Concat(w.turns[:25], w.turns[n-25:])
	for i := range 25 {
		l = append(l, w.turns[n*i/25])
	}
	return l
}

// tries tries all calls with a set.
func tries(t *testing.T, l []api.Rule) {
	t.Helper()
	if !right(l) {
		refused(t, l)
		return
	}
	if !rules.Right(l) {
		t.Fatalf("Right(%v): false", l)
	}
	if got := rules.Crowded(l); got != crowded(l) {
		t.Fatalf("Crowded(%v): %v", l, got)
	}
	if got := rules.Near(l); got != near(l) {
		t.Fatalf("Near(%v): %v", l, got)
	}
	w := worldOf(l)
	triesTurns(t, w)
	triesAhead(t, w)
	for _, offset := range offsets {
		triesForce(t, w, offset)
	}
}

// triesTurns tries Turns about all years that are named.
func triesTurns(t *testing.T, w world) {
	t.Helper()
	years := []int{0, 1, 9999, 10000}
	for _, r := range w.l {
		years = append(years, r.From-1, r.From, r.From+1, r.To-1, r.To, r.To+1)
	}
	for _, year := range years {
		if got, want := rules.Turns(w.l, year), w.turnsOf(year); !slices.Equal(got, want) {
			t.Fatalf("Turns(%v, %d): %v; must be %v", w.l, year, got, want)
		}
	}
}

// triesAhead tries Ahead about all turns, and everywhere.
func triesAhead(t *testing.T, w world) {
	t.Helper()
	times := slices.Clone(ends)
	for _, x := range w.some() {
		times = append(times, x.At-1, x.At, x.At+1, x.At+10*wholeDay)
	}
	for _, at := range times {
		if !w.told(at) {
			continue
		}
		want, wantOK := w.ahead(at)
		if got, ok := rules.Ahead(w.l, at); got != want || ok != wantOK {
			t.Fatalf("Ahead(%v, %d): %v, %v; must be %v, %v", w.l, at, got, ok, want, wantOK)
		}
	}
}

// triesForce tries Force about all turns' times, universal and not, and everywhere.
func triesForce(t *testing.T, w world, offset int) {
	t.Helper()
	times := slices.Clone(ends)
	for _, x := range w.some() {
		u := w.universal(x, offset)
		times = append(times, u-1, u, u+1, u+10*wholeDay, x.At, x.At-int64(offset))
	}
	for _, at := range times {
		if !w.told(at) {
			continue
		}
		want, wantLetter := w.inForce(offset, at)
		if got, letter := rules.Force(w.l, offset, at); got != want || letter != wantLetter {
			t.Fatalf("Force(%v, %d, %d): %d, %q; must be %d, %q", w.l, offset, at, got, letter, want, wantLetter)
		}
	}
}

// refused tries all calls with a set that isn't right.
func refused(t *testing.T, l []api.Rule) {
	t.Helper()
	if rules.Right(l) || rules.Crowded(l) || rules.Near(l) {
		t.Fatalf("%v: Right %v, Crowded %v, Near %v", l, rules.Right(l), rules.Crowded(l), rules.Near(l))
	}
	for _, n := range append(slices.Clone(ends), 1900, 1999, 2000, 2001, 2007, 2021, 9999, 10000, ever) {
		if got := rules.Turns(l, int(n)); got != nil {
			t.Fatalf("Turns(%v, %d): %v", l, n, got)
		}
		if got, ok := rules.Ahead(l, n); got != (api.Turn{}) || ok {
			t.Fatalf("Ahead(%v, %d): %v, %v", l, n, got, ok)
		}
		for _, offset := range offsets {
			if save, letter := rules.Force(l, offset, n); save != 0 || letter != "" {
				t.Fatalf("Force(%v, %d, %d): %d, %q", l, offset, n, save, letter)
			}
		}
	}
}
