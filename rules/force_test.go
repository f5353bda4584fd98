package rules_test

import (
	"math"
	"slices"
	"testing"
	"time"

	"analemma/api"
	"analemma/rules"
	"analemma/sample"
)

// forced is what Force answers.
type forced struct {
	save   int
	letter string
}

// force asks Force.
func force(l []api.Rule, offset int, t int64) forced {
	save, letter := rules.Force(l, offset, t)
	return forced{save, letter}
}

// P11.1 to P11.3: sets by a fixed rule, of none, one and many rules; many are near, with turns of like times, and some are crowded.
func TestSetsByARule(t *testing.T) {
	d := sample.Rolled(1 << 17)
	for range 150 {
		tries(t, d.Set(6))
	}
	for range 15 {
		tries(t, d.Set(25))
	}
}

// P11.1 to P11.3: a crowded set of as many rules as a source may have, each named.
func TestAsManyRulesAsMayBe(t *testing.T) {
	d := sample.Rolled(1 << 12)
	var l []api.Rule
	for range api.MaxRules {
		l = append(l, d.Rule())
	}
	w := worldOf(l)
	triesTurns(t, w)
	triesAhead(t, w)
	triesForce(t, w, -18000)
}

// The document's examples.
func TestExamples(t *testing.T) {
	want := []api.Turn{{At: at(2021, 3, 14, 2, 0, 0), Ref: wall, Save: 3600, Letter: "D"}, {At: at(2021, 11, 7, 2, 0, 0), Ref: wall, Save: 0, Letter: "S"}}
	if got := rules.Turns(us(), 2021); !slices.Equal(got, want) {
		t.Error(got)
	}
	for _, x := range []struct {
		t      int64
		save   int
		letter string
	}{
		{at(2021, 3, 14, 6, 59, 59), 0, "S"}, {at(2021, 3, 14, 7, 0, 0), 3600, "D"},
		{at(2021, 11, 7, 5, 59, 59), 3600, "D"}, {at(2021, 11, 7, 6, 0, 0), 0, "S"},
	} {
		if save, letter := rules.Force(us(), -18000, x.t); save != x.save || letter != x.letter {
			t.Errorf("%d: %d, %q", x.t, save, letter)
		}
	}
}

// P11.2, written out: the turns of years ahead of, in and behind those that are named, and their order.
func TestTurnsWrittenOut(t *testing.T) {
	l := []api.Rule{
		rule(2000, 2002, day(10, 5, 0, standard), 0, "late"),
		rule(2001, 2001, day(4, 5, hour, utc), hour, "early"),
		rule(2001, ever, day(10, 4, wholeDay, wall), -hour, "like"),
		rule(2003, 2001, day(1, 1, 0, wall), hour, "never"),
		rule(9999, 9999, day(2, 30, 0, wall), hour, "last"),
	}
	late := func(year int) api.Turn { return api.Turn{At: at(year, 10, 5, 0, 0, 0), Ref: standard, Letter: "late"} }
	like := func(year int) api.Turn {
		return api.Turn{At: at(year, 10, 5, 0, 0, 0), Ref: wall, Save: -hour, Letter: "like"}
	}
	early := api.Turn{At: at(2001, 4, 5, 1, 0, 0), Ref: utc, Save: hour, Letter: "early"}
	last := api.Turn{At: at(9999, 3, 2, 0, 0, 0), Ref: wall, Save: hour, Letter: "last"}
	for year, want := range map[int][]api.Turn{
		1: nil, 0: nil, -1: nil, -2000: nil, math.MinInt: nil, 1999: nil,
		2000: {late(2000)}, 2001: {early, late(2001), like(2001)}, 2002: {late(2002), like(2002)}, 2003: {like(2003)},
		9998: {like(9998)}, 9999: {last, like(9999)}, 10000: {like(10000)}, 275759: {like(275759)},
		275760: nil, 275761: nil, 300000: nil, 300001: nil, ever: nil, ever + 1: nil, math.MaxInt: nil,
	} {
		if got := rules.Turns(l, year); !slices.Equal(got, want) {
			t.Errorf("%d: %v; must be %v", year, got, want)
		}
	}
	l[0], l[2] = l[2], l[0]
	if got := rules.Turns(l, 2001); !slices.Equal(got, []api.Turn{early, like(2001), late(2001)}) {
		t.Error(got)
	}
	for _, l := range [][]api.Rule{nil, {}, l[3:4]} {
		for _, year := range []int{0, 1, 2001, 2002, 2003, 9999, 10000} {
			if got := rules.Turns(l, year); len(got) != 0 {
				t.Errorf("%v, %d: %v", l, year, got)
			}
		}
	}
}

// P11.2: spots on days that a month doesn't have, and with times in the years about it, by the language's own calendar.
func TestTurnsBesideTheirMonths(t *testing.T) {
	for _, year := range []int{1, 2, 4, 100, 400, 1900, 1999, 2000, 2001, 9999, 10000, 10100, 200000, 275759} {
		for _, month := range []time.Month{1, 2, 4, 12} {
			for _, n := range []int{1, 28, 29, 30, 31} {
				for _, seconds := range []int{-604799, -wholeDay, 0, wholeDay, 604799} {
					l := []api.Rule{rule(1, ever, day(int(month), n, seconds, wall), hour, "x")}
					want := api.Turn{At: at(year, month, n, 0, 0, seconds), Save: hour, Letter: "x"}
					if got := rules.Turns(l, year); !slices.Equal(got, []api.Turn{want}) {
						t.Fatalf("%d-%d-%d, %d seconds: %v; must be %v", year, month, n, seconds, got, want)
					}
					if got, ok := rules.Ahead(l, want.At+1); got != want || !ok {
						t.Fatalf("ahead of a second behind %d-%d-%d, %d seconds: %v, %v", year, month, n, seconds, got, ok)
					}
					if got, ok := rules.Ahead(l, want.At); ok != (year > 1) || ok && got.At != at(year-1, month, n, 0, 0, seconds) {
						t.Fatalf("ahead of %d-%d-%d, %d seconds: %v, %v", year, month, n, seconds, got, ok)
					}
				}
			}
		}
	}
}

// P11.2, P11.3: about the years in which spots are told last, and long behind them.
func TestEndOfTimes(t *testing.T) {
	for _, x := range []struct {
		s    api.Spot
		year int
	}{
		{day(1, 1, 0, wall), 275760}, {day(9, 13, 604799, wall), 275760}, {day(9, 13, -604799, utc), 275760}, {day(9, 14, -604799, wall), 275759}, {day(8, 31, 0, standard), 275760},
		{day(10, 1, 0, wall), 275759}, {day(12, 31, 604799, utc), 275759}, {weekday(9, 6, 7, 0, wall), 275760}, {weekday(9, 7, 8, 0, wall), 275759}, {weekday(9, 3, 0, 0, wall), 275759}, {weekdayAhead(9, 7, 13, 0, wall), 275760},
	} {
		l := []api.Rule{rule(9999, ever, x.s, hour, "x")}
		for year := 275758; year < 275763; year++ {
			if got := rules.Turns(l, year); (len(got) == 1) != (year <= x.year) {
				t.Errorf("%v in %d: %v", x.s, year, got)
			}
		}
		last := rules.Turns(l, x.year)[0]
		for _, n := range []int64{last.At + 1, 8640000604800, 8640000604801, 1 << 53, math.MaxInt64} {
			if got, ok := rules.Ahead(l, n); got != last || !ok {
				t.Errorf("%v ahead of %d: %v, %v", x.s, n, got, ok)
			}
		}
	}
	for _, n := range []int64{at(275760, 3, 10, 0, 0, 0), 8640000000000, 8640000604801, 1 << 53, math.MaxInt64 - 1, math.MaxInt64} {
		if got := force(us(), -18000, n); got != (forced{hour, "D"}) {
			t.Errorf("Force at %d: %v", n, got)
		}
	}
	w := world{us(), all(us(), 275761), ever}
	for _, x := range w.turns[len(w.turns)-6:] {
		u := w.universal(x, -18000)
		for near := int64(-1); near <= 1; near++ {
			want, wantOK := w.ahead(x.At + near)
			if got, ok := rules.Ahead(w.l, x.At+near); got != want || ok != wantOK {
				t.Errorf("Ahead %d: %v, %v; must be %v", x.At+near, got, ok, want)
			}
			save, _ := rules.Force(w.l, -18000, u+near)
			if (save == x.Save) != (near >= 0) {
				t.Errorf("Force at %d: %d", u+near, save)
			}
		}
	}
}

// P11.2, written out: the turn ahead.
func TestAheadWrittenOut(t *testing.T) {
	spring, autumn := us()[0], us()[1]
	spring.To, autumn.To = 2009, 2008
	l := []api.Rule{autumn, spring}
	turn := func(r api.Rule, at int64) api.Turn {
		return api.Turn{At: at, Ref: wall, Save: r.Save, Letter: r.Letter}
	}
	march, november := turn(spring, at(2007, 3, 11, 2, 0, 0)), turn(autumn, at(2007, 11, 4, 2, 0, 0))
	last := turn(spring, at(2009, 3, 8, 2, 0, 0))
	for _, x := range []struct {
		at   int64
		want api.Turn
		ok   bool
	}{
		{math.MinInt64, api.Turn{}, false}, {at(1, 1, 1, 0, 0, 0), api.Turn{}, false}, {0, api.Turn{}, false}, {march.At - 1, api.Turn{}, false}, {march.At, api.Turn{}, false},
		{march.At + 1, march, true}, {at(2007, 7, 1, 0, 0, 0), march, true}, {november.At, march, true}, {november.At + 1, november, true}, {at(2008, 1, 1, 0, 0, 0), november, true},
		{last.At, turn(autumn, at(2008, 11, 2, 2, 0, 0)), true}, {last.At + 1, last, true}, {at(2021, 1, 1, 0, 0, 0), last, true}, {at(9999, 12, 31, 0, 0, 0), last, true}, {1 << 50, last, true}, {math.MaxInt64, last, true},
	} {
		if got, ok := rules.Ahead(l, x.at); got != x.want || ok != x.ok {
			t.Errorf("%d: %v, %v; must be %v, %v", x.at, got, ok, x.want, x.ok)
		}
	}
	// With one that never ends, long behind the last year that is named.
	l[0].To = ever
	for _, year := range []int{2010, 2021, 9999, 10000, 123456} {
		got, ok := rules.Ahead(l, at(year, 12, 31, 0, 0, 0))
		if !ok || got.Letter != "S" || got.At < at(year, 11, 1, 0, 0, 0) || got.At > at(year, 11, 8, 0, 0, 0) {
			t.Errorf("%d: %v, %v", year, got, ok)
		}
	}
}

// orders are all orders of some rules.
func orders(l []api.Rule) [][]api.Rule {
	if len(l) == 0 {
		return [][]api.Rule{nil}
	}
	var all [][]api.Rule
	for i, r := range l {
		for _, rest := range orders(slices.Delete(slices.Clone(l), i, i+1)) {
			all = append(all, append([]api.Rule{r}, rest...))
		}
	}
	return all
}

// P11.2: of turns of like times the one of the rule further behind is ahead, in each order of the rules.
func TestLikeTimes(t *testing.T) {
	like := []api.Rule{
		rule(2000, ever, day(5, 1, 0, wall), hour, "a"),
		rule(2000, 2000, day(4, 30, wholeDay, utc), 2*hour, "b"),
		rule(1990, 2010, weekday(5, 1, 1, 0, standard), 0, "c"),
		rule(1999, 2000, day(4, 29, 2*wholeDay, wall), -hour, "d"),
	}
	when := at(2000, 5, 1, 0, 0, 0)
	for _, l := range orders(like) {
		var letters, got string
		for _, r := range l {
			letters += r.Letter
		}
		for _, x := range rules.Turns(l, 2000) {
			if x.At != when {
				t.Fatal(x)
			}
			got += x.Letter
		}
		if got != letters {
			t.Errorf("%s: %s", letters, got)
		}
		if x, ok := rules.Ahead(l, when+1); x.Letter != letters[3:] || !ok {
			t.Errorf("%s: %v, %v", letters, x, ok)
		}
		if x, ok := rules.Ahead(l, when); x.At == when || !ok {
			t.Errorf("%s: %v, %v", letters, x, ok)
		}
		if _, letter := rules.Force(l, 0, when+10*wholeDay); letter != letters[3:] {
			t.Errorf("%s: %s", letters, letter)
		}
		tries(t, l)
	}
}

// P11.3, written out: by each of the three clocks, behind savings above, below and of 0, at offsets of both signs.
func TestForceByEachClock(t *testing.T) {
	for _, offset := range []int{-86399, -18000, -1, 0, 1, 3600, 45296, 86399} {
		for _, before := range []int{-43200, -3600, 0, 1, 1800, 3600, 43200} {
			for ref, less := range map[int]int{wall: offset + before, standard: offset, utc: 0} {
				l := []api.Rule{rule(1990, 1995, day(4, 1, 0, utc), before, "before"), rule(1990, 1995, day(9, 1, 2*hour, ref), 7200, "behind")}
				u := at(1993, 9, 1, 2, 0, 0) - int64(less)
				for near, want := range map[int64]string{-2: "before", -1: "before", 0: "behind", 1: "behind", -100 * wholeDay: "before", 100 * wholeDay: "behind"} {
					save, letter := rules.Force(l, offset, u+near)
					if letter != want || save != map[string]int{"before": before, "behind": 7200}[want] {
						t.Errorf("offset %d, save %d, clock %d, %d seconds behind: %d, %q", offset, before, ref, near, save, letter)
					}
				}
				tries(t, l)
			}
		}
	}
}

// P11.3, written out: the first turn of all has no turn ahead, so that wall's clock is standard's.
func TestForceOfTheFirstTurn(t *testing.T) {
	l := []api.Rule{rule(2000, 2000, day(4, 1, 0, wall), hour, "D"), rule(2000, 2000, day(10, 1, 0, wall), 0, "S")}
	for offset, u := range map[int]int64{0: at(2000, 4, 1, 0, 0, 0), 3600: at(2000, 3, 31, 23, 0, 0), -3600: at(2000, 4, 1, 1, 0, 0)} {
		if save, letter := rules.Force(l, offset, u-1); save != 0 || letter != "S" {
			t.Errorf("%d: %d, %q", offset, save, letter)
		}
		if save, letter := rules.Force(l, offset, u); save != hour || letter != "D" {
			t.Errorf("%d: %d, %q", offset, save, letter)
		}
	}
}

// P11.3, written out: a turn just ahead of another one, or at its time, whose saving counts or not for that one's universal time.
func TestForceJustBehindAnotherTurn(t *testing.T) {
	for between, saved := range map[int]int{0: 7200, 1: 3600, 2: 3600, 3600: 3600, -1: 7200, -2: 7200} {
		l := []api.Rule{
			rule(1999, 1999, day(4, 1, 0, utc), 7200, "start"),
			rule(2000, 2000, day(4, 1, 12*hour-between, standard), 3600, "one"),
			rule(2000, 2000, day(4, 1, 12*hour, wall), 1800, "other"),
		}
		u := at(2000, 4, 1, 12, 0, 0) - int64(saved)
		if before, behind := force(l, 0, u-1), force(l, 0, u); before.letter == "other" || between >= 0 && behind != (forced{1800, "other"}) {
			t.Errorf("%d seconds: %v, %v", between, before, behind)
		}
		tries(t, l)
		slices.Reverse(l)
		tries(t, l)
	}
}

// P11.3, written out: where turns are near, the latest one by its time is in force, not by its universal time.
func TestForceOfTurnsThatAreNear(t *testing.T) {
	// By wall's clock the second turn is less the first one's 12 hours, and so it has come ahead of the first one.
	l := []api.Rule{rule(2000, 2000, day(4, 1, 12*hour, utc), 43200, "first"), rule(2000, 2000, day(4, 1, 13*hour, wall), 0, "second")}
	for _, x := range []struct {
		t      int64
		letter string
	}{{at(2000, 4, 1, 0, 59, 59), "second"}, {at(2000, 4, 1, 1, 0, 0), "second"}, {at(2000, 4, 1, 12, 0, 0), "second"}, {at(2000, 4, 1, 13, 0, 0), "second"}} {
		if save, letter := rules.Force(l, 0, x.t); save != 0 || letter != x.letter {
			t.Errorf("%d: %d, %q", x.t, save, letter)
		}
	}
	l[1].Save = hour
	for _, x := range []struct {
		t      int64
		save   int
		letter string
	}{{at(2000, 4, 1, 0, 59, 59), 0, ""}, {at(2000, 4, 1, 1, 0, 0), hour, "second"}, {at(2000, 4, 1, 12, 0, 0), hour, "second"}, {at(2000, 4, 1, 13, 0, 0), hour, "second"}} {
		if save, letter := rules.Force(l, 0, x.t); save != x.save || letter != x.letter {
			t.Errorf("%d: %d, %q", x.t, save, letter)
		}
	}
	// Of two turns of one time the one further behind counts, as soon as its own universal time has come.
	l = []api.Rule{rule(2000, 2000, day(4, 1, 0, utc), hour, "a"), rule(2000, 2000, day(4, 1, 0, standard), 2*hour, "b"), rule(1999, 1999, day(1, 1, 0, utc), 0, "c")}
	for t0, want := range map[int64]string{at(2000, 3, 31, 23, 59, 59): "c", at(2000, 4, 1, 0, 0, 0): "a", at(2000, 4, 1, 4, 59, 59): "a", at(2000, 4, 1, 5, 0, 0): "b"} {
		if _, letter := rules.Force(l, -18000, t0); letter != want {
			t.Errorf("%d: %q", t0, letter)
		}
	}
	for t0, want := range map[int64]string{at(2000, 3, 31, 18, 59, 59): "c", at(2000, 3, 31, 19, 0, 0): "b", at(2000, 4, 1, 0, 0, 0): "b"} {
		if _, letter := rules.Force(l, 18000, t0); letter != want {
			t.Errorf("%d: %q", t0, letter)
		}
	}
}

// P11.3, written out: what is in force ahead of all turns.
func TestForceAheadOfAllTurns(t *testing.T) {
	spring := rule(2000, 2010, day(4, 1, 0, wall), hour, "D")
	autumn := rule(2000, 2010, day(10, 1, 0, wall), 0, "S")
	below := rule(2000, 2010, day(1, 1, 0, wall), -hour, "B")
	early := rule(1999, 1999, day(12, 31, 0, wall), 0, "E")
	like := rule(2000, 2000, day(9, 30, wholeDay, utc), 0, "L")
	never := rule(2000, 1999, day(1, 1, 0, wall), 0, "N")
	ahead := rule(2001, 2001, day(1, 1, 0, wall), 0, "A")
	nothing := rule(1998, 1998, day(1, 1, 0, wall), 0, "")
	for _, x := range []struct {
		l      []api.Rule
		letter string
	}{
		{nil, ""}, {[]api.Rule{}, ""}, {[]api.Rule{spring}, ""}, {[]api.Rule{spring, below}, ""}, {[]api.Rule{autumn}, "S"}, {[]api.Rule{spring, autumn}, "S"}, {[]api.Rule{below, spring, autumn}, "S"},
		{[]api.Rule{autumn, early}, "E"}, {[]api.Rule{early, autumn}, "E"}, {[]api.Rule{autumn, ahead}, "S"}, {[]api.Rule{ahead, autumn}, "S"},
		{[]api.Rule{autumn, like}, "S"}, {[]api.Rule{like, autumn}, "L"}, {[]api.Rule{spring, like, autumn, like}, "L"}, {[]api.Rule{spring, autumn, like, ahead}, "S"},
		{[]api.Rule{never}, ""}, {[]api.Rule{never, autumn}, "S"}, {[]api.Rule{autumn, never}, "S"}, {[]api.Rule{autumn, early, nothing}, ""},
	} {
		for _, n := range []int64{math.MinInt64, math.MinInt64 + 1, -1 << 53, 0, at(1997, 12, 31, 0, 0, 0)} {
			for _, offset := range offsets {
				if save, letter := rules.Force(x.l, offset, n); save != 0 || letter != x.letter {
					t.Errorf("%v at %d: %d, %q; must be %q", x.l, n, save, letter, x.letter)
				}
			}
		}
		tries(t, x.l)
	}
}

// P11.3: offsets that may not be.
func TestForceOffsets(t *testing.T) {
	when := at(2021, 7, 1, 0, 0, 0)
	for _, offset := range []int{-86399, -1, 0, 86399} {
		if save, letter := rules.Force(us(), offset, when); save != hour || letter != "D" {
			t.Errorf("%d: %d, %q", offset, save, letter)
		}
	}
	for _, offset := range []int{math.MinInt, -1 << 32, -86401, -86400, 86400, 86401, 1 << 32, math.MaxInt} {
		for _, n := range append(slices.Clone(ends), when) {
			if save, letter := rules.Force(us(), offset, n); save != 0 || letter != "" {
				t.Errorf("%d at %d: %d, %q", offset, n, save, letter)
			}
		}
	}
}

// P11.4: between one universal time and the next one nothing changes.
func TestForceChangesAtUniversalTimes(t *testing.T) {
	d := sample.Rolled(1 << 15)
	for range 60 {
		l := d.Set(9)
		w := worldOf(l)
		for _, offset := range offsets {
			stops := []int64{math.MinInt64}
			for _, x := range w.turns {
				stops = append(stops, w.universal(x, offset))
			}
			slices.Sort(stops)
			stops = slices.Compact(stops)
			for i := 1; i < len(stops); i++ {
				first := stops[i-1]
				want := force(l, offset, first)
				for _, n := range []int64{first + 1, first/2 + stops[i]/2, stops[i] - wholeDay, stops[i] - 2, stops[i] - 1} {
					if got := force(l, offset, n); n >= first && n < stops[i] && w.told(n) && got != want {
						t.Fatalf("Force(%v, %d): %v at %d, %v at %d", l, offset, want, first, got, n)
					}
				}
			}
		}
	}
}

// P11.5: where no two turns are near, each is in force from its universal time till the next one's.
func TestForceOfTurnsThatAreNotNear(t *testing.T) {
	d := sample.Rolled(1 << 16)
	tried := 0
	for range 250 {
		l := d.Set(4)
		if rules.Crowded(l) || rules.Near(l) {
			continue
		}
		w := worldOf(l)
		for _, offset := range offsets {
			for i, x := range w.turns {
				u := w.universal(x, offset)
				times := []int64{u, u + 1}
				if i+1 < len(w.turns) {
					next := w.universal(w.turns[i+1], offset)
					times = append(times, next-1, (u+next)/2)
				}
				for _, n := range times {
					if got := force(l, offset, n); w.told(n) && got != (forced{x.Save, x.Letter}) {
						t.Fatalf("Force(%v, %d, %d): %v; must be %v", l, offset, n, got, x)
					}
					tried++
				}
			}
		}
	}
	if tried < 1000 {
		t.Error(tried)
	}
}

// What is handed in is neither changed nor kept, and what is answered is new, the spare room of both included.
func TestMemory(t *testing.T) {
	spare := append(three(), us()...)
	l := spare[:3]
	turns := rules.Turns(l, 2001)
	rules.Right(l)
	rules.Crowded(l)
	rules.Near(l)
	rules.Ahead(l, at(2001, 1, 1, 0, 0, 0))
	rules.Force(l, 0, at(2001, 1, 1, 0, 0, 0))
	if !slices.Equal(spare, append(three(), us()...)) {
		t.Error(spare)
	}
	want := slices.Clone(turns)
	again := rules.Turns(l, 2001)
	clear(turns[:cap(turns)])
	clear(spare)
	if !slices.Equal(again, want) || len(want) != 3 {
		t.Error(again, want)
	}
	if got := rules.Turns(three(), 2001); !slices.Equal(got, want) {
		t.Error(got, want)
	}
}
