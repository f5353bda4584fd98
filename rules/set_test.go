package rules_test

import (
	"math"
	"slices"
	"testing"

	"analemma/api"
	"analemma/moment"
	"analemma/rules"
	"analemma/sample"
)

// numbers are numbers at which some field turns, and of all sizes.
var numbers = []int{
	math.MinInt, math.MinInt + 1, -1 << 32, -ever, -604800, -604799, -604798, -86400, -43201, -43200, -43199, -3600, -9999, -2000, -1, 0, 1, 2, 3, 4, 6, 7, 8, 11, 12, 13, 30, 31, 32,
	256, 257, 1999, 2000, 2001, 9998, 9999, 10000, 43199, 43200, 43201, 86400, 300000, 604798, 604799, 604800, 999999, 1000000, 1000001, 1<<32 + 1, 1<<32 + 2000, math.MaxInt - 1, math.MaxInt,
}

// three is a set of three rules, each with a kind of day, a clock and a saving of its own.
func three() []api.Rule {
	return []api.Rule{
		rule(1999, 2003, weekday(3, 7, 8, 2*hour, wall), hour, "D"),
		rule(1998, 2001, day(9, 30, -hour, standard), -hour, "S"),
		rule(2000, 2002, weekdayAhead(12, 1, 20, wholeDay, utc), 0, ""),
	}
}

// P11.1 to P11.3: sets that differ from a right one in one field of one rule alone; all calls of those that aren't right.
func TestEachField(t *testing.T) {
	last := weekday(10, 7, 0, 2*hour, utc)
	for _, l := range [][]api.Rule{three(), three()[:1], us(), {rule(2000, 2000, last, 0, "S")}, {rule(1, 2, last, 0, "S"), three()[2], rule(9999, ever, last, 0, "S")}} {
		tries(t, l)
		for i := range l {
			with := func(change func(r *api.Rule)) {
				t.Helper()
				x := slices.Clone(l)
				change(&x[i])
				tries(t, x)
			}
			for _, n := range numbers {
				with(func(r *api.Rule) { r.From = n })
				with(func(r *api.Rule) { r.To = n })
				with(func(r *api.Rule) { r.From, r.To = n, n })
				with(func(r *api.Rule) { r.Save = n })
				for k := range 6 {
					with(func(r *api.Rule) { *sample.SpotFields(&r.Spot)[k] = n })
				}
			}
			for _, text := range []string{"", "-", "S", "a letter of more than 8 bytes", "\x00\xff"} {
				with(func(r *api.Rule) { r.Name = text })
				with(func(r *api.Rule) { r.Letter = text })
			}
			with(func(r *api.Rule) { r.Spot = api.Spot{} })
			with(func(r *api.Rule) { *r = api.Rule{} })
		}
	}
}

// P11.1, written out: which sets may be.
func TestRightWrittenOut(t *testing.T) {
	for _, x := range []struct {
		what   string
		change func(r *api.Rule)
		ok     bool
	}{
		{"as it is", func(r *api.Rule) {}, true},
		{"From 1", func(r *api.Rule) { r.From = 1 }, true},
		{"From 0", func(r *api.Rule) { r.From = 0 }, false},
		{"From -1", func(r *api.Rule) { r.From = -1 }, false},
		{"From MaxYear", func(r *api.Rule) { r.From = 9999 }, true},
		{"From beyond MaxYear", func(r *api.Rule) { r.From = 10000 }, false},
		{"From Ever", func(r *api.Rule) { r.From = ever }, false},
		{"From and To Ever", func(r *api.Rule) { r.From, r.To = ever, ever }, false},
		{"To 1", func(r *api.Rule) { r.To = 1 }, true},
		{"To 0", func(r *api.Rule) { r.To = 0 }, false},
		{"To MaxYear", func(r *api.Rule) { r.To = 9999 }, true},
		{"To beyond MaxYear", func(r *api.Rule) { r.To = 10000 }, false},
		{"To ahead of Ever", func(r *api.Rule) { r.To = ever - 1 }, false},
		{"To Ever", func(r *api.Rule) { r.To = ever }, true},
		{"To beyond Ever", func(r *api.Rule) { r.To = ever + 1 }, false},
		{"To ahead of From", func(r *api.Rule) { r.From, r.To = 2000, 1999 }, true},
		{"To long ahead of From", func(r *api.Rule) { r.From, r.To = 9999, 1 }, true},
		{"Save 43200", func(r *api.Rule) { r.Save = 43200 }, true},
		{"Save 43201", func(r *api.Rule) { r.Save = 43201 }, false},
		{"Save -43200", func(r *api.Rule) { r.Save = -43200 }, true},
		{"Save -43201", func(r *api.Rule) { r.Save = -43201 }, false},
		{"Month 0", func(r *api.Rule) { r.Spot.Month = 0 }, false},
		{"Month 13", func(r *api.Rule) { r.Spot.Month = 13 }, false},
		{"Day 31 of February", func(r *api.Rule) { r.Spot.Month, r.Spot.Day = 2, 31 }, true},
		{"Day 32", func(r *api.Rule) { r.Spot.Day = 32 }, false},
		{"Weekday of a day", func(r *api.Rule) { r.Spot.Weekday = 1 }, false},
		{"Time 604799", func(r *api.Rule) { r.Spot.Time = 604799 }, true},
		{"Time 604800", func(r *api.Rule) { r.Spot.Time = 604800 }, false},
		{"Ref 3", func(r *api.Rule) { r.Spot.Ref = 3 }, false},
		{"no spot", func(r *api.Rule) { r.Spot = api.Spot{} }, false},
		{"no name and no letter", func(r *api.Rule) { r.Name, r.Letter = "", "" }, true},
		{"a name that no set has", func(r *api.Rule) { r.Name = "1 /" }, true},
		{"a long letter", func(r *api.Rule) { r.Letter = "123456789/-%" }, true},
		{"another name", func(r *api.Rule) { r.Name = "Q" }, true},
	} {
		for i := range 3 {
			l := slices.Repeat([]api.Rule{rule(2000, 2000, day(5, 5, 0, wall), 0, "S")}, 3)
			x.change(&l[i])
			if rules.Right(l) != x.ok || rules.Right(l[i:i+1]) != x.ok || right(l) != x.ok {
				t.Errorf("%s, rule %d: %v", x.what, i, !x.ok)
			}
			tries(t, l)
		}
	}
	for _, l := range [][]api.Rule{nil, {}} {
		if !rules.Right(l) || rules.Crowded(l) || rules.Near(l) {
			t.Errorf("no rules: %v, %v, %v", rules.Right(l), rules.Crowded(l), rules.Near(l))
		}
	}
}

// spread are so many rules of some years, far from one another in the year.
func spread(n, from, to int) []api.Rule {
	var l []api.Rule
	for i := range n {
		l = append(l, rule(from, to, day(1+i%12, 10+i/12, 0, i%3), 0, ""))
	}
	return l
}

// P11.1, written out: ten rules in force in one year, and eleven.
func TestCrowdedWrittenOut(t *testing.T) {
	for _, x := range []struct {
		what    string
		l       []api.Rule
		crowded bool
	}{
		{"none", nil, false},
		{"one", spread(1, 2000, 2000), false},
		{"ten of a year", spread(10, 2000, 2000), false},
		{"eleven of a year", spread(11, 2000, 2000), true},
		{"ten for ever", spread(10, 1, ever), false},
		{"eleven for ever", spread(11, 1, ever), true},
		{"eleven for ever from MaxYear on", spread(11, 9999, ever), true},
		{"ten and one that begins behind them", slices.Concat(spread(10, 1990, 1999), spread(1, 2000, ever)), false},
		{"ten and one that begins where they end", slices.Concat(spread(10, 1990, 2000), spread(1, 2000, ever)), true},
		{"one ahead of ten, that ends ahead of them", slices.Concat(spread(1, 1, 1989), spread(10, 1990, 2000)), false},
		{"one ahead of ten, that ends where they begin", slices.Concat(spread(1, 1, 1990), spread(10, 1990, 2000)), true},
		{"ten in each of two stretches", slices.Concat(spread(10, 1990, 1999), spread(10, 2000, 2009)), false},
		{"two stretches that overlap in a year", slices.Concat(spread(10, 1990, 2000), spread(10, 2000, 2009)), true},
		{"six that end where five begin", slices.Concat(spread(6, 1980, 1995), spread(5, 1995, ever)), true},
		{"six that end just ahead of five", slices.Concat(spread(6, 1980, 1994), spread(5, 1995, ever)), false},
		{"ten and one that is never in force", slices.Concat(spread(10, 1990, 2000), spread(1, 1995, 1994)), false},
		{"many that are never in force", slices.Concat(spread(10, 1990, 2000), spread(300, 9999, 1)), false},
		{"the last year", slices.Concat(spread(10, 9999, 9999), spread(1, 1, 9999)), true},
		{"behind the last year", slices.Concat(spread(10, 1, ever), spread(1, 9999, 9999)), true},
		{"the first year", slices.Concat(spread(10, 1, 1), spread(1, 1, ever)), true},
		{"one rule eleven times", slices.Repeat(us()[:1], 11), true},
		{"one rule ten times", slices.Repeat(us()[:1], 10), false},
		{"ten of a year, and a rule that isn't right", append(spread(11, 2000, 2000), api.Rule{}), false},
	} {
		for range 2 {
			if got := rules.Crowded(x.l); got != x.crowded {
				t.Errorf("%s: %v", x.what, got)
			}
			tries(t, x.l)
			slices.Reverse(x.l)
		}
	}
}

// P11.1: rules that begin one behind another and overlap in part, so many at a time.
func TestCrowdedStairs(t *testing.T) {
	for width := 8; width <= 12; width++ {
		var l []api.Rule
		for i := range 40 {
			l = append(l, rule(1900+i, 1900+i+width-1, day(1+i%12, 15, 0, wall), 0, ""))
		}
		if got := rules.Crowded(l); got != (width > 10) {
			t.Errorf("%d at a time: %v", width, got)
		}
		l[20].To++
		if got := rules.Crowded(l); got != (width >= 10) {
			t.Errorf("%d at a time, and one year more of one: %v", width, got)
		}
	}
}

// P11.1: sets by a fixed rule, of which some are crowded.
func TestCrowdedByARule(t *testing.T) {
	d := sample.Rolled(1 << 16)
	seen := map[bool]int{}
	for range 300 {
		l := d.Set(30)
		got := rules.Crowded(l)
		if got != crowded(l) {
			t.Fatalf("Crowded(%v): %v", l, got)
		}
		seen[got]++
	}
	if seen[true] < 50 || seen[false] < 50 {
		t.Error(seen)
	}
}

// P11.1, written out: what lies between two turns.
func TestNearWrittenOut(t *testing.T) {
	first := func(from, to int) api.Rule { return rule(from, to, day(6, 1, 0, wall), 0, "") }
	third := func(from, to, time, ref int) api.Rule { return rule(from, to, day(6, 3, time, ref), 0, "") }
	december := func(from, to, time int) api.Rule { return rule(from, to, day(12, 31, time, wall), 0, "") }
	january := func(from, to, time int) api.Rule { return rule(from, to, day(1, 1, time, utc), 0, "") }
	for _, x := range []struct {
		what string
		l    []api.Rule
		near bool
	}{
		{"none", nil, false},
		{"one", []api.Rule{first(1, ever)}, false},
		{"the example", us(), false},
		{"just Apart", []api.Rule{first(2000, 2000), third(2000, 2000, 0, wall)}, false},
		{"a second less", []api.Rule{first(2000, 2000), third(2000, 2000, -1, wall)}, true},
		{"a second more", []api.Rule{first(2000, 2000), third(2000, 2000, 1, wall)}, false},
		{"a second less by other clocks", []api.Rule{first(2000, 2000), third(2000, 2000, -1, utc)}, true},
		{"just Apart by other clocks", []api.Rule{first(2000, 2000), third(2000, 2000, 0, standard)}, false},
		{"a second less for ever", []api.Rule{first(1, ever), third(9999, ever, -1, wall)}, true},
		{"a second less in other years", []api.Rule{first(2000, 2000), third(2001, 2001, -1, wall)}, false},
		{"a second less, never in force", []api.Rule{first(2000, 2000), third(2000, 1999, -1, wall)}, false},
		{"a second less in the last year of one and the first of the other", []api.Rule{first(1990, 2000), third(2000, 2010, -1, wall)}, true},
		{"a second less in years side by side", []api.Rule{first(1990, 1999), third(2000, 2010, -1, wall)}, false},
		{"one time twice", []api.Rule{first(2000, 2000), first(2000, 2000)}, true},
		{"one rule twice, in other years", []api.Rule{first(2000, 2000), first(2001, 2001)}, false},
		{"across a year's end, just Apart", []api.Rule{december(2000, 2000, -wholeDay), january(2001, 2001, 0)}, false},
		{"across a year's end, a second less", []api.Rule{december(2000, 2000, -wholeDay+1), january(2001, 2001, 0)}, true},
		{"across a year's end, a second more", []api.Rule{december(2000, 2000, -wholeDay-1), january(2001, 2001, 0)}, false},
		{"across a year's end, of one year alone", []api.Rule{december(2000, 2000, 0), january(2000, 2000, 0)}, false},
		{"across a year's end, one named alone", []api.Rule{december(2000, 2000, 0), january(1990, ever, 0)}, true},
		{"across a year's end, the other named alone", []api.Rule{december(1990, ever, 0), january(2000, 2000, 0)}, true},
		{"across a year's end, none named", []api.Rule{december(1990, ever, 0), january(1980, ever, 0)}, true},
		{"across the end of the last year that is named", []api.Rule{december(9999, 9999, 0), january(9999, ever, 0)}, true},
		{"across the end of the year ahead of the first one", []api.Rule{december(1, 1, 0), january(1, 1, 0)}, false},
		{"January's time in the year ahead", []api.Rule{december(2000, 2000, 0), january(2000, 2000, -wholeDay)}, false},
		{"January's time in the year ahead, where December is in force", []api.Rule{december(1999, 1999, 0), january(2000, 2000, -wholeDay)}, true},
		{"December's time in the next year", []api.Rule{december(2000, 2000, 3*wholeDay), january(2001, 2001, 0)}, false},
		{"December's time in the next year, near", []api.Rule{december(2000, 2000, 2*wholeDay), january(2001, 2001, 0)}, true},
		{"just Apart in common years, 1900 among them", []api.Rule{rule(1897, 1903, day(2, 28, 0, wall), 0, ""), rule(1897, 1903, day(3, 1, wholeDay, wall), 0, "")}, false},
		{"a second less in a leap year", []api.Rule{rule(2000, 2000, day(2, 28, 0, wall), 0, ""), rule(2000, 2000, day(3, 1, -1, wall), 0, "")}, true},
		{"just Apart in a leap year", []api.Rule{rule(2000, 2000, day(2, 28, 0, wall), 0, ""), rule(2000, 2000, day(3, 1, 0, wall), 0, "")}, false},
		{"just Apart in a leap year, less in the one behind it", []api.Rule{rule(2000, 2001, day(2, 28, 0, wall), 0, ""), rule(2000, 2001, day(3, 1, 0, wall), 0, "")}, true},
		{"eleven rules, two of them near", append(spread(10, 2000, 2000), rule(2000, 2000, day(1, 10, 1, wall), 0, "")), false},
		{"ten rules, two of them near", append(spread(9, 2000, 2000), rule(2000, 2000, day(1, 10, 1, wall), 0, "")), true},
		{"two that are near, and one that isn't right", append(slices.Repeat(us(), 2), api.Rule{}), false},
	} {
		for range 2 {
			if got := rules.Near(x.l); got != x.near {
				t.Errorf("%s: %v", x.what, got)
			}
			tries(t, x.l)
			slices.Reverse(x.l)
		}
	}
}

// P11.1: two spots that are near in leap years alone whose March 1st is a Sunday, as that of 2020 is: two rules are near just where both are in force in such a year.
func TestNearInFewYears(t *testing.T) {
	few := func(from, to int) []api.Rule {
		return []api.Rule{rule(1, ever, weekdayAhead(3, 7, 1, 0, wall), 0, ""), rule(from, to, day(2, 31, 0, wall), 0, "")}
	}
	for _, x := range []struct {
		from, to int
		near     bool
	}{{1992, 1992, true}, {1993, 2019, false}, {1993, 2020, true}, {1991, 1991, false}, {1964, 1964, true}, {1965, 1991, false}, {2021, 2047, false}, {2021, ever, true}, {9999, ever, true}} {
		if got := rules.Near(few(x.from, x.to)); got != x.near {
			t.Errorf("%d to %d: %v", x.from, x.to, got)
		}
	}
	isNear := func(year int) bool { return year%4 == 0 && nearest(all(few(year, year), year)) < apart }
	for from := 1; from <= 820; from++ {
		next := from
		for !isNear(next) {
			next++
		}
		for to, want := range map[int]bool{next - 1: false, next: true, next + 1: true, 9999: true, ever: true} {
			for _, l := range [][]api.Rule{few(from, max(to, 1)), {few(from, max(to, 1))[1], few(1, 1)[0]}} {
				if got := rules.Near(l); got != want {
					t.Fatalf("%d to %d: %v", from, to, got)
				}
			}
		}
	}
}

// P11.1: turns of one rule are never near, whatever its spot is.
func TestNearOfOneRule(t *testing.T) {
	for month := 1; month <= 12; month++ {
		for kind := range 4 {
			for weekday := range 8 {
				for _, day := range []int{0, 1, 2, 8, 15, 28, 29, 30, 31} {
					for _, time := range []int{-604799, 0, 604799} {
						s := api.Spot{Month: month, Kind: kind, Weekday: weekday, Day: day, Time: time}
						if !moment.Right(s) {
							continue
						}
						l := []api.Rule{rule(9999, ever, s, 0, "")}
						if rules.Near(l) || near(l) {
							t.Fatal(s)
						}
					}
				}
			}
		}
	}
}

// betweens are all seconds from a spot's turn to another one's of the same year, the next and the one ahead, where they are few, of all 400 years.
func betweens(a, b api.Spot) []int64 {
	var l []int64
	for year := 1001; year <= 1400; year++ {
		for on := -1; on <= 1; on++ {
			x, _ := moment.Local(a, year)
			y, _ := moment.Local(b, year+on)
			if y-x > -60*wholeDay && y-x < 60*wholeDay {
				l = append(l, y-x)
			}
		}
	}
	return l
}

// P11.1: pairs of spots of which one's time is moved till the nearest turns of all years lie just Apart from one another, a second less and a second more.
func TestNearJustApart(t *testing.T) {
	d := sample.Rolled(1 << 16)
	tried, across := 0, 0
	for range 1500 {
		a, b := d.Spot(), d.Spot()
		l := betweens(a, b)
		if len(l) == 0 {
			continue
		}
		for _, between := range []int64{apart - 1, apart, apart + 1, apart + 7*wholeDay} {
			moved := b
			moved.Time += int(between - slices.Min(l))
			if d.To(2) == 0 {
				moved.Time = b.Time - int(between+slices.Max(l))
			}
			if !moment.Right(moved) {
				continue
			}
			from := 1 + d.To(9999)
			set := []api.Rule{rule(from, ever, a, 0, ""), rule(1, sample.Pick(d, 9999, ever), moved, 0, "")}
			if from > 9599 {
				set[1].To = ever
			}
			if got := rules.Near(set); got != (between < apart) {
				t.Fatalf("Near(%v): %v, where the nearest turns lie %d seconds apart", set, got, between)
			}
			tried++
			if a.Month+b.Month == 13 {
				across++
			}
			nearYears(t, d, a, moved)
		}
	}
	if tried < 400 || across < 50 {
		t.Error(tried, across)
	}
}

// nearYears tries Near with two spots, each in few years of its own.
func nearYears(t *testing.T, d *sample.Dice, a, b api.Spot) {
	t.Helper()
	for range 6 {
		from, until := 1990+d.To(3), 1990+d.To(3)
		l := []api.Rule{rule(from, from+d.To(12), a, 0, ""), rule(until, until+d.To(3), b, 0, "")}
		if got := rules.Near(l); got != near(l) {
			t.Fatalf("Near(%v): %v", l, got)
		}
	}
}

// P11.1: sets by a fixed rule, of many rules: near or not.
func TestNearByARule(t *testing.T) {
	d := sample.Rolled(1 << 16)
	seen := map[bool]int{}
	for range 300 {
		l := d.Set(5)
		got := rules.Near(l)
		if got != near(l) {
			t.Fatalf("Near(%v): %v", l, got)
		}
		seen[got]++
	}
	if seen[true] < 50 || seen[false] < 50 {
		t.Error(seen)
	}
}

// P11.1: turns of all years till there are none any more, of rules that never end.
func TestNearOfAllYears(t *testing.T) {
	for _, l := range [][]api.Rule{
		us(),
		{rule(9999, ever, weekday(2, 7, 0, 0, wall), 0, ""), rule(9990, ever, day(3, 3, 0, wall), 0, "")},
		{rule(9999, ever, day(12, 31, 0, wall), 0, ""), rule(1, ever, day(1, 2, 0, wall), 0, "")},
		{rule(9999, ever, day(12, 31, 0, wall), 0, ""), rule(1, ever, day(1, 2, -1, wall), 0, "")},
		{rule(9999, ever, weekday(2, 7, 0, 0, wall), 0, ""), rule(9999, ever, weekday(3, 2, 1, 0, wall), 0, "")},
		{rule(9999, ever, weekday(2, 7, 0, 0, wall), 0, ""), rule(9999, ever, weekday(3, 2, 1, -1, wall), 0, "")},
	} {
		if got := rules.Near(l); got != (nearest(all(l, 275761)) < apart) {
			t.Errorf("Near(%v): %v", l, got)
		}
	}
}
