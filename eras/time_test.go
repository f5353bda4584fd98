package eras_test

import (
	"fmt"
	"math"
	"slices"
	"testing"

	"analemma/api"
	"analemma/eras"
	"analemma/sample"
)

// P12.2, written out: the end by each of the three clocks and each of the three kinds of saving.
func TestEndByEachClock(t *testing.T) {
	local := at(1995, 10, 1, 2, 0, 0)
	for _, offset := range []int{-86399, -18000, -1, 0, 1, hour, 45296, 86399} {
		for _, save := range []int{-43200, -hour, -1, 0, 1, 1800, hour, 43200} {
			l := []api.Rule{{Name: "R", From: 1990, To: 1999, Spot: day(4, 1, 0, utc), Save: save, Letter: "S"}, {Name: "Q", From: 1990, To: 1999, Spot: day(9, 1, 0, utc), Save: 7200}}
			for kind, ahead := range []int{0, save, save} {
				for ref, less := range []int{offset + ahead, offset, 0} {
					s := one(l, until(saved(offset, kind, save, "X"), 1995, day(10, 1, 2*hour, ref)))
					want := local - int64(less)
					if got, ok := eras.End(s, 0, 0); got != want || !ok {
						t.Fatalf("offset %d, save %d, kind %d, clock %d: %d, %v; must be %d", offset, save, kind, ref, got, ok, want)
					}
					for n, abbr := range map[int64]string{want - 1: "X", want: "End", want + 1: "End"} {
						if got, ok := eras.At(s, 0, n); got.Abbr != abbr || !ok {
							t.Fatalf("offset %d, save %d, kind %d, clock %d: %v at %d", offset, save, kind, ref, got, n)
						}
					}
					if ref == wall && save == 1800 {
						tries(t, s)
					}
				}
			}
		}
	}
}

// P12.2, written out: the end by wall's clock just at a turn of its set, a second ahead of it and behind it: a turn counts by its own time, by whatever clock that is told.
func TestEndAboutATurn(t *testing.T) {
	for _, offset := range []int{-18000, 0, hour} {
		for ref := range 3 {
			for _, save := range []int{-43200, -hour, 0, 1800, 43200} {
				for _, first := range []int{-7200, 0, 5400} {
					turned := at(2000, 10, 1, 2, 0, 0)
					both := []api.Rule{{Name: "R", From: 1999, To: 1999, Spot: day(4, 1, 0, wall), Save: first}, {Name: "R", From: 2000, To: 2000, Spot: day(10, 1, 2*hour, ref), Save: save}}
					for near, ahead := range map[int]int{-5 * hour: first, -1: first, 0: first, 1: save, 5 * hour: save} {
						x := until(saved(offset, api.SaveRules, 0, "E%sT"), 2000, day(10, 1, 2*hour+near, wall))
						want := turned + int64(near-offset-ahead)
						if got, ok := eras.End(one(both, x), 0, 0); got != want || !ok {
							t.Fatalf("offset %d, clock %d, saves %d, %d, %d seconds behind: %d, %v; must be %d", offset, ref, first, save, near, got, ok, want)
						}
						slices.Reverse(both)
						if got, ok := eras.End(one(both, x), 0, 0); got != want || !ok {
							t.Fatalf("turned about: %d, %v; must be %d", got, ok, want)
						}
						slices.Reverse(both)
						// Where there is no first turn, nothing is saved up to the second one.
						if near <= 0 {
							want = turned + int64(near-offset)
						}
						if got, ok := eras.End(one(both[1:], x), 0, 0); got != want || !ok {
							t.Fatalf("offset %d, clock %d, save %d, %d seconds behind the only turn: %d, %v; must be %d", offset, ref, save, near, got, ok, want)
						}
						// By other clocks no turn counts.
						for by, less := range map[int]int{standard: offset, utc: 0} {
							x.Spot.Ref = by
							if got, ok := eras.End(one(both, x), 0, 0); got != turned+int64(near-less) || !ok {
								t.Fatalf("offset %d, by clock %d: %d, %v", offset, by, got, ok)
							}
						}
					}
				}
			}
		}
	}
}

// P12.2, written out: sets that have no turn ahead of the era's end, so that wall's clock is standard's.
func TestEndWithoutATurnAhead(t *testing.T) {
	rule := func(from, to int) api.Rule {
		return api.Rule{Name: "R", From: from, To: to, Spot: day(6, 1, 0, wall), Save: hour, Letter: "S"}
	}
	other := rule(1990, 2010)
	other.Name = "Q"
	x := until(saved(-18000, api.SaveRules, 0, "E%sT"), 2000, day(6, 1, 0, wall))
	for _, l := range [][]api.Rule{nil, {other}, {rule(2000, 2000)}, {rule(2000, api.Ever)}, {rule(2001, 2005), other}, {rule(2000, 1999)}, {rule(9999, 1)}, {rule(9999, api.Ever)}} {
		if got, ok := eras.End(one(l, x), 0, 0); got != at(2000, 6, 1, 5, 0, 0) || !ok {
			t.Errorf("%v: %d, %v", l, got, ok)
		}
		tries(t, one(l, x))
	}
	if got, ok := eras.End(one([]api.Rule{rule(1999, 1999)}, x), 0, 0); got != at(2000, 6, 1, 4, 0, 0) || !ok {
		t.Errorf("with a turn: %d, %v", got, ok)
	}
}

// P12.2, written out: ends of eras that stand in one zone, each by its own offset and set.
func TestEndWrittenOut(t *testing.T) {
	s := parsed(ruled)
	for _, x := range []struct {
		zone, era int
		want      int64
	}{
		{1, 0, at(1995, 7, 1, 7, 0, 0)}, {2, 0, at(1979, 12, 31, 23, 50, 0)}, {2, 1, at(1990, 5, 1, 11, 0, 0)}, {2, 2, at(2000, 1, 1, 0, 0, 0)},
	} {
		if got, ok := eras.End(s, x.zone, x.era); got != x.want || !ok {
			t.Errorf("zone %d, era %d: %d, %v; must be %d", x.zone, x.era, got, ok, x.want)
		}
	}
	// The last eras have none.
	for zone, era := range []int{0, 1, 3} {
		if got, ok := eras.End(s, zone, era); got != 0 || ok {
			t.Errorf("zone %d, era %d: %d, %v", zone, era, got, ok)
		}
	}
	tries(t, s)
	// An end may be at 0, too.
	zero := one(nil, until(saved(hour, api.SaveFixed, hour, "X"), 1970, day(1, 1, 7200, wall)))
	if got, ok := eras.End(zero, 0, 0); got != 0 || !ok {
		t.Errorf("at 0: %d, %v", got, ok)
	}
}

// P12.2: ends of the first and the last year that may be told, with times in the years beside them, at the least and the greatest offsets.
func TestEndOfFirstAndLastYears(t *testing.T) {
	for _, offset := range []int{-86399, 0, 86399} {
		for _, save := range []int{-43200, 43200} {
			for ref, less := range []int{offset + save, offset, 0} {
				early := until(saved(offset, api.SaveFixed, save, "X"), 1, day(1, 1, -604799, ref))
				late := until(saved(offset, api.SaveFixed, save, "X"), 9999, day(12, 31, 604799, ref))
				if got, ok := eras.End(one(nil, early), 0, 0); got != -62135596800-604799-int64(less) || !ok {
					t.Errorf("%d, %d, clock %d: %d, %v", offset, save, ref, got, ok)
				}
				if got, ok := eras.End(one(nil, late), 0, 0); got != 253402214400+604799-int64(less) || !ok {
					t.Errorf("%d, %d, clock %d: %d, %v", offset, save, ref, got, ok)
				}
				tries(t, one(nil, early))
				tries(t, one(nil, late))
			}
		}
	}
}

// P12.2, written out: the phase of an era without a saving, and with a fixed one, which is told alike at all times.
func TestPhaseWithoutRules(t *testing.T) {
	for _, x := range []struct {
		era  api.Era
		want api.Phase
	}{
		{saved(hour, api.SaveNone, 0, "CET"), api.Phase{Offset: 3600, Abbr: "CET"}}, {saved(-86399, api.SaveNone, 0, "%z"), api.Phase{Offset: -86399, Abbr: "-235959"}},
		{saved(0, api.SaveNone, 0, "A/B"), api.Phase{Abbr: "A"}}, {saved(0, api.SaveNone, 0, "E%sT"), api.Phase{Abbr: "ET"}},
		{saved(hour, api.SaveFixed, hour, "CEST"), api.Phase{Offset: 7200, Save: 3600, Abbr: "CEST"}}, {saved(hour, api.SaveFixed, hour, "%z"), api.Phase{Offset: 7200, Save: 3600, Abbr: "+02"}},
		{saved(hour, api.SaveFixed, -hour, "A/B"), api.Phase{Save: -3600, Abbr: "B"}}, {saved(hour, api.SaveFixed, 0, "A/B"), api.Phase{Offset: 3600, Abbr: "A"}}, {saved(-hour, api.SaveFixed, -1800, "E%sT"), api.Phase{Offset: -5400, Save: -1800, Abbr: "ET"}},
		{saved(86399, api.SaveFixed, 43200, "%z"), api.Phase{Offset: 129599, Save: 43200, Abbr: "+355959"}}, {saved(-86399, api.SaveFixed, -43200, "%z"), api.Phase{Offset: -129599, Save: -43200, Abbr: "-355959"}},
	} {
		// A set that the era doesn't name counts for nothing, at its turns neither.
		rule := api.Rule{Name: "R", From: 1, To: api.Ever, Spot: day(6, 1, 0, wall), Save: 7200, Letter: "S"}
		for place, s := range []api.Source{one([]api.Rule{rule}, until(x.era, 2000, day(1, 1, 0, wall))), {Rules: []api.Rule{rule}, Zones: []api.Zone{{Name: "Z", Eras: []api.Era{until(saved(0, 0, 0, "Start"), 2000, day(1, 1, 0, wall)), x.era}}}}} {
			when := slices.Clone(ends)
			for _, n := range turns(s.Rules, x.era.Offset) {
				when = append(when, n-1, n, n+1)
			}
			for _, n := range when {
				if got, ok := eras.Phase(s, 0, place, n); got != x.want || !ok {
					t.Errorf("%v at %d: %v, %v; must be %v", x.era, n, got, ok, x.want)
				}
			}
			tries(t, s)
		}
	}
}

// P12.2, written out: the phase of an era with a set, ahead of all turns, just at each one, a second ahead of it and behind it, by each clock.
func TestPhaseByRules(t *testing.T) {
	for ref := range 3 {
		l := []api.Rule{
			{Name: "R", From: 2000, To: 2000, Spot: day(10, 1, 3*hour, ref), Save: 0, Letter: "S"},
			{Name: "R", From: 2000, To: 2000, Spot: day(4, 1, 2*hour, ref), Save: hour, Letter: "D"},
			{Name: "Q", From: 1990, To: api.Ever, Spot: day(7, 1, 0, ref), Save: 7200, Letter: "Q"},
			{Name: "R", From: 2001, To: 2001, Spot: day(4, 1, 2*hour, ref), Save: -1800, Letter: ""},
		}
		for _, offset := range []int{-18000, 0, 19800} {
			first, second, third := at(2000, 4, 1, 2, 0, 0), at(2000, 10, 1, 3, 0, 0), at(2001, 4, 1, 2, 0, 0)
			if ref != utc {
				first, second, third = first-int64(offset), second-int64(offset), third-int64(offset)
			}
			if ref == wall {
				second -= hour
			}
			for _, x := range []struct {
				t      int64
				save   int
				letter string
			}{
				{math.MinInt64, 0, "S"}, {0, 0, "S"}, {first - 1, 0, "S"}, {first, hour, "D"}, {first + 1, hour, "D"}, {second - 1, hour, "D"}, {second, 0, "S"}, {second + 1, 0, "S"},
				{third - 1, 0, "S"}, {third, -1800, ""}, {third + 1, -1800, ""}, {1 << 40, -1800, ""}, {math.MaxInt64, -1800, ""},
			} {
				for format, abbr := range map[string]string{
					"E%sT": "E" + x.letter + "T", "%z": offsetOf(offset + x.save), "A/B": map[bool]string{true: "A", false: "B"}[x.save == 0], "X": "X",
				} {
					s := one(l, until(saved(offset, api.SaveRules, 0, format), 2000, day(7, 1, 0, utc)))
					s.Zones[0].Eras[1] = saved(offset, api.SaveRules, 0, format)
					want := api.Phase{Offset: offset + x.save, Save: x.save, Abbr: abbr}
					// An era's phase hangs on the time, not on whether the era holds then.
					for place := range 2 {
						if got, ok := eras.Phase(s, 0, place, x.t); got != want || !ok {
							t.Fatalf("clock %d, offset %d, %q at %d: %v, %v; must be %v", ref, offset, format, x.t, got, ok, want)
						}
					}
					if got, ok := eras.At(s, 0, x.t); got != want || !ok {
						t.Fatalf("At, clock %d, offset %d, %q, %d: %v, %v; must be %v", ref, offset, format, x.t, got, ok, want)
					}
				}
			}
		}
	}
}

// P12.2, written out: sets without a rule, and rules that are never in force.
func TestPhaseOfNoTurns(t *testing.T) {
	never := api.Rule{Name: "R", From: 2000, To: 1999, Spot: day(6, 1, 0, wall), Save: 0, Letter: "N"}
	other := api.Rule{Name: "Q", From: 1990, To: api.Ever, Spot: day(6, 1, 0, wall), Save: hour, Letter: "Q"}
	for _, l := range [][]api.Rule{nil, {other}, {never}, {never, other}} {
		for format, abbr := range map[string]string{"E%sT": "ET", "%s": "", "%z": "+01", "A/B": "A"} {
			s := one(l, until(saved(hour, api.SaveRules, 0, format), 2000, day(7, 1, 0, wall)))
			for _, n := range ends {
				if got, ok := eras.Phase(s, 0, 0, n); got != (api.Phase{Offset: hour, Abbr: abbr}) || !ok {
					t.Errorf("%v, %q at %d: %v, %v", l, format, n, got, ok)
				}
			}
			tries(t, s)
		}
	}
}

// ended is a zone of eras that end on these days of January 2000, by universal time, and one more; each is called by its place.
func ended(days []int) api.Source {
	z := api.Zone{Name: "Z"}
	for i, n := range days {
		x := saved(hour*(i%5-2), api.SaveFixed, hour*(i%3-1), fmt.Sprint("E", i))
		z.Eras = append(z.Eras, until(x, 2000, day(1, n, 0, utc)))
	}
	z.Eras = append(z.Eras, saved(0, api.SaveNone, 0, fmt.Sprint("E", len(days))))
	return api.Source{Zones: []api.Zone{z}}
}

// P12.3: zones of one era, of two and of more, whose ends lie in each order, and may be alike.
func TestAtOfAllOrders(t *testing.T) {
	sample.Every("\x05\x0a\x0f\x14", 5, func(text string) {
		var days []int
		for _, n := range []byte(text) {
			days = append(days, int(n))
		}
		s := ended(days)
		for _, n := range []int{1, 5, 10, 15, 20, 25} {
			for near := -1; near <= 1; near++ {
				// At a day's midnight, and behind it, the eras that end on it are over.
				place := slices.IndexFunc(append(slices.Clone(days), 100), func(end int) bool { return end > n || end == n && near < 0 })
				when := at(2000, 1, n, 0, 0, near)
				if got, ok := eras.At(s, 0, when); got.Abbr != fmt.Sprint("E", place) || !ok {
					t.Fatalf("ends on %v, on the %d. and %d seconds: %v, %v; must be E%d", days, n, near, got, ok, place)
				}
			}
		}
		last := slices.IndexFunc(append(slices.Clone(days), 100), func(end int) bool { return end > 20 })
		for n, place := range map[int64]int{math.MinInt64: 0, math.MinInt64 + 1: 0, 0: 0, math.MaxInt64 - 1: last, math.MaxInt64: last} {
			want, _ := eras.Phase(s, 0, place, n)
			if got, ok := eras.At(s, 0, n); got != want || got.Abbr != fmt.Sprint("E", place) || !ok {
				t.Fatalf("ends on %v, at %d: %v, %v; must be %v", days, n, got, ok, want)
			}
		}
	})
}

// P12.3, written out: which era holds about each end.
func TestAtWrittenOut(t *testing.T) {
	for _, x := range []struct {
		days []int
		of   map[int]int // the era that holds from a day's midnight on, up to the next day that is told
	}{
		{nil, map[int]int{1: 0, 10: 0, 20: 0}}, {[]int{10}, map[int]int{1: 0, 9: 0, 10: 1, 11: 1, 20: 1}}, {[]int{5, 10, 15}, map[int]int{1: 0, 5: 1, 9: 1, 10: 2, 14: 2, 15: 3, 20: 3}},
		{[]int{10, 10}, map[int]int{1: 0, 9: 0, 10: 2, 20: 2}}, {[]int{10, 5}, map[int]int{1: 0, 5: 0, 9: 0, 10: 2, 20: 2}},
		{[]int{5, 15, 10, 20}, map[int]int{1: 0, 4: 0, 5: 1, 10: 1, 14: 1, 15: 3, 19: 3, 20: 4}}, {[]int{20, 5, 10, 15}, map[int]int{1: 0, 5: 0, 10: 0, 19: 0, 20: 4}}, {[]int{15, 10, 5, 20}, map[int]int{1: 0, 14: 0, 15: 3, 19: 3, 20: 4}},
	} {
		s := ended(x.days)
		for n, place := range x.of {
			for _, near := range []int{0, 1, wholeDay - 1} {
				if got, ok := eras.At(s, 0, at(2000, 1, n, 0, 0, near)); got.Abbr != fmt.Sprint("E", place) || !ok {
					t.Errorf("ends on %v, on the %d. and %d seconds: %v, %v; must be E%d", x.days, n, near, got, ok, place)
				}
			}
		}
		tries(t, s)
	}
	// Ends that rise by the clocks there, but not by universal time.
	s := parsed("Zone Z -12:00 - A 2000 Jan 1 0:00\n12:00 - B 2000 Jan 1 6:00\n0 - C 2000 Jan 1 18:00\n1:00 - D")
	for n, abbr := range map[int64]string{at(1999, 12, 31, 17, 59, 59): "A", at(1999, 12, 31, 18, 0, 0): "A", at(2000, 1, 1, 11, 59, 59): "A", at(2000, 1, 1, 12, 0, 0): "C", at(2000, 1, 1, 17, 59, 59): "C", at(2000, 1, 1, 18, 0, 0): "D"} {
		if got, ok := eras.At(s, 0, n); got.Abbr != abbr || !ok {
			t.Errorf("%d: %v, %v; must be %s", n, got, ok, abbr)
		}
	}
	tries(t, s)
}

// P12.3, written out: the zones of one source, era by era.
func TestAtOfEachZone(t *testing.T) {
	s := parsed(ruled)
	for _, x := range []struct {
		zone int
		t    int64
		want api.Phase
	}{
		{0, math.MinInt64, api.Phase{Offset: 3600, Abbr: "CT"}}, {0, at(1981, 7, 1, 0, 0, 0), api.Phase{Offset: 7200, Save: 3600, Abbr: "CST"}}, {0, math.MaxInt64, api.Phase{Offset: 7200, Save: 3600, Abbr: "CST"}},
		{1, math.MinInt64, api.Phase{Offset: -18000, Abbr: "AST"}}, {1, at(1990, 4, 1, 6, 59, 59), api.Phase{Offset: -18000, Abbr: "AST"}}, {1, at(1990, 4, 1, 7, 0, 0), api.Phase{Offset: -14400, Save: 3600, Abbr: "ADT"}},
		{1, at(1995, 7, 1, 6, 59, 59), api.Phase{Offset: -14400, Save: 3600, Abbr: "ADT"}}, {1, at(1995, 7, 1, 7, 0, 0), api.Phase{Abbr: "Z"}}, {1, math.MaxInt64, api.Phase{Abbr: "Z"}},
		{2, math.MinInt64, api.Phase{Offset: 600, Abbr: "LMT"}}, {2, at(1979, 12, 31, 23, 49, 59), api.Phase{Offset: 600, Abbr: "LMT"}}, {2, at(1979, 12, 31, 23, 50, 0), api.Phase{Offset: 4800, Save: 1200, Abbr: "+2"}},
		{2, at(1990, 5, 1, 10, 59, 59), api.Phase{Offset: 4800, Save: 1200, Abbr: "+2"}}, {2, at(1990, 5, 1, 11, 0, 0), api.Phase{Offset: 7200, Abbr: "+02"}}, {2, at(1995, 5, 31, 21, 59, 59), api.Phase{Offset: 7200, Abbr: "+02"}},
		{2, at(1995, 5, 31, 22, 0, 0), api.Phase{Offset: 5400, Save: -1800, Abbr: "+0130"}}, {2, at(1999, 12, 31, 23, 59, 59), api.Phase{Offset: 5400, Save: -1800, Abbr: "+0130"}}, {2, at(2000, 1, 1, 0, 0, 0), api.Phase{Offset: 10800, Abbr: "N"}}, {2, math.MaxInt64, api.Phase{Offset: 10800, Abbr: "N"}},
	} {
		if got, ok := eras.At(s, x.zone, x.t); got != x.want || !ok {
			t.Errorf("zone %d at %d: %v, %v; must be %v", x.zone, x.t, got, ok, x.want)
		}
	}
}
