package sound_test

import (
	"fmt"
	"slices"
	"strings"
	"testing"

	"analemma/api"
)

// era is an era of each kind of saving: none, a fixed one, and that of the set R.
func era(offset, kind, save int) api.Era {
	x := api.Era{Offset: offset, Kind: kind, Format: "X"}
	switch kind {
	case api.SaveFixed:
		x.Save = save
	case api.SaveRules:
		x.Rules = "R"
	}
	return x
}

// until is an era that ends on a day of January 2000, at so many seconds of it by a clock.
func until(x api.Era, on, time, ref int) api.Era {
	x.Until, x.Year, x.Spot = true, 2000, day(1, on, time, ref)
	return x
}

// rule is a rule of the set R that turns in each of some years ahead of 2000.
func rule(month, save int) api.Rule {
	return api.Rule{Name: "R", From: 1990, To: 1999, Spot: day(month, 1, 0, api.Wall), Save: save}
}

// zoned is a source of a set and of a zone, with another one ahead of it.
func zoned(rules []api.Rule, l ...api.Era) api.Source {
	return api.Source{Rules: rules, Zones: []api.Zone{{Name: "Y", Eras: []api.Era{{Format: "X"}}}, {Name: "Z", Eras: l}}}
}

// P13.1: zones of one name twice and three times, beside one another and not.
func TestZoneNames(t *testing.T) {
	for _, x := range []struct {
		names string
		want  int
	}{
		{"A", -1}, {"A B", -1}, {"A a", -1}, {"A A/B A/B/C", -1}, {"A B C a b c", -1}, {"UTC Z", -1}, {"A A", 1}, {"A B A", 2}, {"A A A", 1}, {"A A B", 1}, {"A B B", 2}, {"A B B A", 2}, {"A B A B", 2}, {"B C D A A", 4}, {"A B C C C A", 3}, {"a/b A/B a/B a/b", 3},
	} {
		text := ""
		for i, name := range strings.Fields(x.names) {
			text += fmt.Sprintf("Zone %s %d - X\n", name, i)
		}
		want := none
		if x.want >= 0 {
			want = ofEra(api.ErrTwice, x.want, 0)
		}
		if got := tries(t, parsed(text)); got != want {
			t.Errorf("%s: %v; must be %v", x.names, got, want)
		}
		// Whether they are alike in all else counts for nothing, nor what links and sets are called.
		s := parsed(text + "Rule A 2000 only - Jan 1 0 0 -\nRule B 2000 only - Jan 1 0 0 -\nLink A E\n")
		for i := range s.Zones {
			s.Zones[i].Eras[0].Offset = 0
		}
		if got := tries(t, s); x.want >= 0 && got != want {
			t.Errorf("%s, alike: %v; must be %v", x.names, got, want)
		}
	}
}

// P13.1: eras whose set no rule has, in each era of a zone of one, two and more.
func TestUnknownSets(t *testing.T) {
	l := []api.Rule{rule(1, 0), {Name: "Q", From: 1, To: 1, Spot: day(1, 1, 0, 0)}}
	for n := 1; n <= 5; n++ {
		for at := range n {
			for _, name := range []string{"R", "Q", "r", "RR", "S", "_", "Y", "Z", "rR", "QR"} {
				var eras []api.Era
				for i := range n {
					x := era(0, i%3, hour)
					if i == at {
						x = era(0, api.SaveRules, 0)
						x.Rules = name
					}
					if i < n-1 {
						x = until(x, i+1, 0, api.Universal)
					}
					eras = append(eras, x)
				}
				want := ofEra(api.ErrUnknown, 1, at)
				if name == "R" || name == "Q" {
					want = none
				}
				if got := tries(t, zoned(l, eras...)); got != want {
					t.Errorf("%s in era %d of %d: %v; must be %v", name, at, n, got, want)
				}
			}
			eras := []api.Era{era(0, api.SaveRules, 0)}
			eras[0].Rules = ""
			if got := tries(t, zoned(l, eras...)); got != (api.Flaw{Err: api.ErrArg}) {
				t.Errorf("an empty name: %v", got)
			}
		}
	}
	// A name of two eras, of two zones.
	s := parsed("Zone A 0 - X\nZone B 0 No X 2000\n0 No X\nZone C 0 No X")
	if got := tries(t, s); got != ofEra(api.ErrUnknown, 1, 0) {
		t.Error(got)
	}
}

// P13.1: offsets and savings together about a day either way, by each kind of saving, in each era.
func TestOffsets(t *testing.T) {
	sums := []int{-129599, -wholeDay - 1, -wholeDay, -wholeDay + 1, -1, 0, 1, wholeDay - 1, wholeDay, wholeDay + 1, 129599}
	saves := []int{-43200, -43199, -hour, -1, 0, 1, hour, 43199, 43200}
	for _, sum := range sums {
		for _, save := range saves {
			offset := sum - save
			if offset <= -wholeDay || offset >= wholeDay {
				continue
			}
			for kind := range 3 {
				want := api.OK
				if kind != api.SaveNone && (sum <= -wholeDay || sum >= wholeDay) {
					want = api.ErrOffset
				}
				offsetTried(t, era(offset, kind, save), save, want)
			}
		}
	}
	// Without a saving all offsets that may be are right.
	for _, n := range []int{-wholeDay, wholeDay} {
		for kind := range 3 {
			if got := tries(t, zoned([]api.Rule{rule(1, 0)}, era(n, kind, 0))); got != (api.Flaw{Err: api.ErrArg}) {
				t.Errorf("offset %d, kind %d: %v", n, kind, got)
			}
		}
	}
}

// offsetTried tries an era at each place of a zone, of a set of which each rule in turn alone saves so much.
func offsetTried(t *testing.T, x api.Era, save int, e api.Errno) {
	t.Helper()
	plain := era(0, api.SaveNone, 0)
	for at := range 3 {
		for place := range 3 {
			l := []api.Rule{rule(1, 0), rule(5, 0), rule(9, 0)}
			l[place].Save = save
			eras := []api.Era{until(plain, 1, 0, api.Universal), until(plain, 20, 0, api.Universal), plain}
			x.Until, x.Year, x.Spot = eras[at].Until, eras[at].Year, eras[at].Spot
			eras[at] = x
			want := none
			if e != api.OK {
				want = ofEra(e, 1, at)
			}
			if got := tries(t, zoned(l, eras...)); got != want {
				t.Fatalf("offset %d, kind %d, save %d of rule %d, era %d: %v; must be %v", x.Offset, x.Kind, save, place, at, got, want)
			}
		}
	}
}

// P13.1: any rule of a set counts, whenever it is in force, and none of other sets.
func TestOffsetsOfAnyRule(t *testing.T) {
	for _, x := range []struct {
		text string
		want api.Flaw
	}{
		{"Rule R 9999 only - Jan 1 0 1:00 -\nZone Z 23:00 R X 1 Jan 1\n0 - X", ofEra(api.ErrOffset, 0, 0)},
		{"Rule R 1 only - Jan 1 0 1:00 -\nZone Z 0 - X 9999\n23:00 R X", ofEra(api.ErrOffset, 0, 1)},
		{"Rule R 1 only - Jan 1 0 1:00 -\nZone Z 0 - X 9999\n22:59:59 R X", none},
		{"Rule R 1 only - Jan 1 0 0 -\nRule S 1 only - Jan 1 0 1:00 -\nZone Z 23:00 R X", none},
		{"Rule R 1 only - Jan 1 0 0 -\nRule S 1 only - Jan 1 0 1:00 -\nZone Z 0 S X 2000\n23:00 - X", none},
		{"Rule R 1 only - Jan 1 0 0 -\nRule S 1 only - Jan 1 0 1:00 -\nRule R 3 only - Jan 1 0 12:00 -\nZone Z 0 S X 2000\n12:00 R X", ofEra(api.ErrOffset, 0, 1)},
		{"Zone Z 23:59:59 - X 2000\n-23:59:59 - X", none},
		{"Zone Z 23:59:59 -12:00 X 2000\n-23:59:59 12:00 X", none},
		{"Zone Z 23:59:59 -12:00 X 2000\n-23:59:59 -0:00:01 X", ofEra(api.ErrOffset, 0, 1)},
	} {
		if got := tries(t, parsed(x.text)); got != x.want {
			t.Errorf("%q: %v; must be %v", x.text, got, x.want)
		}
	}
}

// P13.1: ends that rise, that are alike and that fall, also by a second, by each of the three clocks and each kind of saving of both eras.
func TestEndsByEachClock(t *testing.T) {
	const offset, save = 5 * hour, 1800
	l := []api.Rule{rule(2, -hour), rule(9, save)}
	for kind := range 9 {
		for clock := range 9 {
			for _, offsets := range [][2]int{{offset, offset}, {offset, -offset}, {-offset, offset}, {0, 12345}} {
				for _, between := range []int{-10 * hour, -2, -1, 0, 1, 2, 10 * hour} {
					var eras []api.Era
					// The ends are told by their universal times, of which each clock tells its own.
					for i, at := range []int{0, between} {
						x := era(offsets[i], []int{kind % 3, kind / 3}[i], save)
						ref := []int{clock % 3, clock / 3}[i]
						if ref != api.Universal {
							at += x.Offset
						}
						if ref == api.Wall && x.Kind != api.SaveNone {
							at += save
						}
						eras = append(eras, until(x, 15, at, ref))
					}
					eras = append(eras, era(0, api.SaveNone, 0))
					want := none
					if between <= 0 {
						want = ofEra(api.ErrOrder, 1, 1)
					}
					if got := tries(t, zoned(l, eras...)); got != want {
						t.Fatalf("kinds %d, clocks %d, offsets %v, %d seconds between: %v; must be %v", kind, clock, offsets, between, got, want)
					}
				}
			}
		}
	}
}

// P13.1: ends of zones of up to six eras in each order: the first one that isn't behind the one just ahead is told.
func TestEndsInEachOrder(t *testing.T) {
	for n := range 6 {
		for code := range power(3, n) {
			var days []int
			for ; len(days) < n; code /= 3 {
				days = append(days, 1+code%3+len(days)/2)
			}
			var eras []api.Era
			for _, on := range days {
				eras = append(eras, until(era(0, api.SaveNone, 0), on, 0, api.Universal))
			}
			want := none
			for i := n - 1; i > 0; i-- {
				if days[i] <= days[i-1] {
					want = ofEra(api.ErrOrder, 1, i)
				}
			}
			if got := tries(t, zoned(nil, append(eras, era(0, api.SaveNone, 0))...)); got != want {
				t.Fatalf("%v: %v; must be %v", days, got, want)
			}
		}
	}
}

// power is a number times itself.
func power(x, n int) int {
	p := 1
	for range n {
		p *= x
	}
	return p
}

// P13.1, written out: ends of the first and the last year, ends at and about 0, and the ends of other zones, which count for nothing.
func TestEndsWrittenOut(t *testing.T) {
	for _, x := range []struct {
		text string
		want api.Flaw
	}{
		{"Zone Z 23:59:59 12:00 X 1 Jan 1 -167:59:59\n0 - X 1\n0 - X", ofEra(api.ErrOffset, 0, 0)},
		{"Zone Z 11:59:59 12:00 X 1 Jan 1 -167:59:59\n0 - X 1\n0 - X", none},
		{"Zone Z 0 - X 1\n0 - X 1\n0 - X", ofEra(api.ErrOrder, 0, 1)},
		{"Zone Z 0 - X 1\n0 - X 9999 Dec 31 167:59:59\n0 - X", none},
		{"Zone Z 0 - X 9999 Dec 31 167:59:59\n0 - X 9999 Dec 31 167:59:59\n0 - X", ofEra(api.ErrOrder, 0, 1)},
		{"Zone Z 0 - X 1969 Dec 31 23:59:59\n0 - X 1970\n0 - X", none},
		{"Zone Z 0 - X 1970\n0 - X 1970 Jan 1 0:00:01\n0 - X", none},
		{"Zone Z 0 - X 1970\n0 - X 1969\n0 - X", ofEra(api.ErrOrder, 0, 1)},
		{"Zone Z 0 - X 1970\n0 - X 1970\n0 - X", ofEra(api.ErrOrder, 0, 1)},
		{"Zone Z 0 - X 1960\n0 - X 1970\n0 - X 1965\n0 - X", ofEra(api.ErrOrder, 0, 2)},
		{"Zone Z 0 - X 1960\n0 - X 1950\n0 - X 1955\n0 - X", ofEra(api.ErrOrder, 0, 1)},
		{"Zone Y 0 - X 2000\n0 - X\nZone Z 0 - X 1990\n0 - X", none},
		{"Zone Y 0 - X 2000\n0 - X\nZone Z 0 - X 1990\n0 - X 1989\n0 - X", ofEra(api.ErrOrder, 1, 1)},
		// By wall's clock what the era itself saves counts, and of its set the turn ahead.
		{"Zone Z 0 - X 2000 Jan 1 0:00u\n0 1:00 X 2000 Jan 1 1:00\n0 - X", ofEra(api.ErrOrder, 0, 1)},
		{"Zone Z 0 - X 2000 Jan 1 0:00u\n0 1:00 X 2000 Jan 1 1:00:01\n0 - X", none},
		{"Rule R 1999 only - Jun 1 0 1:00 -\nZone Z 0 - X 2000 Jan 1 0:00u\n0 R X 2000 Jan 1 1:00\n0 - X", ofEra(api.ErrOrder, 0, 1)},
		{"Rule R 2000 only - Jun 1 0 1:00 -\nZone Z 0 - X 2000 Jan 1 0:00u\n0 R X 2000 Jan 1 1:00\n0 - X", none},
		{"Rule Q 1999 only - Jun 1 0 1:00 -\nRule R 1999 only - Jun 1 0 0 -\nZone Z 0 Q X 2000 Jan 1 0:00u\n0 R X 2000 Jan 1 1:00\n0 - X", none},
	} {
		if got := tries(t, parsed(x.text)); got != x.want {
			t.Errorf("%q: %v; must be %v", x.text, got, x.want)
		}
	}
	// An era without an end ahead of another one is no source at all.
	s := parsed("Zone Z 0 - X 1990\n0 - X 2000\n0 - X")
	for at := range 2 {
		x := zoned(nil, slices.Clone(s.Zones[0].Eras)...)
		x.Zones[1].Eras[at] = era(0, api.SaveNone, 0)
		if got := tries(t, x); got != (api.Flaw{Err: api.ErrArg}) {
			t.Errorf("era %d without an end: %v", at, got)
		}
	}
}
