package table_test

import (
	"math"
	"slices"
	"testing"

	"analemma/api"
	"analemma/table"
)

// P14.2, written out: what tables tell, about their shifts and their Until, with a tail and without. In the last year of which spots are told October is none, so that for ever April's turn is the last one.
func TestAtWrittenOut(t *testing.T) {
	x, y := api.Phase{Abbr: "X"}, api.Phase{Offset: hour, Save: hour, Abbr: "Y"}
	april, october := at(1970, 4, 1, 0, 0, 0), at(1970, 9, 30, 23, 0, 0)
	d, s := api.Phase{Offset: hour, Save: hour, Abbr: "D"}, api.Phase{Abbr: "S"}
	early := whole()
	early.Shifts, early.Until = nil, math.MinInt64
	late := whole()
	late.Shifts, late.Until = nil, october
	never := whole()
	never.Until = math.MaxInt64
	for _, c := range []struct {
		what string
		x    api.Table
		at   map[int64]api.Phase
	}{
		{"without shifts and tail", bare(), map[int64]api.Phase{math.MinInt64: x, -1: x, 0: x, 1: x, math.MaxInt64: x}},
		{"without a tail", short(), map[int64]api.Phase{math.MinInt64: x, 9: x, 10: y, 11: y, 19: y, 20: x, 29: x, 30: x, 31: x, april: x, math.MaxInt64: x}},
		{"with a tail", whole(), map[int64]api.Phase{math.MinInt64: x, 9: x, 10: y, 11: y, 19: y, 20: x, 21: x, 29: x, 30: s, 31: s, april - 1: s, april: d, october - 1: d, october: s, math.MaxInt64: d}},
		{"without shifts, with a tail from ever on", early, map[int64]api.Phase{math.MinInt64: s, 0: s, april - 1: s, april: d, october - 1: d, october: s}},
		{"without shifts, with a tail", late, map[int64]api.Phase{math.MinInt64: x, 0: x, april: x, october - 1: x, october: s, october + 86400*200: d, math.MaxInt64: d}},
		{"with a tail at the last second alone", never, map[int64]api.Phase{9: x, 10: y, 20: x, april: x, math.MaxInt64 - 1: x, math.MaxInt64: d}},
	} {
		for n, want := range c.at {
			if got, ok := table.At(c.x, n); got != want || !ok {
				t.Errorf("%s at %d: %v, %v; must be %v", c.what, n, got, ok, want)
			}
		}
		triesAt(t, c.x)
	}
}

// P14.2, written out: the abbreviations of tails, by each kind of format.
func TestAtOfFormats(t *testing.T) {
	for text, want := range map[string][2]string{"%s": {"D", "S"}, "E%sT": {"EDT", "EST"}, "%z": {"+00", "-01"}, "x%z": {"x+00", "x-01"}, "A/B": {"B", "A"}, "X": {"X", "X"}} {
		x := whole()
		x.Offset, x.Format = -hour, text
		for n, p := range map[int64]api.Phase{at(1980, 4, 1, 0, 0, 0): {Save: hour, Abbr: want[0]}, at(1980, 4, 1, 0, 0, -1): {Offset: -hour, Abbr: want[1]}, at(1980, 10, 1, 0, 0, -1): {Save: hour, Abbr: want[0]}, at(1980, 10, 1, 0, 0, 0): {Offset: -hour, Abbr: want[1]}} {
			if got, ok := table.At(x, n); got != p || !ok {
				t.Errorf("%s at %d: %v, %v; must be %v", text, n, got, ok, p)
			}
		}
	}
}

// P14.2: a table of as many shifts as may be, at each of them.
func TestAtOfManyShifts(t *testing.T) {
	x := bare()
	for i := range 30000 {
		x.Shifts = append(x.Shifts, api.Shift{At: int64(i)*3 - 45000, Phase: api.Phase{Offset: i + 1, Abbr: "X"}})
	}
	x.Until = 50000
	for i := 0; i < 30000; i += 97 {
		for near := range int64(3) {
			if got, ok := table.At(x, int64(i)*3-45000+near); got != x.Shifts[i].Phase || !ok {
				t.Fatalf("shift %d, %d seconds behind: %v, %v", i, near, got, ok)
			}
		}
	}
	if got, ok := table.At(x, -45001); got != x.First || !ok {
		t.Error(got, ok)
	}
}

// P14.2: Same, of tables right and not, each with each.
func TestSame(t *testing.T) {
	l := []api.Table{{}, {Shifts: []api.Shift{}, Tail: []api.Rule{}}, bare(), short(), whole()}
	for i, x := range all() {
		if len(x.x.Shifts) < 1000 && i%37 == 0 {
			l = append(l, x.x)
		}
	}
	for _, change := range []func(x *api.Table){
		func(x *api.Table) { x.Name = "B" }, func(x *api.Table) { x.First.Offset++ }, func(x *api.Table) { x.First.Save++ }, func(x *api.Table) { x.First.Abbr = "" },
		func(x *api.Table) { x.Shifts[0].At++ }, func(x *api.Table) { x.Shifts[1].At++ }, func(x *api.Table) { x.Shifts[1].Phase.Save++ }, func(x *api.Table) { x.Shifts[0].Phase.Abbr = "Z" }, func(x *api.Table) { x.Shifts[1].Phase.Offset++ }, func(x *api.Table) { x.Shifts = x.Shifts[:1] }, func(x *api.Table) { x.Shifts = x.Shifts[1:] }, func(x *api.Table) { x.Shifts = nil }, func(x *api.Table) { x.Shifts = append(x.Shifts, api.Shift{}) }, func(x *api.Table) { slices.Reverse(x.Shifts) },
		func(x *api.Table) { x.Until++ }, func(x *api.Table) { x.Until = math.MinInt64 }, func(x *api.Table) { x.Offset++ }, func(x *api.Table) { x.Format = "X" },
		func(x *api.Table) { x.Tail = nil }, func(x *api.Table) { x.Tail = x.Tail[:1] }, func(x *api.Table) { slices.Reverse(x.Tail) }, func(x *api.Table) { x.Tail = append(x.Tail, api.Rule{}) }, func(x *api.Table) { x.Tail[0].Name = "Q" }, func(x *api.Table) { x.Tail[1].From++ }, func(x *api.Table) { x.Tail[1].To-- }, func(x *api.Table) { x.Tail[0].Spot.Ref = standard }, func(x *api.Table) { x.Tail[0].Save = 0 }, func(x *api.Table) { x.Tail[1].Letter = "" },
	} {
		x := whole()
		change(&x)
		if table.Same(x, whole()) || table.Same(whole(), x) {
			t.Errorf("%v is the same as %v", x, whole())
		}
		l = append(l, x)
	}
	for _, a := range l {
		for _, b := range l {
			if got := table.Same(a, b); got != alike(a, b) {
				t.Fatalf("Same(%v, %v): %v", a, b, got)
			}
		}
	}
	// No list and an empty one are one.
	x, y := bare(), bare()
	x.Shifts, y.Tail = []api.Shift{}, []api.Rule{}
	if !table.Same(x, y) || !table.Same(api.Table{}, l[1]) {
		t.Error("an empty list isn't none")
	}
}

// Rule 4: of Right, At and Same: a table is neither changed nor kept, its spare room neither, and an answer is new memory.
func TestTableMemory(t *testing.T) {
	long := whole()
	long.First.Abbr, long.Shifts[0].Phase.Abbr, long.Shifts[1].Phase.Abbr, long.Format, long.Tail[0].Letter, long.Tail[1].Letter = "first-phase", "second-phase", "third-phase", "a-long-format", "long-D", "long-S"
	letters := whole()
	letters.Tail[0].Letter, letters.Tail[1].Letter = "long-D", "long-S"
	for _, x := range []api.Table{long, letters, short(), bare()} {
		shifts, tail := len(x.Shifts), len(x.Tail)
		x.Shifts = append(x.Shifts, api.Shift{At: 99})[:shifts]
		x.Tail = append(x.Tail, api.Rule{Letter: "spare"})[:tail]
		kept := x
		kept.Shifts, kept.Tail = slices.Clone(x.Shifts), slices.Clone(x.Tail)
		for _, n := range append(slices.Clone(ends), 9, 10, 20, 30) {
			got, _ := table.At(x, n)
			for _, text := range texts(x) {
				if shared(got.Abbr, text) {
					t.Errorf("%q at %d stands in the memory of %q", got.Abbr, n, text)
				}
			}
		}
		if !table.Right(x) || !table.Same(x, kept) || !alike(x, kept) || x.Shifts[:shifts+1][shifts].At != 99 || x.Tail[:tail+1][tail].Letter != "spare" {
			t.Error(x)
		}
	}
}
