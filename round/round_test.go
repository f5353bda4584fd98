package round_test

import (
	"math"
	"math/big"
	"testing"

	"analemma/api"
	"analemma/round"
	"analemma/sample"
	"analemma/wide"
)

const (
	least    = math.MinInt64
	greatest = math.MaxInt64
	full     = math.MaxUint64
)

var (
	first = api.Wide{Hi: least, Lo: 0}       // -2^127
	last  = api.Wide{Hi: greatest, Lo: full} // 2^127 - 1
	none  = api.Wide{}
	one   = wide.Of(1)
)

// modes are all modes, in the order of their numbers.
func modes() []int {
	return []int{api.Ceil, api.Floor, api.Expand, api.Trunc, api.HalfCeil, api.HalfFloor, api.HalfExpand, api.HalfTrunc, api.HalfEven}
}

// strangers are numbers that are no modes.
func strangers() []int { return []int{0, -1, 10, 11, -9, 256 + 1, 1<<32 + 1, least, greatest} }

// pairs goes through all pairs that calls are tried with.
func pairs(do func(a, b api.Wide)) {
	for _, l := range [][]api.Wide{sample.Edges(), sample.Spread(150), sample.Small(30)} {
		for _, a := range l {
			for _, b := range l {
				do(a, b)
			}
		}
	}
	// Numbers about the multiples of b, and about the middles between them.
	for i, b := range append(sample.Edges(), sample.Spread(100)...) {
		for _, q := range append(sample.Small(4), sample.Spread(150)[i%100:][:10]...) {
			n := new(big.Int).Mul(whole(b), whole(q))
			for _, base := range []*big.Int{n, new(big.Int).Add(n, new(big.Int).Rsh(whole(b), 1))} {
				for d := int64(-2); d <= 2; d++ {
					if a := new(big.Int).Add(base, big.NewInt(d)); fits(a) {
						do(wideOf(a), b)
					}
				}
			}
		}
	}
}

// whole is w as a number without bounds.
func whole(w api.Wide) *big.Int {
	n := new(big.Int).Lsh(big.NewInt(w.Hi), 64)
	return n.Add(n, new(big.Int).SetUint64(w.Lo))
}

// fits tells whether n is a wide number.
func fits(n *big.Int) bool { return n.Cmp(whole(first)) >= 0 && n.Cmp(whole(last)) <= 0 }

// wideOf is the wide number n.
func wideOf(n *big.Int) api.Wide {
	hi := new(big.Int).Rsh(n, 64)
	lo := new(big.Int).Sub(n, new(big.Int).Lsh(hi, 64))
	return api.Wide{Hi: hi.Int64(), Lo: lo.Uint64()}
}

// answer is what a call answers.
type answer struct {
	w api.Wide
	e api.Errno
}

// fit is what a call must answer whose true result is n.
func fit(n *big.Int) answer {
	if !fits(n) {
		return answer{e: api.ErrOver}
	}
	return answer{wideOf(n), api.OK}
}

// of puts a call's results together.
func of(w api.Wide, e api.Errno) answer { return answer{w, e} }

// text is a number that is written in a test as text.
func text(t *testing.T, s string) api.Wide {
	t.Helper()
	w, e := wide.Parse(s)
	if e != api.OK {
		t.Fatalf("%q: %d", s, e)
	}
	return w
}

// rounded is the true multiple of inc that n becomes; inc is above 0.
func rounded(n, inc *big.Int, mode int) *big.Int {
	k, rest := new(big.Int).DivMod(n, inc, new(big.Int))
	if rest.Sign() == 0 {
		return n
	}
	lower := new(big.Int).Sub(n, rest)
	upper := new(big.Int).Add(lower, inc)
	nearer := map[int]int{api.Ceil: 1, api.Floor: -1, api.Expand: n.Sign(), api.Trunc: -n.Sign()}
	way, ok := nearer[mode]
	if !ok {
		way = rest.Add(rest, rest).Cmp(inc)
	}
	if way == 0 {
		ties := map[int]int{api.HalfCeil: 1, api.HalfFloor: -1, api.HalfExpand: n.Sign(), api.HalfTrunc: -n.Sign(), api.HalfEven: int(k.Bit(0))}
		way = ties[mode]
	}
	if way > 0 {
		return upper
	}
	return lower
}

// fraction is the true whole number that n / d becomes; d isn't 0.
func fraction(n, d *big.Int, mode int) *big.Int {
	if d.Sign() < 0 {
		n, d = new(big.Int).Neg(n), new(big.Int).Neg(d)
	}
	return new(big.Int).Quo(rounded(n, d, mode), d)
}

// P4.1, against numbers without bounds.
func TestToIsPrecise(t *testing.T) {
	pairs(func(w, inc api.Wide) {
		for _, mode := range modes() {
			want := answer{e: api.ErrArg}
			if wide.Sign(inc) > 0 {
				want = fit(rounded(whole(w), whole(inc), mode))
			}
			if x := of(round.To(w, inc, mode)); x != want {
				t.Errorf("To(%v, %v, %d): %v; must be %v", w, inc, mode, x, want)
			}
		}
	})
}

// P4.2, against numbers without bounds.
func TestRatioIsPrecise(t *testing.T) {
	pairs(func(n, d api.Wide) {
		for _, mode := range modes() {
			want := answer{e: api.ErrZero}
			if d != none {
				want = fit(fraction(whole(n), whole(d), mode))
			}
			if x := of(round.Ratio(n, d, mode)); x != want {
				t.Errorf("Ratio(%v, %v, %d): %v; must be %v", n, d, mode, x, want)
			}
		}
	})
}

// size is a number without its sign.
func size(n int) int { return max(n, -n) }

// chosen is the multiple of inc that a mode's words choose among l, which are all that may be: l rises.
func chosen(n, inc int, mode int, l []int) int {
	var found []int
	for _, m := range l {
		away := size(m - n)
		if mode <= api.Trunc && away < inc || mode > api.Trunc && away*2 <= inc {
			found = append(found, m)
		}
	}
	lower, upper := found[0], found[len(found)-1]
	switch mode {
	case api.Ceil, api.HalfCeil:
		return upper
	case api.Floor, api.HalfFloor:
		return lower
	}
	if size(lower) > size(upper) {
		lower, upper = upper, lower
	}
	switch mode {
	case api.Expand, api.HalfExpand:
		return upper
	case api.HalfEven:
		if lower/inc%2 != 0 {
			return upper
		}
	}
	return lower
}

// P4.1 and P4.2 by the modes' own words, with small numbers: of all multiples the one that each mode names.
func TestModesByTheirMeaning(t *testing.T) {
	for inc := 1; inc <= 12; inc++ {
		var l []int
		for k := -12; k <= 12; k++ {
			l = append(l, k*inc)
		}
		for n := -10 * inc; n <= 10*inc; n++ {
			for _, mode := range modes() {
				m := chosen(n, inc, mode, l)
				if x := of(round.To(wide.Of(int64(n)), wide.Of(int64(inc)), mode)); x != (answer{wide.Of(int64(m)), api.OK}) {
					t.Errorf("To(%d, %d, %d): %v; must be %d", n, inc, mode, x, m)
				}
				want := answer{wide.Of(int64(m / inc)), api.OK}
				if x := of(round.Ratio(wide.Of(int64(n)), wide.Of(int64(inc)), mode)); x != want {
					t.Errorf("Ratio(%d, %d, %d): %v; must be %d", n, inc, mode, x, m/inc)
				}
				if x := of(round.Ratio(wide.Of(int64(-n)), wide.Of(int64(-inc)), mode)); x != want {
					t.Errorf("Ratio(%d, %d, %d): %v; must be %d", -n, -inc, mode, x, m/inc)
				}
			}
		}
	}
}

// over stands in a table for what has no room.
const over = "over"

// told holds a call by each mode against what is written: a number, or that there is none.
func told(t *testing.T, name, a, b string, call func(a, b api.Wide, mode int) (api.Wide, api.Errno), want [9]string) {
	t.Helper()
	for i, mode := range modes() {
		y := answer{e: api.ErrOver}
		if want[i] != over {
			y = answer{text(t, want[i]), api.OK}
		}
		if x := of(call(text(t, a), text(t, b), mode)); x != y {
			t.Errorf("%s(%s, %s, %d): %v; must be %s", name, a, b, mode, x, want[i])
		}
	}
}

const (
	end = "-170141183460469231731687303715884105728"
	top = "170141183460469231731687303715884105727"
)

// P4.1: each mode on both sides of 0, below, on and above the middle, on even and odd multiples, at both ends, the chapter's example among them, written out.
func TestToWrittenOut(t *testing.T) {
	for _, x := range []struct {
		w, inc string
		want   [9]string // Ceil, Floor, Expand, Trunc, and the Half ones likewise, HalfEven
	}{
		{"-15", "10", [9]string{"-10", "-20", "-20", "-10", "-10", "-20", "-20", "-10", "-20"}},
		{"15", "10", [9]string{"20", "10", "20", "10", "20", "10", "20", "10", "20"}},
		{"5", "10", [9]string{"10", "0", "10", "0", "10", "0", "10", "0", "0"}},
		{"-5", "10", [9]string{"0", "-10", "-10", "0", "0", "-10", "-10", "0", "0"}},
		{"25", "10", [9]string{"30", "20", "30", "20", "30", "20", "30", "20", "20"}},
		{"-25", "10", [9]string{"-20", "-30", "-30", "-20", "-20", "-30", "-30", "-20", "-20"}},
		{"14", "10", [9]string{"20", "10", "20", "10", "10", "10", "10", "10", "10"}},
		{"16", "10", [9]string{"20", "10", "20", "10", "20", "20", "20", "20", "20"}},
		{"-14", "10", [9]string{"-10", "-20", "-20", "-10", "-10", "-10", "-10", "-10", "-10"}},
		{"-16", "10", [9]string{"-10", "-20", "-20", "-10", "-20", "-20", "-20", "-20", "-20"}},
		{"1", "10", [9]string{"10", "0", "10", "0", "0", "0", "0", "0", "0"}},
		{"-1", "10", [9]string{"0", "-10", "-10", "0", "0", "0", "0", "0", "0"}},
		{"9", "10", [9]string{"10", "0", "10", "0", "10", "10", "10", "10", "10"}},
		{"4", "3", [9]string{"6", "3", "6", "3", "3", "3", "3", "3", "3"}},
		{"5", "3", [9]string{"6", "3", "6", "3", "6", "6", "6", "6", "6"}},
		{"-4", "3", [9]string{"-3", "-6", "-6", "-3", "-3", "-3", "-3", "-3", "-3"}},
		{"-5", "3", [9]string{"-3", "-6", "-6", "-3", "-6", "-6", "-6", "-6", "-6"}},
		{"20", "10", [9]string{"20", "20", "20", "20", "20", "20", "20", "20", "20"}},
		{"-20", "10", [9]string{"-20", "-20", "-20", "-20", "-20", "-20", "-20", "-20", "-20"}},
		{"0", "10", [9]string{"0", "0", "0", "0", "0", "0", "0", "0", "0"}},
		{"0", top, [9]string{"0", "0", "0", "0", "0", "0", "0", "0", "0"}},
		{"7", "1", [9]string{"7", "7", "7", "7", "7", "7", "7", "7", "7"}},
		{"-7", "1", [9]string{"-7", "-7", "-7", "-7", "-7", "-7", "-7", "-7", "-7"}},
		{end, "1", [9]string{end, end, end, end, end, end, end, end, end}},
		{top, "1", [9]string{top, top, top, top, top, top, top, top, top}},
		{end, "2", [9]string{end, end, end, end, end, end, end, end, end}},
		{top, top, [9]string{top, top, top, top, top, top, top, top, top}},
		// A middle of both halves.
		{"27670116110564327424", "18446744073709551616", [9]string{"36893488147419103232", "18446744073709551616", "36893488147419103232", "18446744073709551616", "36893488147419103232", "18446744073709551616", "36893488147419103232", "18446744073709551616", "36893488147419103232"}},
		{"27670116110564327423", "18446744073709551616", [9]string{"36893488147419103232", "18446744073709551616", "36893488147419103232", "18446744073709551616", "18446744073709551616", "18446744073709551616", "18446744073709551616", "18446744073709551616", "18446744073709551616"}},
		{"27670116110564327425", "18446744073709551616", [9]string{"36893488147419103232", "18446744073709551616", "36893488147419103232", "18446744073709551616", "36893488147419103232", "36893488147419103232", "36893488147419103232", "36893488147419103232", "36893488147419103232"}},
		// One of the two neighbours has no room.
		{top, "2", [9]string{over, "170141183460469231731687303715884105726", over, "170141183460469231731687303715884105726", over, "170141183460469231731687303715884105726", over, "170141183460469231731687303715884105726", over}},
		{top, "10", [9]string{over, "170141183460469231731687303715884105720", over, "170141183460469231731687303715884105720", over, over, over, over, over}},
		{end, "10", [9]string{"-170141183460469231731687303715884105720", over, over, "-170141183460469231731687303715884105720", over, over, over, over, over}},
		{end, "3", [9]string{"-170141183460469231731687303715884105726", over, over, "-170141183460469231731687303715884105726", over, over, over, over, over}},
		{end, top, [9]string{"-" + top, over, over, "-" + top, "-" + top, "-" + top, "-" + top, "-" + top, "-" + top}},
		{"1", top, [9]string{top, "0", top, "0", "0", "0", "0", "0", "0"}},
		{"-1", top, [9]string{"0", "-" + top, "-" + top, "0", "0", "0", "0", "0", "0"}},
		{"170141183460469231731687303715884105726", top, [9]string{top, "0", top, "0", top, top, top, top, top}},
		{"85070591730234615865843651857942052864", "170141183460469231731687303715884105726", [9]string{"170141183460469231731687303715884105726", "0", "170141183460469231731687303715884105726", "0", "170141183460469231731687303715884105726", "170141183460469231731687303715884105726", "170141183460469231731687303715884105726", "170141183460469231731687303715884105726", "170141183460469231731687303715884105726"}},
		{"85070591730234615865843651857942052863", "170141183460469231731687303715884105726", [9]string{"170141183460469231731687303715884105726", "0", "170141183460469231731687303715884105726", "0", "170141183460469231731687303715884105726", "0", "170141183460469231731687303715884105726", "0", "0"}},
	} {
		told(t, "To", x.w, x.inc, round.To, x.want)
	}
}

// P4.2: fractions with all pairings of signs, both ends, the chapter's example among them, written out.
func TestRatioWrittenOut(t *testing.T) {
	for _, x := range []struct {
		n, d string
		want [9]string // Ceil, Floor, Expand, Trunc, and the Half ones likewise, HalfEven
	}{
		{"7", "-2", [9]string{"-3", "-4", "-4", "-3", "-3", "-4", "-4", "-3", "-4"}},
		{"-7", "2", [9]string{"-3", "-4", "-4", "-3", "-3", "-4", "-4", "-3", "-4"}},
		{"7", "2", [9]string{"4", "3", "4", "3", "4", "3", "4", "3", "4"}},
		{"-7", "-2", [9]string{"4", "3", "4", "3", "4", "3", "4", "3", "4"}},
		{"5", "2", [9]string{"3", "2", "3", "2", "3", "2", "3", "2", "2"}},
		{"-5", "2", [9]string{"-2", "-3", "-3", "-2", "-2", "-3", "-3", "-2", "-2"}},
		{"1", "2", [9]string{"1", "0", "1", "0", "1", "0", "1", "0", "0"}},
		{"-1", "2", [9]string{"0", "-1", "-1", "0", "0", "-1", "-1", "0", "0"}},
		{"1", "-2", [9]string{"0", "-1", "-1", "0", "0", "-1", "-1", "0", "0"}},
		{"-1", "-2", [9]string{"1", "0", "1", "0", "1", "0", "1", "0", "0"}},
		{"1", "3", [9]string{"1", "0", "1", "0", "0", "0", "0", "0", "0"}},
		{"1", "-3", [9]string{"0", "-1", "-1", "0", "0", "0", "0", "0", "0"}},
		{"2", "-3", [9]string{"0", "-1", "-1", "0", "-1", "-1", "-1", "-1", "-1"}},
		{"-2", "-3", [9]string{"1", "0", "1", "0", "1", "1", "1", "1", "1"}},
		{"6", "-3", [9]string{"-2", "-2", "-2", "-2", "-2", "-2", "-2", "-2", "-2"}},
		{"0", "-3", [9]string{"0", "0", "0", "0", "0", "0", "0", "0", "0"}},
		{"0", end, [9]string{"0", "0", "0", "0", "0", "0", "0", "0", "0"}},
		{end, "1", [9]string{end, end, end, end, end, end, end, end, end}},
		{top, "1", [9]string{top, top, top, top, top, top, top, top, top}},
		{top, "-1", [9]string{"-" + top, "-" + top, "-" + top, "-" + top, "-" + top, "-" + top, "-" + top, "-" + top, "-" + top}},
		{end, end, [9]string{"1", "1", "1", "1", "1", "1", "1", "1", "1"}},
		{top, end, [9]string{"0", "-1", "-1", "0", "-1", "-1", "-1", "-1", "-1"}},
		{end, top, [9]string{"-1", "-2", "-2", "-1", "-1", "-1", "-1", "-1", "-1"}},
		{"1", end, [9]string{"0", "-1", "-1", "0", "0", "0", "0", "0", "0"}},
		{"-1", end, [9]string{"1", "0", "1", "0", "0", "0", "0", "0", "0"}},
		{"-85070591730234615865843651857942052864", end, [9]string{"1", "0", "1", "0", "1", "0", "1", "0", "0"}},
		{"85070591730234615865843651857942052864", end, [9]string{"0", "-1", "-1", "0", "0", "-1", "-1", "0", "0"}},
		{top, "2", [9]string{"85070591730234615865843651857942052864", "85070591730234615865843651857942052863", "85070591730234615865843651857942052864", "85070591730234615865843651857942052863", "85070591730234615865843651857942052864", "85070591730234615865843651857942052863", "85070591730234615865843651857942052864", "85070591730234615865843651857942052863", "85070591730234615865843651857942052864"}},
		{end, "-1", [9]string{over, over, over, over, over, over, over, over, over}},
	} {
		told(t, "Ratio", x.n, x.d, round.Ratio, x.want)
	}
}

// P4.1: no other modes, and no increments of 0 and below.
func TestToRefuses(t *testing.T) {
	for _, w := range []api.Wide{none, one, wide.Of(-1), wide.Of(15), first, last} {
		for _, inc := range sample.Edges() {
			for _, mode := range strangers() {
				if x := of(round.To(w, inc, mode)); x != (answer{e: api.ErrArg}) {
					t.Errorf("To(%v, %v, %d): %v", w, inc, mode, x)
				}
			}
			for _, mode := range modes() {
				if x := of(round.To(w, inc, mode)); wide.Sign(inc) <= 0 && x != (answer{e: api.ErrArg}) {
					t.Errorf("To(%v, %v, %d): %v", w, inc, mode, x)
				}
			}
		}
	}
}

// P4.2: no other modes, which are told ahead of a divisor of 0, and no divisor of 0, and one fraction alone that has no room.
func TestRatioRefuses(t *testing.T) {
	for _, a := range sample.Edges() {
		for _, mode := range strangers() {
			for _, x := range []answer{of(round.Ratio(a, none, mode)), of(round.Ratio(none, a, mode)), of(round.Ratio(first, a, mode)), of(round.Ratio(one, a, mode))} {
				if x != (answer{e: api.ErrArg}) {
					t.Errorf("%v by %d: %v", a, mode, x)
				}
			}
		}
		for _, mode := range modes() {
			if x := of(round.Ratio(a, none, mode)); x != (answer{e: api.ErrZero}) {
				t.Errorf("Ratio(%v, 0, %d): %v", a, mode, x)
			}
			if x := of(round.Ratio(a, wide.Of(-1), mode)); (x.e != api.OK) != (a == first) {
				t.Errorf("Ratio(%v, -1, %d): %v", a, mode, x)
			}
		}
	}
}

// P4.3, written out.
func TestMirror(t *testing.T) {
	want := map[int]int{api.Ceil: api.Floor, api.Floor: api.Ceil, api.HalfCeil: api.HalfFloor, api.HalfFloor: api.HalfCeil}
	for _, mode := range append(modes(), strangers()...) {
		x, ok := want[mode]
		if !ok {
			x = mode
		}
		if m := round.Mirror(mode); m != x {
			t.Errorf("Mirror(%d): %d; must be %d", mode, m, x)
		}
		if m := round.Mirror(round.Mirror(mode)); m != mode {
			t.Errorf("Mirror(Mirror(%d)): %d", mode, m)
		}
	}
}

// P4.4: a number rounded by a mode, and the one of the other sign by its Mirror, are each other's of the other sign.
func TestMirroredNumbersAreRoundedAlike(t *testing.T) {
	pairs(func(a, b api.Wide) {
		minus, e := wide.Neg(a)
		if e != api.OK || b == none {
			return
		}
		for _, mode := range modes() {
			if wide.Sign(b) > 0 {
				mirrored(t, of(round.To(a, b, mode)), of(round.To(minus, b, round.Mirror(mode))))
			}
			mirrored(t, of(round.Ratio(a, b, mode)), of(round.Ratio(minus, b, round.Mirror(mode))))
		}
	})
}

// mirrored holds two answers against each other: both are each other's of the other sign, but that -2^127 alone has room where its other has none.
func mirrored(t *testing.T, x, y answer) {
	t.Helper()
	if x.e != api.OK {
		x, y = y, x
	}
	if x.e != api.OK {
		return
	}
	w, e := wide.Neg(x.w)
	if want := (answer{w, e}); y != want {
		t.Errorf("%v, but %v", x, y)
	}
}

// P4.5: what is rounded lies less than an increment away, of the Half ones at most half an increment, and stays when it is rounded again.
func TestRoundedIsNearAndStays(t *testing.T) {
	pairs(func(w, inc api.Wide) {
		for _, mode := range modes() {
			m, e := round.To(w, inc, mode)
			if e != api.OK {
				continue
			}
			away := new(big.Int).Sub(whole(m), whole(w))
			away.Abs(away)
			if away.Cmp(whole(inc)) >= 0 || mode > api.Trunc && away.Lsh(away, 1).Cmp(whole(inc)) > 0 {
				t.Errorf("To(%v, %v, %d): %v", w, inc, mode, m)
			}
			if x := of(round.To(m, inc, mode)); x != (answer{m, api.OK}) {
				t.Errorf("To(%v, %v, %d): %v", m, inc, mode, x)
			}
		}
	})
}

// P4.5: who is greater doesn't become less.
func TestOrderIsKept(t *testing.T) {
	for _, inc := range []int64{1, 2, 3, 7, 10, 60, greatest} {
		for _, mode := range modes() {
			past, far := first, first
			for _, w := range rising(inc) {
				if m, e := round.To(w, wide.Of(inc), mode); e == api.OK {
					if wide.Cmp(m, past) < 0 {
						t.Errorf("To(%v, %d, %d): %v, behind %v", w, inc, mode, m, past)
					}
					past = m
				}
				m, e := round.Ratio(w, wide.Of(inc), mode)
				if e != api.OK || wide.Cmp(m, far) < 0 {
					t.Errorf("Ratio(%v, %d, %d): %v, %d, behind %v", w, inc, mode, m, e, far)
				}
				far = m
			}
		}
	}
}

// rising are numbers in their order: about the ends, about 0, and about the first multiples of n and their middles.
func rising(n int64) []api.Wide {
	var l []api.Wide
	add := func(from api.Wide) {
		for d := int64(0); d < 25; d++ {
			if w, e := wide.Add(from, wide.Of(d)); e == api.OK && (len(l) == 0 || wide.Cmp(w, l[len(l)-1]) > 0) {
				l = append(l, w)
			}
		}
	}
	add(first)
	for k := int64(-5); k <= 5; k++ {
		middle, _ := wide.Add(wide.Mul(n, k), wide.Of(n/2-10))
		start, _ := wide.Add(wide.Mul(n, k), wide.Of(-10))
		add(start)
		add(middle)
	}
	end, _ := wide.Sub(last, wide.Of(24))
	add(end)
	return l
}
