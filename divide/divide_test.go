package divide_test

import (
	"math"
	"math/big"
	"testing"

	"analemma/api"
	"analemma/divide"
	"analemma/sample"
	"analemma/wide"
)

const (
	least    = math.MinInt64
	greatest = math.MaxInt64
	full     = math.MaxUint64
)

var (
	first = api.Wide{Hi: least, Lo: 0}       // -2^127
	last  = api.Wide{Hi: greatest, Lo: full} // 2^127 - 1
	none  = api.Wide{}
	one   = api.Wide{Hi: 0, Lo: 1}
	less  = api.Wide{Hi: -1, Lo: full} // -1
)

// pairs goes through all pairs that calls are tried with.
func pairs(do func(a, b api.Wide)) {
	for _, l := range [][]api.Wide{sample.Edges(), sample.Spread(150), sample.Small(40)} {
		for _, a := range l {
			for _, b := range l {
				do(a, b)
			}
		}
	}
	for _, a := range sample.Spread(300) {
		for _, b := range append(sample.Small(12), sample.Edges()[:40]...) {
			do(a, b)
			do(b, a)
		}
	}
}

// whole is w as a number without bounds.
func whole(w api.Wide) *big.Int {
	n := new(big.Int).Lsh(big.NewInt(w.Hi), 64)
	return n.Add(n, new(big.Int).SetUint64(w.Lo))
}

// fits tells whether n is a wide number.
func fits(n *big.Int) bool { return n.Cmp(whole(first)) >= 0 && n.Cmp(whole(last)) <= 0 }

// wideOf is the wide number n.
func wideOf(n *big.Int) api.Wide {
	hi := new(big.Int).Rsh(n, 64)
	lo := new(big.Int).Sub(n, new(big.Int).Lsh(hi, 64))
	return api.Wide{Hi: hi.Int64(), Lo: lo.Uint64()}
}

// answer is what a call of two wide numbers answers.
type answer struct {
	x, y api.Wide
	e    api.Errno
}

// fit is what a call must answer whose true results are x and y.
func fit(x, y *big.Int) answer {
	if !fits(x) || !fits(y) {
		return answer{e: api.ErrOver}
	}
	return answer{wideOf(x), wideOf(y), api.OK}
}

// of puts a call's results together.
func of(x, y api.Wide, e api.Errno) answer { return answer{x, y, e} }

// text is a number that is written in a test as text.
func text(t *testing.T, s string) api.Wide {
	t.Helper()
	w, e := wide.Parse(s)
	if e != api.OK {
		t.Fatalf("%q: %d", s, e)
	}
	return w
}

// floor is the true quotient, rounded down, and the rest; b isn't 0.
func floor(a, b *big.Int) (*big.Int, *big.Int) {
	q, r := new(big.Int).QuoRem(a, b, new(big.Int))
	if r.Sign() != 0 && r.Sign() != b.Sign() {
		q.Sub(q, big.NewInt(1))
		r.Add(r, b)
	}
	return q, r
}

// P3.1, against numbers without bounds.
func TestFloorAndTruncArePrecise(t *testing.T) {
	pairs(func(a, b api.Wide) {
		down, zero := answer{e: api.ErrZero}, answer{e: api.ErrZero}
		if b != none {
			down = fit(floor(whole(a), whole(b)))
			zero = fit(new(big.Int).QuoRem(whole(a), whole(b), new(big.Int)))
		}
		if x := of(divide.Floor(a, b)); x != down {
			t.Errorf("Floor(%v, %v): %v; must be %v", a, b, x, down)
		}
		if x := of(divide.Trunc(a, b)); x != zero {
			t.Errorf("Trunc(%v, %v): %v; must be %v", a, b, x, zero)
		}
	})
}

// P3.1, against numbers without bounds: numbers about the multiples of a divisor, where quotient and rest turn.
func TestAboutMultiples(t *testing.T) {
	divisors := append(sample.Edges(), sample.Spread(100)...)
	for i, b := range divisors {
		if b == none {
			continue
		}
		for _, q := range append(sample.Small(3), divisors[(i*7)%150:][:20]...) {
			for d := int64(-2); d <= 2; d++ {
				n := new(big.Int).Mul(whole(b), whole(q))
				n.Add(n, big.NewInt(d))
				if !fits(n) {
					continue
				}
				a := wideOf(n)
				if x, y := of(divide.Floor(a, b)), fit(floor(n, whole(b))); x != y {
					t.Errorf("Floor(%v, %v): %v; must be %v", a, b, x, y)
				}
				if x, y := of(divide.Trunc(a, b)), fit(new(big.Int).QuoRem(n, whole(b), new(big.Int))); x != y {
					t.Errorf("Trunc(%v, %v): %v; must be %v", a, b, x, y)
				}
			}
		}
	}
}

// P3.1 by its own words, by counting: of small numbers the greatest quotient that is at most a / b, and the one farthest from 0 on the way to a / b.
func TestQuotientsByTheirMeaning(t *testing.T) {
	const n = 30
	for a := int64(-n); a <= n; a++ {
		for b := int64(-n); b <= n; b++ {
			if b == 0 {
				continue
			}
			// q is at most a / b just where q b b is at most a b.
			down := int64(-n)
			for q := down; q <= n; q++ {
				if q*b*b <= a*b {
					down = q
				}
			}
			zero := down
			if down < 0 && down*b != a {
				zero = down + 1
			}
			want := answer{wide.Of(down), wide.Of(a - down*b), api.OK}
			if x := of(divide.Floor(wide.Of(a), wide.Of(b))); x != want {
				t.Errorf("Floor(%d, %d): %v; must be %v", a, b, x, want)
			}
			want = answer{wide.Of(zero), wide.Of(a - zero*b), api.OK}
			if x := of(divide.Trunc(wide.Of(a), wide.Of(b))); x != want {
				t.Errorf("Trunc(%d, %d): %v; must be %v", a, b, x, want)
			}
		}
	}
}

// P3.1: all pairings of signs, both ends, divisors and quotients of one half and of both, the chapter's examples among them, written out.
func TestQuotientsWrittenOut(t *testing.T) {
	const end, top = "-170141183460469231731687303715884105728", "170141183460469231731687303715884105727"
	for _, x := range []struct{ a, b, down, rest, zero, left string }{
		{"7", "2", "3", "1", "3", "1"},
		{"-7", "2", "-4", "1", "-3", "-1"},
		{"7", "-2", "-4", "-1", "-3", "1"},
		{"-7", "-2", "3", "-1", "3", "-1"},
		{"6", "2", "3", "0", "3", "0"},
		{"-6", "2", "-3", "0", "-3", "0"},
		{"6", "-2", "-3", "0", "-3", "0"},
		{"-6", "-2", "3", "0", "3", "0"},
		{"0", "5", "0", "0", "0", "0"},
		{"0", "-5", "0", "0", "0", "0"},
		{"0", end, "0", "0", "0", "0"},
		{"2", "3", "0", "2", "0", "2"},
		{"-2", "3", "-1", "1", "0", "-2"},
		{"2", "-3", "-1", "-1", "0", "2"},
		{"-2", "-3", "0", "-2", "0", "-2"},
		{"-1", "86400", "-1", "86399", "0", "-1"},
		{"9223372036854775807", "10", "922337203685477580", "7", "922337203685477580", "7"},
		{"-9223372036854775808", "-1", "9223372036854775808", "0", "9223372036854775808", "0"},
		{"18446744073709551615", "18446744073709551616", "0", "18446744073709551615", "0", "18446744073709551615"},
		{"-18446744073709551615", "18446744073709551616", "-1", "1", "0", "-18446744073709551615"},
		{"18446744073709551617", "18446744073709551616", "1", "1", "1", "1"},
		{"100000000000000000000000000000000000007", "10000000000000000000", "10000000000000000000", "7", "10000000000000000000", "7"},
		{"-100000000000000000000000000000000000007", "10000000000000000000", "-10000000000000000001", "9999999999999999993", "-10000000000000000000", "-7"},
		{"100000000000000000000000000000000000007", "-50000000000000000000000000000000000000", "-3", "-49999999999999999999999999999999999993", "-2", "7"},
		{"100000000000000000000000000000000000007", "3", "33333333333333333333333333333333333335", "2", "33333333333333333333333333333333333335", "2"},
		{top, "1", top, "0", top, "0"},
		{top, "-1", "-" + top, "0", "-" + top, "0"},
		{top, "2", "85070591730234615865843651857942052863", "1", "85070591730234615865843651857942052863", "1"},
		{top, "-2", "-85070591730234615865843651857942052864", "-1", "-85070591730234615865843651857942052863", "1"},
		{top, top, "1", "0", "1", "0"},
		{top, end, "-1", "-1", "0", top},
		{end, top, "-2", "170141183460469231731687303715884105726", "-1", "-1"},
		{end, end, "1", "0", "1", "0"},
		{end, "1", end, "0", end, "0"},
		{end, "2", "-85070591730234615865843651857942052864", "0", "-85070591730234615865843651857942052864", "0"},
		{end, "-2", "85070591730234615865843651857942052864", "0", "85070591730234615865843651857942052864", "0"},
		{end, "3", "-56713727820156410577229101238628035243", "1", "-56713727820156410577229101238628035242", "-2"},
		{end, "-3", "56713727820156410577229101238628035242", "-2", "56713727820156410577229101238628035242", "-2"},
		{"-" + top, "-1", top, "0", top, "0"},
		{"1", top, "0", "1", "0", "1"},
		{"-1", top, "-1", "170141183460469231731687303715884105726", "0", "-1"},
		{"1", end, "-1", "-" + top, "0", "1"},
		{"-1", end, "0", "-1", "0", "-1"},
	} {
		a, b := text(t, x.a), text(t, x.b)
		want := answer{text(t, x.down), text(t, x.rest), api.OK}
		if y := of(divide.Floor(a, b)); y != want {
			t.Errorf("Floor(%s, %s): %v; must be %v", x.a, x.b, y, want)
		}
		want = answer{text(t, x.zero), text(t, x.left), api.OK}
		if y := of(divide.Trunc(a, b)); y != want {
			t.Errorf("Trunc(%s, %s): %v; must be %v", x.a, x.b, y, want)
		}
	}
}

// P3.1: no number is divided by 0, and one quotient alone has no room.
func TestQuotientsRefused(t *testing.T) {
	for _, do := range []func(a, b api.Wide) (api.Wide, api.Wide, api.Errno){divide.Floor, divide.Trunc} {
		for _, a := range append(sample.Edges(), sample.Spread(100)...) {
			if x := of(do(a, none)); x != (answer{e: api.ErrZero}) {
				t.Errorf("%v by 0: %v", a, x)
			}
			if x := of(do(a, less)); (x.e != api.OK) != (a == first) {
				t.Errorf("%v by -1: %v", a, x)
			}
			if x := of(do(first, a)); a != none && (x.e != api.OK) != (a == less) {
				t.Errorf("-2^127 by %v: %v", a, x)
			}
		}
		if x := of(do(first, less)); x != (answer{e: api.ErrOver}) {
			t.Errorf("-2^127 by -1: %v", x)
		}
	}
}

// P3.1, against numbers without bounds: numbers of 64 bits as divisors, and those that aren't above 0 refused.
func TestByIsPreciseAndRefuses(t *testing.T) {
	divisors := []int64{1, 2, 3, 7, 10, 24, 60, 86400, 1000000000, 86400000000000, 1<<32 - 1, 1 << 32, 1 << 62, greatest - 1, greatest, 0, -1, -2, -86400, -1 << 32, least, least + 1}
	for _, b := range sample.Bits(40) {
		divisors = append(divisors, int64(b)>>(b%64))
	}
	for _, a := range append(sample.Edges(), sample.Spread(300)...) {
		for _, n := range divisors {
			q, r, e := divide.By(a, n)
			if n <= 0 {
				if q != none || r != 0 || e != api.ErrArg {
					t.Errorf("By(%v, %d): %v, %d, %d", a, n, q, r, e)
				}
				continue
			}
			x, y := floor(whole(a), big.NewInt(n))
			if q != wideOf(x) || r != y.Int64() || e != api.OK {
				t.Errorf("By(%v, %d): %v, %d, %d; must be %v, %v", a, n, q, r, e, x, y)
			}
		}
	}
}

// P3.1: By, the chapter's example and both ends among them, written out.
func TestByWrittenOut(t *testing.T) {
	for _, x := range []struct {
		a api.Wide
		n int64
		q api.Wide
		r int64
		e api.Errno
	}{
		{less, 86400, less, 86399, api.OK},
		{none, 86400, none, 0, api.OK},
		{one, 86400, none, 1, api.OK},
		{wide.Of(-86400), 86400, less, 0, api.OK},
		{wide.Of(-86401), 86400, wide.Of(-2), 86399, api.OK},
		{wide.Of(172799), 86400, one, 86399, api.OK},
		{first, 1, first, 0, api.OK},
		{last, 1, last, 0, api.OK},
		{first, greatest, api.Wide{Hi: -2, Lo: full - 2}, greatest - 2, api.OK},
		{last, greatest, api.Wide{Hi: 1, Lo: 2}, 1, api.OK},
		{less, greatest, less, greatest - 1, api.OK},
		{one, 0, none, 0, api.ErrArg},
		{none, 0, none, 0, api.ErrArg},
		{one, -1, none, 0, api.ErrArg},
		{first, -1, none, 0, api.ErrArg},
		{last, least, none, 0, api.ErrArg},
	} {
		if q, r, e := divide.By(x.a, x.n); q != x.q || r != x.r || e != x.e {
			t.Errorf("By(%v, %d): %v, %d, %d; must be %v, %d, %d", x.a, x.n, q, r, e, x.q, x.r, x.e)
		}
	}
}

// common is the true greatest common divisor.
func common(a, b api.Wide) *big.Int {
	return new(big.Int).GCD(nil, nil, new(big.Int).Abs(whole(a)), new(big.Int).Abs(whole(b)))
}

// P3.2, against numbers without bounds.
func TestGcdIsPrecise(t *testing.T) {
	pairs(func(a, b api.Wide) {
		n := common(a, b)
		want, f := none, api.ErrOver
		if fits(n) {
			want, f = wideOf(n), api.OK
		}
		if w, e := divide.Gcd(a, b); w != want || e != f {
			t.Errorf("Gcd(%v, %v): %v, %d; must be %v, %d", a, b, w, e, want, f)
		}
	})
}

// countedGcd is the greatest number by which both are divided without a rest, by trying all; 0, if both are 0.
func countedGcd(a, b int64) int64 {
	var g int64
	for n := int64(1); n <= max(a, -a, b, -b); n++ {
		if a%n == 0 && b%n == 0 {
			g = n
		}
	}
	return g
}

// P3.2 by its own words, by trying all divisors of small numbers.
func TestGcdAndFractionByTheirMeaning(t *testing.T) {
	const n = 48
	for a := int64(-n); a <= n; a++ {
		for b := int64(-n); b <= n; b++ {
			g := countedGcd(a, b)
			if w, e := divide.Gcd(wide.Of(a), wide.Of(b)); w != wide.Of(g) || e != api.OK {
				t.Errorf("Gcd(%d, %d): %v, %d; must be %d", a, b, w, e, g)
			}
			want := answer{e: api.ErrZero}
			if b > 0 {
				want = answer{wide.Of(a / g), wide.Of(b / g), api.OK}
			} else if b < 0 {
				want = answer{wide.Of(-a / g), wide.Of(-b / g), api.OK}
			}
			if x := of(divide.Fraction(wide.Of(a), wide.Of(b))); x != want {
				t.Errorf("Fraction(%d, %d): %v; must be %v", a, b, x, want)
			}
		}
	}
}

// P3.2: numbers of a known common divisor, of one half and of both, with all pairings of signs.
func TestGcdOfMultiples(t *testing.T) {
	for i, b := range sample.Bits(600) {
		g := new(big.Int).SetUint64(b | 1<<63)
		if i%2 == 0 {
			g.Lsh(g, uint(b%50))
		}
		x := []int64{1, 2, 3, 5, 8, 13, 21, 34, 55, 89, 144, 233}[i%11:][:2]
		p, q := new(big.Int).Mul(g, big.NewInt(x[0])), new(big.Int).Mul(g, big.NewInt(x[1]))
		for _, signs := range [][2]int64{{1, 1}, {1, -1}, {-1, 1}, {-1, -1}} {
			n, d := new(big.Int).Mul(p, big.NewInt(signs[0])), new(big.Int).Mul(q, big.NewInt(signs[1]))
			if !fits(n) || !fits(d) {
				continue
			}
			if w, e := divide.Gcd(wideOf(n), wideOf(d)); w != wideOf(g) || e != api.OK {
				t.Errorf("Gcd(%v, %v): %v, %d; must be %v", n, d, w, e, g)
			}
			want := answer{wide.Of(x[0] * signs[0] * signs[1]), wide.Of(x[1]), api.OK}
			if y := of(divide.Fraction(wideOf(n), wideOf(d))); y != want {
				t.Errorf("Fraction(%v, %v): %v; must be %v", n, d, y, want)
			}
		}
	}
}

// P3.2: the greatest neighbours of which each is the sum of the two ahead of it, for which the way to the divisor is the longest.
func TestGcdOfTheLongestWay(t *testing.T) {
	a, b := big.NewInt(1), big.NewInt(1)
	for {
		next := new(big.Int).Add(a, b)
		if !fits(next) {
			break
		}
		a, b = b, next
		if w, e := divide.Gcd(wideOf(a), wideOf(b)); w != one || e != api.OK {
			t.Errorf("Gcd(%v, %v): %v, %d", a, b, w, e)
		}
		if x, want := of(divide.Fraction(wideOf(b), wideOf(a))), (answer{wideOf(b), wideOf(a), api.OK}); x != want {
			t.Errorf("Fraction(%v, %v): %v", b, a, x)
		}
	}
}

// P3.2: common divisors, the chapter's example and the one that has no room among them, written out.
func TestGcdWrittenOut(t *testing.T) {
	for _, x := range []struct {
		a, b, g api.Wide
		e       api.Errno
	}{
		{none, none, none, api.OK},
		{none, wide.Of(5), wide.Of(5), api.OK},
		{wide.Of(5), none, wide.Of(5), api.OK},
		{none, wide.Of(-5), wide.Of(5), api.OK},
		{wide.Of(-5), none, wide.Of(5), api.OK},
		{wide.Of(-12), wide.Of(18), wide.Of(6), api.OK},
		{wide.Of(12), wide.Of(-18), wide.Of(6), api.OK},
		{wide.Of(-12), wide.Of(-18), wide.Of(6), api.OK},
		{wide.Of(12), wide.Of(18), wide.Of(6), api.OK},
		{wide.Of(35), wide.Of(64), one, api.OK},
		{one, first, one, api.OK},
		{less, first, one, api.OK},
		{less, less, one, api.OK},
		{first, last, one, api.OK},
		{wide.Of(least), none, api.Wide{Hi: 0, Lo: 1 << 63}, api.OK},
		{wide.Of(least), wide.Of(least), api.Wide{Hi: 0, Lo: 1 << 63}, api.OK},
		{first, wide.Of(least), api.Wide{Hi: 0, Lo: 1 << 63}, api.OK},
		{last, last, last, api.OK},
		{last, none, last, api.OK},
		{none, last, last, api.OK},
		{api.Wide{Hi: least, Lo: 1}, none, last, api.OK},
		{api.Wide{Hi: least, Lo: 1}, last, last, api.OK},
		{first, api.Wide{Hi: 1 << 62, Lo: 0}, api.Wide{Hi: 1 << 62, Lo: 0}, api.OK},
		{first, api.Wide{Hi: -1 << 62, Lo: 0}, api.Wide{Hi: 1 << 62, Lo: 0}, api.OK},
		{first, first, none, api.ErrOver},
		{first, none, none, api.ErrOver},
		{none, first, none, api.ErrOver},
	} {
		if w, e := divide.Gcd(x.a, x.b); w != x.g || e != x.e {
			t.Errorf("Gcd(%v, %v): %v, %d; must be %v, %d", x.a, x.b, w, e, x.g, x.e)
		}
	}
}

// P3.2, against numbers without bounds.
func TestFractionIsPrecise(t *testing.T) {
	pairs(func(n, d api.Wide) {
		want := answer{e: api.ErrZero}
		if d != none {
			g := common(n, d)
			if d.Hi < 0 {
				g.Neg(g)
			}
			want = fit(new(big.Int).Quo(whole(n), g), new(big.Int).Quo(whole(d), g))
		}
		if x := of(divide.Fraction(n, d)); x != want {
			t.Errorf("Fraction(%v, %v): %v; must be %v", n, d, x, want)
		}
	})
}

// P3.2: fractions, the chapter's example and those that have no room above or below among them, written out.
func TestFractionWrittenOut(t *testing.T) {
	two, half := wide.Of(2), api.Wide{Hi: 1 << 62, Lo: 0}
	minusHalf, minusLast := api.Wide{Hi: -1 << 62, Lo: 0}, api.Wide{Hi: least, Lo: 1}
	for _, x := range []struct {
		n, d api.Wide
		want answer
	}{
		{wide.Of(6), wide.Of(-4), answer{wide.Of(-3), two, api.OK}},
		{wide.Of(6), wide.Of(4), answer{wide.Of(3), two, api.OK}},
		{wide.Of(-6), wide.Of(4), answer{wide.Of(-3), two, api.OK}},
		{wide.Of(-6), wide.Of(-4), answer{wide.Of(3), two, api.OK}},
		{wide.Of(7), wide.Of(5), answer{wide.Of(7), wide.Of(5), api.OK}},
		{wide.Of(6), wide.Of(3), answer{two, one, api.OK}},
		{wide.Of(3), wide.Of(6), answer{one, two, api.OK}},
		{none, wide.Of(7), answer{none, one, api.OK}},
		{none, wide.Of(-7), answer{none, one, api.OK}},
		{none, last, answer{none, one, api.OK}},
		{none, first, answer{none, one, api.OK}},
		{last, last, answer{one, one, api.OK}},
		{last, minusLast, answer{less, one, api.OK}},
		{first, first, answer{one, one, api.OK}},
		{last, less, answer{minusLast, one, api.OK}},
		{minusLast, less, answer{last, one, api.OK}},
		{first, one, answer{first, one, api.OK}},
		{first, last, answer{first, last, api.OK}},
		{first, two, answer{minusHalf, one, api.OK}},
		{first, wide.Of(-2), answer{half, one, api.OK}},
		{first, half, answer{wide.Of(-2), one, api.OK}},
		{half, first, answer{less, two, api.OK}},
		{minusHalf, first, answer{one, two, api.OK}},
		{two, first, answer{less, half, api.OK}},
		{wide.Of(-2), first, answer{one, half, api.OK}},
		{one, minusLast, answer{less, last, api.OK}},
		// No room above.
		{first, less, answer{e: api.ErrOver}},
		{first, wide.Of(-3), answer{e: api.ErrOver}},
		{first, minusLast, answer{e: api.ErrOver}},
		// No room below.
		{one, first, answer{e: api.ErrOver}},
		{less, first, answer{e: api.ErrOver}},
		{last, first, answer{e: api.ErrOver}},
		{wide.Of(3), first, answer{e: api.ErrOver}},
		// Nothing below.
		{none, none, answer{e: api.ErrZero}},
		{one, none, answer{e: api.ErrZero}},
		{less, none, answer{e: api.ErrZero}},
		{first, none, answer{e: api.ErrZero}},
		{last, none, answer{e: api.ErrZero}},
	} {
		if y := of(divide.Fraction(x.n, x.d)); y != x.want {
			t.Errorf("Fraction(%v, %v): %v; must be %v", x.n, x.d, y, x.want)
		}
	}
}

// P3.3: a quotient's product and its rest make the number; the rest is nearer to 0 than the divisor, with its sign, or with the number's.
func TestProductAndRestMakeTheNumber(t *testing.T) {
	pairs(func(a, b api.Wide) {
		for _, x := range []struct {
			name string
			do   func(a, b api.Wide) (api.Wide, api.Wide, api.Errno)
			sign int
		}{{"Floor", divide.Floor, wide.Sign(b)}, {"Trunc", divide.Trunc, wide.Sign(a)}} {
			q, r, e := x.do(a, b)
			if e != api.OK {
				continue
			}
			n := new(big.Int).Mul(whole(q), whole(b))
			if n.Add(n, whole(r)).Cmp(whole(a)) != 0 {
				t.Errorf("%s(%v, %v): %v, %v, which make %v", x.name, a, b, q, r, n)
			}
			if whole(r).CmpAbs(whole(b)) >= 0 {
				t.Errorf("%s(%v, %v): %v is not nearer to 0", x.name, a, b, r)
			}
			if s := wide.Sign(r); s != 0 && s != x.sign {
				t.Errorf("%s(%v, %v): %v has the other sign", x.name, a, b, r)
			}
		}
	})
}

// P3.3 of By, by the layers' own calls.
func TestByTimesMakesTheNumber(t *testing.T) {
	for _, a := range sample.Spread(400) {
		// Numbers near the least one may have a product beyond it.
		a.Hi >>= 1
		for _, b := range sample.Bits(30) {
			n := int64(b>>1>>(b%63)) + 1
			q, r, e := divide.By(a, n)
			p, f := wide.Times(q, n)
			w, g := wide.Add(p, wide.Of(r))
			if e != api.OK || f != api.OK || g != api.OK || w != a || r < 0 || r >= n {
				t.Errorf("By(%v, %d): %v, %d, %d, which make %v", a, n, q, r, e, w)
			}
		}
	}
}

// P3.4: what is told by Fraction has no common divisor but 1, is the same fraction, and above 0 below.
func TestFractionsAreInLowestTerms(t *testing.T) {
	pairs(func(n, d api.Wide) {
		p, q, e := divide.Fraction(n, d)
		if e != api.OK {
			return
		}
		if g := common(p, q); g.Cmp(big.NewInt(1)) != 0 || wide.Sign(q) != 1 {
			t.Errorf("Fraction(%v, %v): %v, %v", n, d, p, q)
		}
		if g, e := divide.Gcd(p, q); g != one || e != api.OK {
			t.Errorf("Gcd(%v, %v): %v, %d", p, q, g, e)
		}
		x, y := new(big.Int).Mul(whole(p), whole(d)), new(big.Int).Mul(whole(q), whole(n))
		if x.Cmp(y) != 0 {
			t.Errorf("Fraction(%v, %v): %v, %v, which is another one", n, d, p, q)
		}
		if x := of(divide.Fraction(p, q)); x != (answer{p, q, api.OK}) {
			t.Errorf("Fraction(%v, %v) again: %v", p, q, x)
		}
	})
}
