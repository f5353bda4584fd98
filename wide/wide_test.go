package wide_test

import (
	"math"
	"math/big"
	"slices"
	"strings"
	"testing"

	"analemma/api"
	"analemma/sample"
	"analemma/wide"
)

const (
	least    = math.MinInt64
	greatest = math.MaxInt64
	full     = math.MaxUint64
)

var (
	first = api.Wide{Hi: least, Lo: 0}       // -2^127
	last  = api.Wide{Hi: greatest, Lo: full} // 2^127 - 1
)

// narrow are numbers of 64 bits at which something turns.
func narrow() []int64 {
	l := []int64{3, -3, 7, 60, -60, 1000000000, -1000000000, 86400000000000, -86400000000000, greatest / 10, least / 10}
	for _, n := range sample.Halves() {
		l = append(l, int64(n))
	}
	return l
}

// numbers are all numbers that calls of one wide number are tried with.
func numbers() []api.Wide { return append(sample.Edges(), sample.Spread(2000)...) }

// pairs goes through all pairs that calls of two wide numbers are tried with.
func pairs(do func(a, b api.Wide)) {
	for _, l := range [][]api.Wide{sample.Edges(), sample.Spread(200)} {
		for _, a := range l {
			for _, b := range l {
				do(a, b)
			}
		}
	}
}

// scales goes through all pairs that calls of a wide number and one of 64 bits are tried with.
func scales(do func(w api.Wide, n int64)) {
	for _, w := range append(sample.Edges(), sample.Spread(300)...) {
		for _, n := range narrow() {
			do(w, n)
		}
		for i, b := range sample.Bits(40) {
			do(w, int64(b)>>(i*7%64))
		}
	}
}

// whole is w as a number without bounds.
func whole(w api.Wide) *big.Int {
	n := new(big.Int).Lsh(big.NewInt(w.Hi), 64)
	return n.Add(n, new(big.Int).SetUint64(w.Lo))
}

// fit is what a call must answer whose true result is n.
func fit(n *big.Int) (api.Wide, api.Errno) {
	if n.Cmp(whole(first)) < 0 || n.Cmp(whole(last)) > 0 {
		return api.Wide{}, api.ErrOver
	}
	hi := new(big.Int).Rsh(n, 64)
	lo := new(big.Int).Sub(n, new(big.Int).Lsh(hi, 64))
	return api.Wide{Hi: hi.Int64(), Lo: lo.Uint64()}, api.OK
}

// same holds an answer against the true result.
func same(t *testing.T, w api.Wide, e api.Errno, n *big.Int, name string, of ...any) {
	t.Helper()
	if x, f := fit(n); w != x || e != f {
		t.Errorf("%s(%v): %v, %d; must be %v, %d", name, of, w, e, x, f)
	}
}

// P2.1, against numbers without bounds.
func TestOfAndIntAreEachOthersWayBack(t *testing.T) {
	l := narrow()
	for _, b := range sample.Bits(1000) {
		l = append(l, int64(b)>>(b%64))
	}
	for _, n := range l {
		w := wide.Of(n)
		if whole(w).Cmp(big.NewInt(n)) != 0 {
			t.Errorf("Of(%d): %v", n, w)
		}
		if m, ok := wide.Int(w); m != n || !ok {
			t.Errorf("Int(Of(%d)): %d, %t", n, m, ok)
		}
	}
	for _, w := range numbers() {
		n, ok := wide.Int(w)
		if x := whole(w); ok != x.IsInt64() || ok && n != x.Int64() || !ok && n != 0 {
			t.Errorf("Int(%v): %d, %t", w, n, ok)
		}
	}
}

// P2.1: both sides of each end of 64 bits, written out.
func TestIntWrittenOut(t *testing.T) {
	for _, x := range []struct {
		w  api.Wide
		n  int64
		ok bool
	}{
		{api.Wide{}, 0, true},
		{api.Wide{Hi: 0, Lo: 1}, 1, true},
		{api.Wide{Hi: -1, Lo: full}, -1, true},
		{api.Wide{Hi: 0, Lo: greatest}, greatest, true},
		{api.Wide{Hi: 0, Lo: greatest + 1}, 0, false},
		{api.Wide{Hi: 0, Lo: full}, 0, false},
		{api.Wide{Hi: -1, Lo: 1 << 63}, least, true},
		{api.Wide{Hi: -1, Lo: 1<<63 - 1}, 0, false},
		{api.Wide{Hi: -1, Lo: 0}, 0, false},
		{api.Wide{Hi: 1, Lo: 0}, 0, false},
		{api.Wide{Hi: 1, Lo: 5}, 0, false},
		{api.Wide{Hi: -2, Lo: full}, 0, false},
		{first, 0, false},
		{last, 0, false},
	} {
		if n, ok := wide.Int(x.w); n != x.n || ok != x.ok {
			t.Errorf("Int(%v): %d, %t; must be %d, %t", x.w, n, ok, x.n, x.ok)
		}
		if x.ok && wide.Of(x.n) != x.w {
			t.Errorf("Of(%d): %v; must be %v", x.n, wide.Of(x.n), x.w)
		}
	}
}

// P2.1, against numbers without bounds.
func TestCmpAndSignArePrecise(t *testing.T) {
	pairs(func(a, b api.Wide) {
		if c := wide.Cmp(a, b); c != whole(a).Cmp(whole(b)) {
			t.Errorf("Cmp(%v, %v): %d", a, b, c)
		}
	})
	for _, w := range numbers() {
		if s := wide.Sign(w); s != whole(w).Sign() {
			t.Errorf("Sign(%v): %d", w, s)
		}
	}
}

// P2.1: numbers in their order, written out.
func TestOrderWrittenOut(t *testing.T) {
	l := []api.Wide{
		first, {Hi: least, Lo: 1}, {Hi: least, Lo: full}, {Hi: -2, Lo: full}, {Hi: -1, Lo: 0}, {Hi: -1, Lo: 1 << 63}, {Hi: -1, Lo: full},
		{}, {Hi: 0, Lo: 1}, {Hi: 0, Lo: greatest}, {Hi: 0, Lo: 1 << 63}, {Hi: 0, Lo: full}, {Hi: 1, Lo: 0}, {Hi: 1, Lo: 1}, {Hi: greatest, Lo: 0}, last,
	}
	for i, a := range l {
		for j, b := range l {
			want := 0
			if i < j {
				want = -1
			} else if i > j {
				want = 1
			}
			if c := wide.Cmp(a, b); c != want {
				t.Errorf("Cmp(%v, %v): %d; must be %d", a, b, c, want)
			}
		}
		want := 0
		if i < 7 {
			want = -1
		} else if i > 7 {
			want = 1
		}
		if s := wide.Sign(a); s != want {
			t.Errorf("Sign(%v): %d; must be %d", a, s, want)
		}
	}
}

// P2.2, against numbers without bounds.
func TestAddSubNegArePrecise(t *testing.T) {
	pairs(func(a, b api.Wide) {
		x, y := whole(a), whole(b)
		w, e := wide.Add(a, b)
		same(t, w, e, new(big.Int).Add(x, y), "Add", a, b)
		w, e = wide.Sub(a, b)
		same(t, w, e, new(big.Int).Sub(x, y), "Sub", a, b)
	})
	for _, a := range numbers() {
		w, e := wide.Neg(a)
		same(t, w, e, new(big.Int).Neg(whole(a)), "Neg", a)
	}
}

// P2.2, against numbers without bounds.
func TestProductsArePrecise(t *testing.T) {
	scales(func(a api.Wide, n int64) {
		w, e := wide.Times(a, n)
		same(t, w, e, new(big.Int).Mul(whole(a), big.NewInt(n)), "Times", a, n)
		same(t, wide.Mul(a.Hi, n), api.OK, new(big.Int).Mul(big.NewInt(a.Hi), big.NewInt(n)), "Mul", a.Hi, n)
		same(t, wide.Mul(n, int64(a.Lo)), api.OK, new(big.Int).Mul(big.NewInt(n), big.NewInt(int64(a.Lo))), "Mul", n, int64(a.Lo))
	})
}

// P2.2: products about both ends of 128 bits are refused just beyond them.
func TestProductsAboutTheEnds(t *testing.T) {
	for _, n := range append(narrow(), 5, 6, 8, -2, -4, -8, 1<<20, -1<<20) {
		if n == 0 {
			continue
		}
		for _, end := range []api.Wide{first, last} {
			q := new(big.Int).Quo(whole(end), big.NewInt(n))
			for d := int64(-2); d <= 2; d++ {
				a, e := fit(new(big.Int).Add(q, big.NewInt(d)))
				if e != api.OK {
					continue
				}
				w, e := wide.Times(a, n)
				same(t, w, e, new(big.Int).Mul(whole(a), big.NewInt(n)), "Times", a, n)
			}
		}
	}
}

// P2.2: what carries and borrows from half to half, and both sides of each end, written out.
func TestSumsAndDifferencesWrittenOut(t *testing.T) {
	type call = func(a, b api.Wide) (api.Wide, api.Errno)
	one, less := api.Wide{Hi: 0, Lo: 1}, api.Wide{Hi: -1, Lo: full}
	for _, x := range []struct {
		name    string
		do      call
		a, b, w api.Wide
		e       api.Errno
	}{
		{"Add", wide.Add, api.Wide{Hi: 0, Lo: 2}, api.Wide{Hi: 0, Lo: 3}, api.Wide{Hi: 0, Lo: 5}, api.OK},
		{"Add", wide.Add, api.Wide{Hi: 0, Lo: full}, one, api.Wide{Hi: 1, Lo: 0}, api.OK},
		{"Add", wide.Add, api.Wide{Hi: 5, Lo: full}, api.Wide{Hi: 6, Lo: full}, api.Wide{Hi: 12, Lo: full - 1}, api.OK},
		{"Add", wide.Add, less, one, api.Wide{}, api.OK},
		{"Add", wide.Add, one, less, api.Wide{}, api.OK},
		{"Add", wide.Add, less, less, api.Wide{Hi: -1, Lo: full - 1}, api.OK},
		{"Add", wide.Add, api.Wide{Hi: 1, Lo: 0}, less, api.Wide{Hi: 0, Lo: full}, api.OK},
		{"Add", wide.Add, last, one, api.Wide{}, api.ErrOver},
		{"Add", wide.Add, one, last, api.Wide{}, api.ErrOver},
		{"Add", wide.Add, api.Wide{Hi: greatest, Lo: full - 1}, one, last, api.OK},
		{"Add", wide.Add, last, last, api.Wide{}, api.ErrOver},
		{"Add", wide.Add, first, less, api.Wide{}, api.ErrOver},
		{"Add", wide.Add, api.Wide{Hi: least, Lo: 1}, less, first, api.OK},
		{"Add", wide.Add, first, first, api.Wide{}, api.ErrOver},
		{"Add", wide.Add, first, last, less, api.OK},
		{"Sub", wide.Sub, api.Wide{Hi: 1, Lo: 0}, one, api.Wide{Hi: 0, Lo: full}, api.OK},
		{"Sub", wide.Sub, api.Wide{}, one, less, api.OK},
		{"Sub", wide.Sub, less, api.Wide{Hi: 0, Lo: full}, api.Wide{Hi: -1, Lo: 0}, api.OK},
		{"Sub", wide.Sub, api.Wide{Hi: 7, Lo: 0}, api.Wide{Hi: 2, Lo: full}, api.Wide{Hi: 4, Lo: 1}, api.OK},
		{"Sub", wide.Sub, first, one, api.Wide{}, api.ErrOver},
		{"Sub", wide.Sub, api.Wide{Hi: least, Lo: 1}, one, first, api.OK},
		{"Sub", wide.Sub, last, less, api.Wide{}, api.ErrOver},
		{"Sub", wide.Sub, api.Wide{Hi: greatest, Lo: full - 1}, less, last, api.OK},
		{"Sub", wide.Sub, api.Wide{}, first, api.Wide{}, api.ErrOver},
		{"Sub", wide.Sub, less, first, last, api.OK},
		{"Sub", wide.Sub, first, first, api.Wide{}, api.OK},
		{"Sub", wide.Sub, last, last, api.Wide{}, api.OK},
		{"Sub", wide.Sub, first, last, api.Wide{}, api.ErrOver},
		{"Sub", wide.Sub, first, api.Wide{}, first, api.OK},
	} {
		if w, e := x.do(x.a, x.b); w != x.w || e != x.e {
			t.Errorf("%s(%v, %v): %v, %d; must be %v, %d", x.name, x.a, x.b, w, e, x.w, x.e)
		}
	}
}

// P2.2: signs turned, written out.
func TestNegWrittenOut(t *testing.T) {
	for _, x := range []struct {
		a, w api.Wide
		e    api.Errno
	}{
		{api.Wide{}, api.Wide{}, api.OK},
		{api.Wide{Hi: 0, Lo: 1}, api.Wide{Hi: -1, Lo: full}, api.OK},
		{api.Wide{Hi: -1, Lo: full}, api.Wide{Hi: 0, Lo: 1}, api.OK},
		{api.Wide{Hi: 1, Lo: 0}, api.Wide{Hi: -1, Lo: 0}, api.OK},
		{api.Wide{Hi: -1, Lo: 0}, api.Wide{Hi: 1, Lo: 0}, api.OK},
		{api.Wide{Hi: 3, Lo: full}, api.Wide{Hi: -4, Lo: 1}, api.OK},
		{last, api.Wide{Hi: least, Lo: 1}, api.OK},
		{api.Wide{Hi: least, Lo: 1}, last, api.OK},
		{first, api.Wide{}, api.ErrOver},
	} {
		if w, e := wide.Neg(x.a); w != x.w || e != x.e {
			t.Errorf("Neg(%v): %v, %d; must be %v, %d", x.a, w, e, x.w, x.e)
		}
	}
}

// P2.2: products, the chapter's example among them, written out.
func TestProductsWrittenOut(t *testing.T) {
	for _, x := range []struct {
		a, b int64
		w    api.Wide
	}{
		{least, least, api.Wide{Hi: 1 << 62, Lo: 0}},
		{least, greatest, api.Wide{Hi: -1 << 62, Lo: 1 << 63}},
		{greatest, least, api.Wide{Hi: -1 << 62, Lo: 1 << 63}},
		{greatest, greatest, api.Wide{Hi: 1<<62 - 1, Lo: 1}},
		{least, -1, api.Wide{Hi: 0, Lo: 1 << 63}},
		{-1, least, api.Wide{Hi: 0, Lo: 1 << 63}},
		{least, 1, api.Wide{Hi: -1, Lo: 1 << 63}},
		{least, 0, api.Wide{}},
		{0, least, api.Wide{}},
		{1 << 32, 1 << 32, api.Wide{Hi: 1, Lo: 0}},
		{-1 << 32, 1 << 32, api.Wide{Hi: -1, Lo: 0}},
		{-6, 7, api.Wide{Hi: -1, Lo: full - 41}},
		{-6, -7, api.Wide{Hi: 0, Lo: 42}},
	} {
		if w := wide.Mul(x.a, x.b); w != x.w {
			t.Errorf("Mul(%d, %d): %v; must be %v", x.a, x.b, w, x.w)
		}
	}
	for _, x := range []struct {
		a api.Wide
		n int64
		w api.Wide
		e api.Errno
	}{
		{api.Wide{Hi: 0, Lo: full}, 2, api.Wide{Hi: 1, Lo: full - 1}, api.OK},
		{api.Wide{Hi: 0, Lo: full}, -2, api.Wide{Hi: -2, Lo: 2}, api.OK},
		{api.Wide{Hi: -1, Lo: full}, least, api.Wide{Hi: 0, Lo: 1 << 63}, api.OK},
		{api.Wide{Hi: 2, Lo: 1 << 63}, -4, api.Wide{Hi: -10, Lo: 0}, api.OK},
		{last, 1, last, api.OK},
		{last, -1, api.Wide{Hi: least, Lo: 1}, api.OK},
		{last, 0, api.Wide{}, api.OK},
		{last, 2, api.Wide{}, api.ErrOver},
		{last, greatest, api.Wide{}, api.ErrOver},
		{last, least, api.Wide{}, api.ErrOver},
		{first, 0, api.Wide{}, api.OK},
		{first, 1, first, api.OK},
		{first, -1, api.Wide{}, api.ErrOver},
		{first, 2, api.Wide{}, api.ErrOver},
		{first, greatest, api.Wide{}, api.ErrOver},
		{first, least, api.Wide{}, api.ErrOver},
		{api.Wide{Hi: 1, Lo: 0}, least, first, api.OK},
		{api.Wide{Hi: -1, Lo: 0}, least, api.Wide{}, api.ErrOver},
		{api.Wide{Hi: -1, Lo: 1}, least, api.Wide{Hi: greatest, Lo: 1 << 63}, api.OK},
		{api.Wide{Hi: 1 << 62, Lo: 0}, 2, api.Wide{}, api.ErrOver},
		{api.Wide{Hi: 1 << 62, Lo: 0}, -2, first, api.OK},
		{api.Wide{Hi: 1<<62 - 1, Lo: full}, 2, api.Wide{Hi: greatest, Lo: full - 1}, api.OK},
	} {
		if w, e := wide.Times(x.a, x.n); w != x.w || e != x.e {
			t.Errorf("Times(%v, %d): %v, %d; must be %v, %d", x.a, x.n, w, e, x.w, x.e)
		}
	}
}

// P2.2, against numbers without bounds: sums of none, of one, and of many.
func TestSumsArePrecise(t *testing.T) {
	for _, l := range [][]api.Wide{sample.Edges(), sample.Spread(700)} {
		for n := 0; n <= 12; n++ {
			for at := 0; at+n <= len(l); at++ {
				total(t, l[at:at+n])
			}
		}
		for n := 13; n <= len(l); n += 37 {
			total(t, l[:n])
			total(t, l[len(l)-n:])
		}
	}
}

// total holds a sum against one without bounds.
func total(t *testing.T, l []api.Wide) {
	t.Helper()
	n := new(big.Int)
	for _, w := range l {
		n.Add(n, whole(w))
	}
	w, e := wide.Sum(l...)
	same(t, w, e, n, "Sum", l)
}

// P2.2: sums of which some are too great, the chapter's example among them, written out.
func TestSumsWrittenOut(t *testing.T) {
	one, less := wide.Of(1), wide.Of(-1)
	for _, x := range []struct {
		l []api.Wide
		w api.Wide
		e api.Errno
	}{
		{nil, api.Wide{}, api.OK},
		{[]api.Wide{}, api.Wide{}, api.OK},
		{[]api.Wide{first}, first, api.OK},
		{[]api.Wide{last}, last, api.OK},
		{[]api.Wide{last, one, less}, last, api.OK},
		{[]api.Wide{less, one, last}, last, api.OK},
		{[]api.Wide{last, one}, api.Wide{}, api.ErrOver},
		{[]api.Wide{first, less}, api.Wide{}, api.ErrOver},
		{[]api.Wide{first, less, one}, first, api.OK},
		{[]api.Wide{first, first, last, last}, wide.Of(-2), api.OK},
		{[]api.Wide{first, first, last, last, one, one}, api.Wide{}, api.OK},
		{[]api.Wide{last, last, last, first, first, first}, wide.Of(-3), api.OK},
		{[]api.Wide{first, first}, api.Wide{}, api.ErrOver},
		{[]api.Wide{first, first, first, first}, api.Wide{}, api.ErrOver},
		{[]api.Wide{last, last, one, one}, api.Wide{}, api.ErrOver},
		{[]api.Wide{last, last, last, last, one, one, one, one}, api.Wide{}, api.ErrOver},
		{[]api.Wide{last, last, last, one, first, first}, api.Wide{Hi: greatest, Lo: full - 1}, api.OK},
		{[]api.Wide{{Hi: 0, Lo: full}, {Hi: 0, Lo: full}, {Hi: 0, Lo: full}}, api.Wide{Hi: 2, Lo: full - 2}, api.OK},
	} {
		if w, e := wide.Sum(x.l...); w != x.w || e != x.e {
			t.Errorf("Sum(%v): %v, %d; must be %v, %d", x.l, w, e, x.w, x.e)
		}
	}
}

// P2.2: a great many numbers whose sums leave 128 bits far behind, and come back.
func TestSumOfAGreatMany(t *testing.T) {
	const n = 100000
	for _, far := range []struct{ a, b, w api.Wide }{{last, first, wide.Of(-n)}, {first, last, wide.Of(-n)}} {
		l := append(slices.Repeat([]api.Wide{far.a}, n), slices.Repeat([]api.Wide{far.b}, n)...)
		if w, e := wide.Sum(l...); w != far.w || e != api.OK {
			t.Errorf("%v and %v, %d times: %v, %d", far.a, far.b, n, w, e)
		}
		if w, e := wide.Sum(l[:n]...); w != (api.Wide{}) || e != api.ErrOver {
			t.Errorf("%v, %d times: %v, %d", far.a, n, w, e)
		}
	}
}

// What is handed in is not changed, its spare room included.
func TestSumLeavesItsListAlone(t *testing.T) {
	l := sample.Spread(20)
	kept := slices.Clone(l)
	wide.Sum(l[:7]...)
	if !slices.Equal(l, kept) {
		t.Error("the list was changed")
	}
}

// P2.3, against numbers without bounds.
func TestTextIsReadAsItWas(t *testing.T) {
	for _, w := range numbers() {
		s := wide.Text(w)
		if s != whole(w).String() {
			t.Errorf("Text(%v): %q", w, s)
		}
		if x, e := wide.Parse(s); x != w || e != api.OK {
			t.Errorf("Parse(%q): %v, %d", s, x, e)
		}
	}
}

// P2.3: the numbers about each power of 10, where the count of digits turns.
func TestTextsAboutPowersOfTen(t *testing.T) {
	for n := range 39 {
		nines := strings.Repeat("9", n)
		for _, s := range []string{"1" + strings.Repeat("0", n), nines} {
			for _, sign := range []string{"", "-"} {
				if s == "" {
					continue
				}
				w, e := wide.Parse(sign + s)
				if b, _ := new(big.Int).SetString(sign+s, 10); whole(w).Cmp(b) != 0 || e != api.OK {
					t.Errorf("Parse(%q): %v, %d", sign+s, w, e)
				}
				if x := wide.Text(w); x != sign+s {
					t.Errorf("Text(%v): %q", w, x)
				}
			}
		}
	}
}

// P2.3: texts of numbers, the chapter's example and all ends among them, written out.
func TestTextsWrittenOut(t *testing.T) {
	for _, x := range []struct {
		w api.Wide
		s string
	}{
		{api.Wide{}, "0"},
		{api.Wide{Hi: -1, Lo: full}, "-1"},
		{api.Wide{Hi: 0, Lo: 7}, "7"},
		{api.Wide{Hi: 0, Lo: 10}, "10"},
		{api.Wide{Hi: 0, Lo: greatest}, "9223372036854775807"},
		{api.Wide{Hi: -1, Lo: 1 << 63}, "-9223372036854775808"},
		{api.Wide{Hi: 0, Lo: full}, "18446744073709551615"},
		{api.Wide{Hi: 1, Lo: 0}, "18446744073709551616"},
		{api.Wide{Hi: -1, Lo: 0}, "-18446744073709551616"},
		{api.Wide{Hi: -2, Lo: full}, "-18446744073709551617"},
		{last, "170141183460469231731687303715884105727"},
		{first, "-170141183460469231731687303715884105728"},
		{api.Wide{Hi: least, Lo: 1}, "-170141183460469231731687303715884105727"},
	} {
		if s := wide.Text(x.w); s != x.s {
			t.Errorf("Text(%v): %q; must be %q", x.w, s, x.s)
		}
		if w, e := wide.Parse(x.s); w != x.w || e != api.OK {
			t.Errorf("Parse(%q): %v, %d; must be %v", x.s, w, e, x.w)
		}
	}
}

// P2.3: texts that are no number's.
func TestTextsOfNoNumber(t *testing.T) {
	for _, s := range []string{
		"", "-", "+", "--", "-+", "+-1", "--1", "+1", "+0", "-0", "-00", "00", "007", "-007", "01",
		" ", " 1", "1 ", "1\n", "\n1", "\t1", "1 2", "-\x001", "- 1", "1-", "1-2", "12-",
		"a", "1a", "a1", "0x10", "1e3", "1.0", "1.", ".5", "1_000", "1,000", "1/2",
		"/", ":", "1/", "1:", ":1", "/1", "1/0", "-/", "-:", "0:", "\x00", "1\x00", "\x00\x31", "\xff", "1\xff2", "-\xff",
		"\u0661", "1\u0662", "\uff11", "\u22121", "\u00b2",
		"170141183460469231731687303715884105728",
		"-170141183460469231731687303715884105729",
		"170141183460469231731687303715884105730",
		"-170141183460469231731687303715884105730",
		"180000000000000000000000000000000000000",
		"-180000000000000000000000000000000000000",
		"999999999999999999999999999999999999999",
		"1701411834604692317316873037158841057270",
		"-1701411834604692317316873037158841057280",
		"1000000000000000000000000000000000000000",
		"340282366920938463463374607431768211455",
		"340282366920938463463374607431768211456",
		"340282366920938463463374607431768211463",
		"0170141183460469231731687303715884105727",
		"-0170141183460469231731687303715884105728",
		strings.Repeat("0", 1000), strings.Repeat("0", 1000) + "1", strings.Repeat("9", 100000), "-" + strings.Repeat("1", 1000),
	} {
		if w, e := wide.Parse(s); w != (api.Wide{}) || e != api.ErrForm {
			t.Errorf("Parse(%q): %v, %d", s, w, e)
		}
	}
}

// P2.3: of all texts of up to three bytes out of some, just those are read that are numbers' texts.
func TestShortTexts(t *testing.T) {
	some := []byte("0123459-+:/ a\x00\xff")
	var try func(s string)
	try = func(s string) {
		want := api.ErrForm
		n, ok := new(big.Int).SetString(s, 10)
		if ok && n.String() == s {
			want = api.OK
		} else {
			n = new(big.Int)
		}
		if w, e := wide.Parse(s); e != want || whole(w).Cmp(n) != 0 {
			t.Errorf("Parse(%q): %v, %d", s, w, e)
		}
		if len(s) < 3 {
			for _, c := range some {
				try(s + string([]byte{c}))
			}
		}
	}
	try("")
}

// P2.3: one byte of a number's text made another one.
func TestTextsWithOneByteMadeAnother(t *testing.T) {
	for _, s := range []string{"170141183460469231731687303715884105727", "-170141183460469231731687303715884105728", "-8", "18446744073709551616"} {
		for i := range len(s) {
			for c := range 256 {
				b := []byte(s)
				b[i] = byte(c)
				n, ok := new(big.Int).SetString(string(b), 10)
				ok = ok && n.String() == string(b)
				want, f := api.Wide{}, api.ErrForm
				if ok {
					want, f = fit(n)
				}
				if f != api.OK {
					f = api.ErrForm
				}
				if w, e := wide.Parse(string(b)); w != want || e != f {
					t.Errorf("Parse(%q): %v, %d; must be %v, %d", b, w, e, want, f)
				}
			}
		}
	}
}

// P2.4: what was added is taken away again.
func TestWhatWasAddedIsTakenAwayAgain(t *testing.T) {
	pairs(func(a, b api.Wide) {
		s, e := wide.Add(a, b)
		if e != api.OK {
			return
		}
		if w, e := wide.Sub(s, b); w != a || e != api.OK {
			t.Errorf("Sub(Add(%v, %v), %v): %v, %d", a, b, b, w, e)
		}
		if w, e := wide.Sub(s, a); w != b || e != api.OK {
			t.Errorf("Sub(Add(%v, %v), %v): %v, %d", a, b, a, w, e)
		}
	})
}

// P2.4: sums don't hang on their order.
func TestSumsDontHangOnTheirOrder(t *testing.T) {
	turns := func(l []api.Wide) {
		w, e := wide.Sum(l...)
		for range len(l) {
			l = append(slices.Clone(l[1:]), l[0])
			back := slices.Clone(l)
			slices.Reverse(back)
			for _, o := range [][]api.Wide{l, back} {
				if x, f := wide.Sum(o...); x != w || f != e {
					t.Errorf("Sum(%v): %v, %d; in another order %v, %d", o, x, f, w, e)
				}
			}
		}
	}
	some := []api.Wide{first, last, wide.Of(1), wide.Of(-1), {Hi: 0, Lo: full}, {Hi: -1, Lo: 0}}
	for i := range len(some) * len(some) * len(some) * len(some) {
		turns([]api.Wide{some[i%6], some[i/6%6], some[i/36%6], some[i/216]})
	}
	l := sample.Spread(400)
	for at := 0; at+9 <= len(l); at += 3 {
		turns(l[at : at+9])
	}
	pairs(func(a, b api.Wide) {
		w, e := wide.Add(a, b)
		if x, f := wide.Add(b, a); x != w || f != e {
			t.Errorf("Add(%v, %v): %v, %d; the other way about %v, %d", a, b, w, e, x, f)
		}
	})
}

// byHand divides a number's digits by n, not 0, one by one: the quotient's digits, without sign and noughts ahead, and whether nothing is left.
func byHand(digits string, n int64) (string, bool) {
	by := new(big.Int).Abs(big.NewInt(n))
	rest := new(big.Int)
	var l []byte
	for _, c := range []byte(digits) {
		rest.Mul(rest, big.NewInt(10))
		rest.Add(rest, big.NewInt(int64(c-'0')))
		digit, left := new(big.Int).QuoRem(rest, by, new(big.Int))
		rest = left
		l = append(l, '0'+byte(digit.Int64()))
	}
	s := strings.TrimLeft(string(l), "0")
	if s == "" {
		s = "0"
	}
	return s, rest.Sign() == 0
}

// P2.5: a product is divided by one of its numbers, digit by digit of its text.
func TestProductsAreDividedByHand(t *testing.T) {
	divided := func(name string, w, a api.Wide, n int64) {
		if n == 0 {
			return
		}
		text := wide.Text(w)
		digits, below := strings.CutPrefix(text, "-")
		q, all := byHand(digits, n)
		if q != "0" && below != (n < 0) {
			q = "-" + q
		}
		if !all || q != wide.Text(a) {
			t.Errorf("%s of %v and %d: %s, divided: %s", name, a, n, text, q)
		}
	}
	scales(func(a api.Wide, n int64) {
		if w, e := wide.Times(a, n); e == api.OK {
			divided("Times", w, a, n)
		}
		divided("Mul", wide.Mul(a.Hi, n), wide.Of(a.Hi), n)
		divided("Mul", wide.Mul(n, a.Hi), wide.Of(a.Hi), n)
	})
}

// Beside an error there is the zero number.
func TestRefusalsAreZero(t *testing.T) {
	pairs(func(a, b api.Wide) {
		for _, do := range []func(a, b api.Wide) (api.Wide, api.Errno){
			wide.Add, wide.Sub,
			func(a, b api.Wide) (api.Wide, api.Errno) { return wide.Times(a, b.Hi) },
			func(a, b api.Wide) (api.Wide, api.Errno) { return wide.Sum(a, b, a) },
		} {
			if w, e := do(a, b); e != api.OK && (e != api.ErrOver || w != api.Wide{}) {
				t.Errorf("%v and %v: %v, %d", a, b, w, e)
			}
		}
	})
}
