package check_test

import (
	"math"
	"math/big"
	"testing"

	"analemma/api"
	"analemma/check"
)

const (
	least    = math.MinInt64
	greatest = math.MaxInt64
)

// edges are the numbers at which something turns: the ends of 64, 32 and 31 bits, the roots of 2^63, halves, thirds and small ones.
func edges() []int64 {
	l := []int64{0}
	for _, n := range []int64{
		1, 2, 3, 4, 5, 7, 10, 16, 60, 86400, 1000000007,
		1<<31 - 1, 1 << 31, 1<<31 + 1, 1<<32 - 1, 1 << 32, 1<<32 + 1,
		3037000499, 3037000500, 2147483648 * 3,
		greatest / 3, greatest/3 + 1, 1<<62 - 1, 1 << 62, 1<<62 + 1, greatest - 1, greatest,
	} {
		l = append(l, n, -n)
	}
	return append(l, least)
}

// spread are numbers of all lengths, by a fixed rule, so that each run tests the same.
func spread(n int) []int64 {
	l := make([]int64, 0, n)
	x := uint64(1)
	for i := range n {
		x = x*6364136223846793005 + 1442695040888963407
		l = append(l, int64(x^x>>29)>>(i*7%64))
	}
	return l
}

// pairs goes through all pairs that the tests hold against numbers without bounds.
func pairs(do func(a, b int64)) {
	l := edges()
	for _, a := range l {
		for _, b := range l {
			do(a, b)
		}
	}
	for a := int64(-20); a <= 20; a++ {
		for b := int64(-20); b <= 20; b++ {
			do(a, b)
			do(least-min(a, 0), b)
			do(greatest-max(a, 0), b)
		}
	}
	s := spread(300)
	for _, a := range s {
		for _, b := range s {
			do(a, b)
		}
	}
}

// fit is what a call must answer whose true result is w.
func fit(w *big.Int) (int64, api.Errno) {
	if !w.IsInt64() {
		return 0, api.ErrOver
	}
	return w.Int64(), api.OK
}

func same(t *testing.T, name string, a, b, n int64, e api.Errno, w *big.Int) {
	t.Helper()
	if m, f := fit(w); n != m || e != f {
		t.Errorf("%s(%d, %d): %d, %d; must be %d, %d", name, a, b, n, e, m, f)
	}
}

// P1.1, against numbers without bounds.
func TestAddSubMulArePrecise(t *testing.T) {
	pairs(func(a, b int64) {
		x, y := big.NewInt(a), big.NewInt(b)
		n, e := check.Add(a, b)
		same(t, "Add", a, b, n, e, new(big.Int).Add(x, y))
		n, e = check.Sub(a, b)
		same(t, "Sub", a, b, n, e, new(big.Int).Sub(x, y))
		n, e = check.Mul(a, b)
		same(t, "Mul", a, b, n, e, new(big.Int).Mul(x, y))
	})
}

// P1.1, against numbers without bounds.
func TestNegAbsArePrecise(t *testing.T) {
	for _, a := range append(edges(), spread(1000)...) {
		x := big.NewInt(a)
		n, e := check.Neg(a)
		same(t, "Neg", a, 0, n, e, new(big.Int).Neg(x))
		n, e = check.Abs(a)
		same(t, "Abs", a, 0, n, e, new(big.Int).Abs(x))
	}
}

// P1.1: what the chapter names, and both sides of each bound, written out.
func TestSumsAndProductsWrittenOut(t *testing.T) {
	for _, x := range []struct {
		name string
		do   func(a, b int64) (int64, api.Errno)
		a, b int64
		n    int64
		e    api.Errno
	}{
		{"Add", check.Add, greatest, 1, 0, api.ErrOver},
		{"Add", check.Add, greatest - 1, 1, greatest, api.OK},
		{"Add", check.Add, greatest, greatest, 0, api.ErrOver},
		{"Add", check.Add, least, -1, 0, api.ErrOver},
		{"Add", check.Add, least + 1, -1, least, api.OK},
		{"Add", check.Add, least, least, 0, api.ErrOver},
		{"Add", check.Add, least, greatest, -1, api.OK},
		{"Add", check.Add, least, 0, least, api.OK},
		{"Add", check.Add, 0, least, least, api.OK},
		{"Add", check.Add, -3, 5, 2, api.OK},
		{"Sub", check.Sub, least, 1, 0, api.ErrOver},
		{"Sub", check.Sub, least + 1, 1, least, api.OK},
		{"Sub", check.Sub, greatest, -1, 0, api.ErrOver},
		{"Sub", check.Sub, 0, least, 0, api.ErrOver},
		{"Sub", check.Sub, -1, least, greatest, api.OK},
		{"Sub", check.Sub, least, least, 0, api.OK},
		{"Sub", check.Sub, least, 0, least, api.OK},
		{"Sub", check.Sub, 3, 5, -2, api.OK},
		{"Mul", check.Mul, least, -1, 0, api.ErrOver},
		{"Mul", check.Mul, -1, least, 0, api.ErrOver},
		{"Mul", check.Mul, least, 1, least, api.OK},
		{"Mul", check.Mul, 1, least, least, api.OK},
		{"Mul", check.Mul, least, 0, 0, api.OK},
		{"Mul", check.Mul, 0, least, 0, api.OK},
		{"Mul", check.Mul, least, least, 0, api.ErrOver},
		{"Mul", check.Mul, greatest, -1, -greatest, api.OK},
		{"Mul", check.Mul, -1 << 32, 1 << 31, least, api.OK},
		{"Mul", check.Mul, 1 << 32, 1 << 31, 0, api.ErrOver},
		{"Mul", check.Mul, 1 << 32, 1 << 32, 0, api.ErrOver},
		{"Mul", check.Mul, -6, 7, -42, api.OK},
	} {
		if n, e := x.do(x.a, x.b); n != x.n || e != x.e {
			t.Errorf("%s(%d, %d): %d, %d; must be %d, %d", x.name, x.a, x.b, n, e, x.n, x.e)
		}
	}
}

// P1.1: signs turned and taken off, written out.
func TestSignsWrittenOut(t *testing.T) {
	for _, x := range []struct {
		a, neg, abs int64
		e           api.Errno
	}{
		{0, 0, 0, api.OK},
		{9, -9, 9, api.OK},
		{-9, 9, 9, api.OK},
		{greatest, -greatest, greatest, api.OK},
		{least + 1, greatest, greatest, api.OK},
		{least, 0, 0, api.ErrOver},
	} {
		if n, e := check.Neg(x.a); n != x.neg || e != x.e {
			t.Errorf("Neg(%d): %d, %d", x.a, n, e)
		}
		if n, e := check.Abs(x.a); n != x.abs || e != x.e {
			t.Errorf("Abs(%d): %d, %d", x.a, n, e)
		}
	}
}

// floored is the greatest whole number that is at most x / y.
func floored(x, y *big.Int) *big.Int {
	q, m := new(big.Int).DivMod(x, y, new(big.Int))
	if y.Sign() < 0 && m.Sign() > 0 {
		q.Sub(q, big.NewInt(1))
	}
	return q
}

// P1.2, against numbers without bounds: a call's answer must be q and a - q b, or be refused.
func TestDivisionsArePrecise(t *testing.T) {
	pairs(func(a, b int64) {
		q, r, e := check.Div(a, b)
		p, s, f := check.Euclid(a, b)
		if b == 0 {
			if q != 0 || r != 0 || e != api.ErrZero || p != 0 || s != 0 || f != api.ErrZero {
				t.Error(a, b, q, r, e, p, s, f)
			}
			return
		}
		x, y := big.NewInt(a), big.NewInt(b)
		divided(t, "Div", a, b, q, r, e, floored(x, y))
		divided(t, "Euclid", a, b, p, s, f, new(big.Int).Div(x, y))
	})
}

// divided holds an answer against the true quotient w; the rest must be 0 beside an error.
func divided(t *testing.T, name string, a, b, q, r int64, e api.Errno, w *big.Int) {
	t.Helper()
	m, f := fit(w)
	rest := new(big.Int)
	if f == api.OK {
		rest.Sub(big.NewInt(a), rest.Mul(w, big.NewInt(b)))
	}
	if q != m || e != f || rest.Cmp(big.NewInt(r)) != 0 {
		t.Errorf("%s(%d, %d): %d, %d, %d; must be %d, %d, %d", name, a, b, q, r, e, m, rest, f)
	}
}

// P1.2: the chapter's examples, signs of every kind, and the edges, written out.
func TestDivisionsWrittenOut(t *testing.T) {
	for _, x := range []struct {
		a, b, q, r, p, s int64
		e                api.Errno
	}{
		{7, 2, 3, 1, 3, 1, api.OK},
		{-7, 2, -4, 1, -4, 1, api.OK},
		{7, -2, -4, -1, -3, 1, api.OK},
		{-7, -2, 3, -1, 4, 1, api.OK},
		{6, 3, 2, 0, 2, 0, api.OK},
		{-6, 3, -2, 0, -2, 0, api.OK},
		{6, -3, -2, 0, -2, 0, api.OK},
		{-6, -3, 2, 0, 2, 0, api.OK},
		{0, 5, 0, 0, 0, 0, api.OK},
		{0, -5, 0, 0, 0, 0, api.OK},
		{1, least, -1, least + 1, 0, 1, api.OK},
		{-1, least, 0, -1, 1, greatest, api.OK},
		{-1, greatest, -1, greatest - 1, -1, greatest - 1, api.OK},
		{greatest, least, -1, -1, 0, greatest, api.OK},
		{least, greatest, -2, greatest - 1, -2, greatest - 1, api.OK},
		{least, least, 1, 0, 1, 0, api.OK},
		{least, 1, least, 0, least, 0, api.OK},
		{greatest, -1, -greatest, 0, -greatest, 0, api.OK},
		{least + 1, -1, greatest, 0, greatest, 0, api.OK},
		{least, -2, 1 << 62, 0, 1 << 62, 0, api.OK},
		{least, 3, -3074457345618258603, 1, -3074457345618258603, 1, api.OK},
		{least, -3, 3074457345618258602, -2, 3074457345618258603, 1, api.OK},
		{least, -1, 0, 0, 0, 0, api.ErrOver},
		{1, 0, 0, 0, 0, 0, api.ErrZero},
		{0, 0, 0, 0, 0, 0, api.ErrZero},
		{-1, 0, 0, 0, 0, 0, api.ErrZero},
		{least, 0, 0, 0, 0, 0, api.ErrZero},
		{greatest, 0, 0, 0, 0, 0, api.ErrZero},
	} {
		if q, r, e := check.Div(x.a, x.b); q != x.q || r != x.r || e != x.e {
			t.Errorf("Div(%d, %d): %d, %d, %d", x.a, x.b, q, r, e)
		}
		if p, s, e := check.Euclid(x.a, x.b); p != x.p || s != x.s || e != x.e {
			t.Errorf("Euclid(%d, %d): %d, %d, %d", x.a, x.b, p, s, e)
		}
	}
}

// P1.3: what was added is taken away again.
func TestWhatWasAddedIsTakenAwayAgain(t *testing.T) {
	pairs(func(a, b int64) {
		s, e := check.Add(a, b)
		if e != api.OK {
			return
		}
		if n, e := check.Sub(s, b); n != a || e != api.OK {
			t.Errorf("Sub(Add(%d, %d), %d): %d, %d", a, b, b, n, e)
		}
		if n, e := check.Sub(s, a); n != b || e != api.OK {
			t.Errorf("Sub(Add(%d, %d), %d): %d, %d", a, b, a, n, e)
		}
	})
}

// P1.3: a quotient's product and its rest make the number. The product alone may need more than 64 bits.
func TestProductAndRestMakeTheNumber(t *testing.T) {
	whole := func(name string, a, b, q, r int64, e api.Errno) {
		if e != api.OK {
			return
		}
		n := new(big.Int).Mul(big.NewInt(q), big.NewInt(b))
		if n.Add(n, big.NewInt(r)).Cmp(big.NewInt(a)) != 0 {
			t.Errorf("%s(%d, %d): %d, %d make %d", name, a, b, q, r, n)
		}
	}
	pairs(func(a, b int64) {
		q, r, e := check.Div(a, b)
		whole("Div", a, b, q, r, e)
		q, r, e = check.Euclid(a, b)
		whole("Euclid", a, b, q, r, e)
	})
}

// P1.4, with the bounds that P1.2 sets to both rests.
func TestRestsHaveTheirSigns(t *testing.T) {
	pairs(func(a, b int64) {
		_, r, _ := check.Div(a, b)
		if r != 0 && ((r < 0) != (b < 0) || b > 0 && r >= b || b < 0 && r <= b) {
			t.Errorf("Div(%d, %d) has the rest %d", a, b, r)
		}
		_, s, e := check.Euclid(a, b)
		if s < 0 || e == api.OK && (b > 0 && s >= b || b < 0 && -s <= b) {
			t.Errorf("Euclid(%d, %d) has the rest %d", a, b, s)
		}
	})
}

// Only the least number by -1, and numbers by 0, may not be divided.
func TestRefusedDivisions(t *testing.T) {
	pairs(func(a, b int64) {
		want := api.OK
		if b == 0 {
			want = api.ErrZero
		} else if a == least && b == -1 {
			want = api.ErrOver
		}
		if _, _, e := check.Div(a, b); e != want {
			t.Errorf("Div(%d, %d): %d", a, b, e)
		}
		if _, _, e := check.Euclid(a, b); e != want {
			t.Errorf("Euclid(%d, %d): %d", a, b, e)
		}
	})
}
