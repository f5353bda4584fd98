package plain_test

import (
	"cmp"
	"math"
	"math/big"
	"testing"
	"time"

	"analemma/api"
	"analemma/civil"
	"analemma/clock"
	"analemma/plain"
	"analemma/sample"
	"analemma/wide"
)

const (
	least    = math.MinInt
	greatest = math.MaxInt
	day      = int64(24 * time.Hour)
	hour     = int64(time.Hour)
	minute   = int64(time.Minute)
	second   = int64(time.Second)
)

// The numbers of the first and the last right date-time, and both ends of the wide numbers.
const (
	firstNumber = "-8640000086399999999999"
	lastNumber  = "8640000086399999999999"
	bottom      = "-170141183460469231731687303715884105728"
	top         = "170141183460469231731687303715884105727"
)

var (
	none    = api.DateTime{}
	epoch   = at(1970, 1, 1, 0, 0, 0, 0)
	skipped = at(-271821, 4, 19, 0, 0, 0, 0) // the first midnight of all
	first   = at(-271821, 4, 19, 0, 0, 0, 1)
	last    = at(275760, 9, 13, 23, 59, 59, 999999999)
)

// at is a date-time by its fields.
func at(year, month, day, hour, minute, second, nano int) api.DateTime {
	return api.DateTime{
		Date: api.Date{Year: year, Month: month, Day: day},
		Time: api.Time{Hour: hour, Minute: minute, Second: second, Nano: nano},
	}
}

// whole is a number that is written in a test as text.
func whole(s string) *big.Int {
	n, ok := new(big.Int).SetString(s, 10)
	if !ok {
		panic(s)
	}
	return n
}

// narrow is the wide number n.
func narrow(n *big.Int) api.Wide {
	w, e := wide.Parse(n.String())
	if e != api.OK {
		panic(n.String())
	}
	return w
}

// wideOf is a wide number that is written in a test as text.
func wideOf(s string) api.Wide { return narrow(whole(s)) }

// plus is a number and so much more.
func plus(n *big.Int, more int64) *big.Int { return new(big.Int).Add(n, big.NewInt(more)) }

// counted tells whether a number is a right date-time's.
func counted(n *big.Int) bool {
	return n.Cmp(whole(firstNumber)) >= 0 && n.Cmp(whole(lastNumber)) <= 0
}

// of is the date-time of a number, by the language's own calendar.
func of(n *big.Int) api.DateTime {
	seconds, nanos := new(big.Int).DivMod(n, big.NewInt(second), new(big.Int))
	t := time.Unix(seconds.Int64(), nanos.Int64()).UTC()
	return at(t.Year(), int(t.Month()), t.Day(), t.Hour(), t.Minute(), t.Second(), t.Nanosecond())
}

// instant is a date-time by the language's own calendar, which makes others of fields that may not be.
func instant(x api.DateTime) time.Time {
	d, t := x.Date, x.Time
	return time.Date(d.Year, time.Month(d.Month), d.Day, t.Hour, t.Minute, t.Second, t.Nano, time.UTC)
}

// number is a right date-time's number, by the language's own calendar.
func number(x api.DateTime) *big.Int {
	t := instant(x)
	n := new(big.Int).Mul(big.NewInt(t.Unix()), big.NewInt(second))
	return plus(n, int64(t.Nanosecond()))
}

// right tells whether a date-time is right: the language's own calendar leaves its fields as they are, and it lies between both ends.
func right(x api.DateTime) bool {
	// Years of other sizes go round there.
	if x.Date.Year < -300000 || x.Date.Year > 300000 {
		return false
	}
	n := number(x)
	return of(n) == x && counted(n)
}

// dates are dates whose fields lie within and beyond their bounds, those of the first and the last day among them.
func dates() []api.Date {
	var l []api.Date
	for _, y := range []int{least, -271822, -271821, -271820, -1, 0, 1, 1900, 1969, 1970, 1972, 2021, 275759, 275760, 275761, 1<<32 + 1970, greatest} {
		for _, m := range []int{least, -1, 0, 1, 2, 3, 4, 5, 9, 12, 13, 1<<32 + 1, greatest} {
			for _, d := range []int{least, -1, 0, 1, 12, 13, 14, 18, 19, 20, 28, 29, 30, 31, 32, 1<<32 + 1, greatest} {
				l = append(l, api.Date{Year: y, Month: m, Day: d})
			}
		}
	}
	return l
}

// times are times of which each field lies within and beyond its bounds.
func times() []api.Time {
	l := []api.Time{{}, {Nano: 1}, {Nano: 999999999}, {Hour: 1, Minute: 2, Second: 3, Nano: 4}, {Hour: 23, Minute: 59, Second: 59, Nano: 999999999}}
	for _, n := range []int{least, -1, 1, 23, 24, 59, 60, 999999999, 1000000000, 1<<32 + 1, greatest} {
		l = append(l, api.Time{Hour: n}, api.Time{Minute: n}, api.Time{Second: n}, api.Time{Nano: n}, api.Time{Hour: n, Minute: n, Second: n, Nano: n})
	}
	// Their fields together, each in its unit, make numbers of right times.
	return append(l, api.Time{Hour: 1, Minute: -1}, api.Time{Hour: 24, Nano: -1}, api.Time{Second: 1, Nano: -1})
}

// wrong are date-times that aren't right: by one field of the date or of the time, by both, or because they lie beyond the ends.
func wrong() []api.DateTime {
	l := []api.DateTime{none, skipped, at(-271821, 4, 18, 23, 59, 59, 999999999), at(275760, 9, 14, 0, 0, 0, 0)}
	for i, d := range dates() {
		for j, t := range times() {
			x := api.DateTime{Date: d, Time: t}
			if (i+j)%23 == 0 && !right(x) {
				l = append(l, x)
			}
		}
	}
	for _, x := range []api.DateTime{first, epoch, at(2021, 3, 14, 1, 2, 3, 4), last} {
		for _, n := range []int{least, -1, 60, 1000000000, greatest} {
			for i := range 7 {
				fields := split(x)
				fields[i] = n
				if y := joined(fields); !right(y) {
					l = append(l, y)
				}
			}
		}
	}
	return l
}

// split is a date-time's fields.
func split(x api.DateTime) [7]int {
	return [7]int{x.Date.Year, x.Date.Month, x.Date.Day, x.Time.Hour, x.Time.Minute, x.Time.Second, x.Time.Nano}
}

// joined is the date-time with such fields.
func joined(l [7]int) api.DateTime { return at(l[0], l[1], l[2], l[3], l[4], l[5], l[6]) }

// numbers are numbers of right date-times: those at both ends, about midnights of all sorts, and some from everywhere.
func numbers() []*big.Int {
	l := []*big.Int{
		whole(firstNumber), plus(whole(firstNumber), 1), plus(whole(firstNumber), second), plus(whole(firstNumber), day-2), plus(whole(firstNumber), day-1), plus(whole(firstNumber), day),
		whole(lastNumber), plus(whole(lastNumber), -1), plus(whole(lastNumber), -second), plus(whole(lastNumber), 1-day), plus(whole(lastNumber), -day),
	}
	for _, n := range []int64{-99999744, -719529, -719528, -719469, -366, -2, -1, 0, 1, 2, 365, 789, 790, 11016, 11017, 18700, 99999999} {
		midnight := number(at(1970, 1, 1+int(n), 0, 0, 0, 0))
		for _, rest := range []int64{-hour, -1, 0, 1, second - 1, minute, day / 2, day - second, day - 1} {
			l = append(l, plus(midnight, rest))
		}
	}
	b := sample.Bits(120)
	for i := 0; i < len(b); i += 2 {
		n := big.NewInt(int64(b[i]%200000000) - 100000000)
		l = append(l, plus(n.Mul(n, big.NewInt(day)), int64(b[i+1]%uint64(day))))
	}
	return l
}

// beyond are numbers that no right date-time has, those among them that would go round to right ones in fewer bits.
func beyond() []*big.Int {
	l := []*big.Int{whole(bottom), plus(whole(bottom), 1), whole(top), plus(whole(top), -1)}
	for _, more := range []int64{1, 2, second, day - 1, day, day + 1, math.MaxInt64} {
		l = append(l, plus(whole(lastNumber), more), plus(whole(firstNumber), -more))
	}
	for _, w := range append(sample.Edges(), sample.Spread(300)...) {
		l = append(l, whole(wide.Text(w)))
	}
	for _, bit := range []uint{73, 74, 96, 112, 126} {
		far := new(big.Int).Lsh(big.NewInt(1), bit)
		for _, n := range numbers() {
			l = append(l, new(big.Int).Add(n, far), new(big.Int).Sub(n, far))
		}
	}
	// Days that go round in 32 bits, and in 64.
	for _, days := range []string{"4294967296", "-4294967296", "18446744073709551616", "-18446744073709551616"} {
		far := new(big.Int).Mul(whole(days), big.NewInt(day))
		for _, n := range numbers() {
			l = append(l, new(big.Int).Add(n, far))
		}
	}
	var out []*big.Int
	for _, n := range l {
		if !counted(n) {
			out = append(out, n)
		}
	}
	return out
}

// P7.1: Right and Nanos of all fields, right or not.
func TestRightAndNanos(t *testing.T) {
	for _, d := range dates() {
		for _, u := range times() {
			x := api.DateTime{Date: d, Time: u}
			want := right(x)
			if plain.Right(x) != want {
				t.Fatalf("Right(%v): %v", x, !want)
			}
			w, ok := plain.Nanos(x)
			switch {
			case ok != want, !ok && w != api.Wide{}:
				t.Fatalf("Nanos(%v): %v, %v", x, w, ok)
			case ok && w != narrow(number(x)):
				t.Fatalf("Nanos(%v): %s; must be %v", x, wide.Text(w), number(x))
			}
		}
	}
}

// P7.1: date-times that aren't right.
func TestWrongDateTimes(t *testing.T) {
	for _, x := range wrong() {
		if plain.Right(x) {
			t.Fatalf("Right(%v): true", x)
		}
		if w, ok := plain.Nanos(x); w != (api.Wide{}) || ok {
			t.Fatalf("Nanos(%v): %v, %v", x, w, ok)
		}
	}
}

// P7.1, against the language's own calendar.
func TestNumbersAndDateTimes(t *testing.T) {
	for _, n := range numbers() {
		w, want := narrow(n), of(n)
		if x, ok := plain.Of(w); x != want || !ok {
			t.Fatalf("Of(%v): %v, %v; must be %v", n, x, ok, want)
		}
		if v, ok := plain.Nanos(want); v != w || !ok {
			t.Fatalf("Nanos(%v): %s, %v; must be %v", want, wide.Text(v), ok, n)
		}
		if !plain.Right(want) {
			t.Fatalf("Right(%v): false", want)
		}
	}
}

// P7.1: numbers that no date-time has.
func TestWrongNumbers(t *testing.T) {
	for _, n := range beyond() {
		if x, ok := plain.Of(narrow(n)); x != none || ok {
			t.Fatalf("Of(%v): %v, %v", n, x, ok)
		}
	}
}

// P7.1, written out: both ends, and numbers below 0 that are whole days and that aren't.
func TestNumbersWrittenOut(t *testing.T) {
	for _, y := range []struct {
		x api.DateTime
		n string
	}{
		{first, firstNumber}, {at(-271821, 4, 19, 0, 0, 0, 2), "-8640000086399999999998"}, {at(-271821, 4, 19, 23, 59, 59, 999999999), "-8640000000000000000001"},
		{at(-271821, 4, 20, 0, 0, 0, 0), "-8640000000000000000000"}, {at(0, 1, 1, 0, 0, 0, 0), "-62167219200000000000"}, {at(-1, 12, 31, 23, 59, 59, 999999999), "-62167219200000000001"},
		{at(1969, 12, 30, 23, 59, 59, 999999999), "-86400000000001"}, {at(1969, 12, 31, 0, 0, 0, 0), "-86400000000000"}, {at(1969, 12, 31, 0, 0, 0, 1), "-86399999999999"},
		{at(1969, 12, 31, 12, 0, 0, 0), "-43200000000000"}, {at(1969, 12, 31, 23, 59, 59, 0), "-1000000000"}, {at(1969, 12, 31, 23, 59, 59, 999999999), "-1"},
		{epoch, "0"}, {at(1970, 1, 1, 0, 0, 0, 1), "1"}, {at(1970, 1, 1, 0, 0, 1, 0), "1000000000"}, {at(1970, 1, 1, 0, 1, 0, 0), "60000000000"}, {at(1970, 1, 1, 1, 0, 0, 0), "3600000000000"},
		{at(1970, 1, 1, 23, 59, 59, 999999999), "86399999999999"}, {at(1970, 1, 2, 0, 0, 0, 0), "86400000000000"}, {at(1970, 1, 2, 0, 0, 0, 1), "86400000000001"},
		{at(1970, 2, 1, 0, 0, 0, 0), "2678400000000000"}, {at(1971, 1, 1, 0, 0, 0, 0), "31536000000000000"}, {at(2000, 3, 1, 1, 2, 3, 4), "951872523000000004"},
		{at(2262, 4, 11, 23, 47, 16, 854775807), "9223372036854775807"}, {at(2262, 4, 11, 23, 47, 16, 854775808), "9223372036854775808"},
		{at(1677, 9, 21, 0, 12, 43, 145224192), "-9223372036854775808"}, {at(1677, 9, 21, 0, 12, 43, 145224191), "-9223372036854775809"},
		{at(275760, 9, 13, 0, 0, 0, 0), "8640000000000000000000"}, {at(275760, 9, 12, 23, 59, 59, 999999999), "8639999999999999999999"}, {last, lastNumber},
	} {
		if w, ok := plain.Nanos(y.x); w != wideOf(y.n) || !ok {
			t.Errorf("Nanos(%v): %s, %v; must be %s", y.x, wide.Text(w), ok, y.n)
		}
		if x, ok := plain.Of(wideOf(y.n)); x != y.x || !ok {
			t.Errorf("Of(%s): %v, %v; must be %v", y.n, x, ok, y.x)
		}
	}
	for _, n := range []string{"-8640000086400000000000", "-8640000086400000000001", "-8640000172800000000000", "8640000086400000000000", "8640000086400000000001", "8640000172800000000000", bottom, top} {
		if x, ok := plain.Of(wideOf(n)); x != none || ok {
			t.Errorf("Of(%s): %v, %v", n, x, ok)
		}
	}
}

// reached is what must be answered where the date-time with a number is asked for.
func reached(n *big.Int) (api.DateTime, api.Errno) {
	if !counted(n) {
		return none, api.ErrRange
	}
	return of(n), api.OK
}

// added tries Add with the date-time whose number is n.
func added(t *testing.T, n *big.Int, w api.Wide) {
	t.Helper()
	want, err := reached(new(big.Int).Add(n, whole(wide.Text(w))))
	if x, e := plain.Add(of(n), w); x != want || e != err {
		t.Fatalf("Add(%v, %s): %v, %d; must be %v, %d", of(n), wide.Text(w), x, e, want, err)
	}
}

// P7.2, against numbers without bounds: wide numbers of all sizes, those among them whose sums have no room in 128 bits.
func TestAdd(t *testing.T) {
	steps := append(sample.Edges(), sample.Spread(150)...)
	for _, n := range []int64{hour, day - 1, day, day + 1, 31 * day, 366 * day, 36525 * day, math.MaxInt64} {
		steps = append(steps, wide.Of(n), wide.Of(-n))
	}
	for _, n := range numbers() {
		for _, w := range append(steps, sample.Small(3)...) {
			added(t, n, w)
		}
	}
}

// P7.2: sums that land on all of these numbers, on those just beyond both ends, and on those that would go round to right ones.
func TestAddUpTo(t *testing.T) {
	targets := append(numbers(), beyond()...)
	for i, n := range numbers() {
		for j, to := range targets {
			far := new(big.Int).Sub(to, n)
			if far.Cmp(whole(bottom)) < 0 || far.Cmp(whole(top)) > 0 || j > 300 && (i+j)%9 != 0 {
				continue
			}
			added(t, n, narrow(far))
		}
	}
}

// P7.2, written out: no midnight, one and many, forward and back, and both ends.
func TestAddWrittenOut(t *testing.T) {
	noon := at(2021, 3, 14, 12, 0, 0, 0)
	for _, y := range []struct {
		x    api.DateTime
		w    string
		want api.DateTime
		e    api.Errno
	}{
		{noon, "0", noon, api.OK},
		{noon, "1", at(2021, 3, 14, 12, 0, 0, 1), api.OK},
		{noon, "-1", at(2021, 3, 14, 11, 59, 59, 999999999), api.OK},
		{noon, "43199999999999", at(2021, 3, 14, 23, 59, 59, 999999999), api.OK},
		{noon, "43200000000000", at(2021, 3, 15, 0, 0, 0, 0), api.OK},
		{noon, "-43200000000000", at(2021, 3, 14, 0, 0, 0, 0), api.OK},
		{noon, "-43200000000001", at(2021, 3, 13, 23, 59, 59, 999999999), api.OK},
		{noon, "86400000000000", at(2021, 3, 15, 12, 0, 0, 0), api.OK},
		{noon, "-86400000000000", at(2021, 3, 13, 12, 0, 0, 0), api.OK},
		{noon, "31536000000000001", at(2022, 3, 14, 12, 0, 0, 1), api.OK},
		{noon, "-31536000000000001", at(2020, 3, 14, 11, 59, 59, 999999999), api.OK},
		{at(2020, 2, 28, 23, 0, 0, 0), "7200000000000", at(2020, 2, 29, 1, 0, 0, 0), api.OK},
		{at(2021, 2, 28, 23, 0, 0, 0), "7200000000000", at(2021, 3, 1, 1, 0, 0, 0), api.OK},
		{at(2020, 12, 31, 23, 59, 59, 999999999), "1", at(2021, 1, 1, 0, 0, 0, 0), api.OK},
		{at(2021, 1, 1, 0, 0, 0, 0), "-1", at(2020, 12, 31, 23, 59, 59, 999999999), api.OK},
		{epoch, "-1", at(1969, 12, 31, 23, 59, 59, 999999999), api.OK},
		{at(1969, 12, 31, 23, 59, 59, 999999999), "1", epoch, api.OK},
		{epoch, firstNumber, first, api.OK},
		{epoch, "-8640000086400000000000", none, api.ErrRange},
		{epoch, lastNumber, last, api.OK},
		{epoch, "8640000086400000000000", none, api.ErrRange},
		{first, "0", first, api.OK},
		{first, "-1", none, api.ErrRange},
		{first, "-2", none, api.ErrRange},
		{first, "-86400000000001", none, api.ErrRange},
		{first, "86399999999999", at(-271821, 4, 20, 0, 0, 0, 0), api.OK},
		{at(-271821, 4, 20, 0, 0, 0, 0), "-86399999999999", first, api.OK},
		{at(-271821, 4, 20, 0, 0, 0, 0), "-86400000000000", none, api.ErrRange},
		{first, "17280000172799999999998", last, api.OK},
		{first, "17280000172799999999999", none, api.ErrRange},
		{last, "0", last, api.OK},
		{last, "1", none, api.ErrRange},
		{last, "-1", at(275760, 9, 13, 23, 59, 59, 999999998), api.OK},
		{last, "-17280000172799999999998", first, api.OK},
		{last, "-17280000172799999999999", none, api.ErrRange},
		{last, "-17280000172800000000000", none, api.ErrRange},
		{last, bottom, none, api.ErrRange},
		{last, top, none, api.ErrRange},
		{first, bottom, none, api.ErrRange},
		{first, top, none, api.ErrRange},
		{epoch, bottom, none, api.ErrRange},
		{epoch, top, none, api.ErrRange},
		{none, "0", none, api.ErrArg},
		{skipped, "1", none, api.ErrArg},
		{skipped, bottom, none, api.ErrArg},
		{at(2021, 2, 29, 0, 0, 0, 0), top, none, api.ErrArg},
		{at(2021, 2, 28, 24, 0, 0, 0), "1", none, api.ErrArg},
	} {
		if x, e := plain.Add(y.x, wideOf(y.w)); x != y.want || e != y.e {
			t.Errorf("Add(%v, %s): %v, %d; must be %v, %d", y.x, y.w, x, e, y.want, y.e)
		}
	}
}

// P7.2: a date-time that isn't right is told ahead of a sum that isn't, even where the sum would be right.
func TestAddToWrong(t *testing.T) {
	for _, x := range wrong() {
		for _, w := range []string{bottom, "-8640000086400000000000", "-86400000000000", "-1", "0", "1", "86400000000000", "8640000086400000000000", top} {
			if y, e := plain.Add(x, wideOf(w)); y != none || e != api.ErrArg {
				t.Fatalf("Add(%v, %s): %v, %d", x, w, y, e)
			}
		}
	}
}

// P7.2, against numbers without bounds: each with each, so both ways round, and with itself.
func TestSince(t *testing.T) {
	l := numbers()
	for _, a := range l {
		for _, b := range l {
			want := narrow(new(big.Int).Sub(b, a))
			if w, e := plain.Since(of(a), of(b)); w != want || e != api.OK {
				t.Fatalf("Since(%v, %v): %s, %d; must be %s", of(a), of(b), wide.Text(w), e, wide.Text(want))
			}
		}
	}
}

// P7.2, written out.
func TestSinceWrittenOut(t *testing.T) {
	for _, y := range []struct {
		a, b api.DateTime
		w    string
		e    api.Errno
	}{
		{epoch, epoch, "0", api.OK},
		{first, first, "0", api.OK},
		{last, last, "0", api.OK},
		{first, last, "17280000172799999999998", api.OK},
		{last, first, "-17280000172799999999998", api.OK},
		{epoch, first, firstNumber, api.OK},
		{epoch, last, lastNumber, api.OK},
		{at(2021, 3, 14, 23, 0, 0, 0), at(2021, 3, 15, 1, 0, 0, 0), "7200000000000", api.OK},
		{at(2021, 3, 15, 1, 0, 0, 0), at(2021, 3, 14, 23, 0, 0, 0), "-7200000000000", api.OK},
		{at(2020, 2, 28, 12, 0, 0, 0), at(2020, 3, 1, 11, 59, 59, 999999999), "172799999999999", api.OK},
		{at(1969, 12, 31, 23, 59, 59, 999999999), at(1970, 1, 1, 0, 0, 0, 1), "2", api.OK},
		{at(1969, 12, 31, 0, 0, 0, 0), at(1969, 12, 30, 0, 0, 0, 0), "-86400000000000", api.OK},
		{none, none, "0", api.ErrArg},
		{skipped, skipped, "0", api.ErrArg},
		{skipped, first, "0", api.ErrArg},
		{first, skipped, "0", api.ErrArg},
	} {
		if w, e := plain.Since(y.a, y.b); w != wideOf(y.w) || e != y.e {
			t.Errorf("Since(%v, %v): %s, %d; must be %s, %d", y.a, y.b, wide.Text(w), e, y.w, y.e)
		}
	}
}

// P7.2: the first one, the second one, or both aren't right.
func TestSinceRefuses(t *testing.T) {
	refused := func(a, b api.DateTime) {
		if w, e := plain.Since(a, b); w != (api.Wide{}) || e != api.ErrArg {
			t.Fatalf("Since(%v, %v): %v, %d", a, b, w, e)
		}
	}
	l := wrong()
	for i, x := range l {
		for _, y := range []api.DateTime{first, epoch, at(2021, 3, 14, 1, 2, 3, 4), last} {
			refused(x, y)
			refused(y, x)
		}
		refused(x, x)
		refused(x, l[i*7%len(l)])
	}
}

// rounded tries Round with the date-time whose number is n: its midnight is put to what layer 6 tells of its time.
func rounded(t *testing.T, n *big.Int, inc int64, mode int) {
	t.Helper()
	x := of(n)
	want, err := none, api.ErrArg
	if u, midnights, e := clock.Round(x.Time, inc, mode); e == api.OK {
		rest, _ := clock.Nanos(u)
		midnight := number(api.DateTime{Date: x.Date})
		want, err = reached(plus(midnight, midnights*day+rest))
	}
	if y, e := plain.Round(x, inc, mode); y != want || e != err {
		t.Fatalf("Round(%v, %d, %d): %v, %d; must be %v, %d", x, inc, mode, y, e, want, err)
	}
}

// P7.3: increments by which a day is divided, and others; all modes, and numbers that are none.
func TestRound(t *testing.T) {
	incs := []int64{
		1, 2, 1000, 1000000, second, 15 * second, minute, 15 * minute, 30 * minute, hour, 2 * hour, 8 * hour, 12 * hour, day,
		math.MinInt64, -day, -hour, -1, 0, 7, 7 * minute, hour + 1, 5 * hour, 13 * hour, day - 1, day + 1, 2 * day, math.MaxInt64,
	}
	for _, n := range numbers() {
		for _, inc := range incs {
			for mode := -1; mode <= 11; mode++ {
				rounded(t, n, inc, mode)
			}
			for _, mode := range []int{least, 256 + 1, 1<<32 + 1, greatest} {
				rounded(t, n, inc, mode)
			}
		}
	}
}

// P7.3, written out, by each mode in the order of their numbers (u: it becomes the upper one, l: the lower one; there may be none). A time is rounded by itself, so that it goes the same way ahead of 1970 as behind it.
func TestRoundByEachMode(t *testing.T) {
	for _, y := range []struct {
		x            api.DateTime
		inc          int64
		lower, upper api.DateTime
		modes        string
	}{
		{at(2021, 3, 14, 1, 30, 0, 0), hour, at(2021, 3, 14, 1, 0, 0, 0), at(2021, 3, 14, 2, 0, 0, 0), "ululululu"},
		{at(2021, 3, 14, 2, 30, 0, 0), hour, at(2021, 3, 14, 2, 0, 0, 0), at(2021, 3, 14, 3, 0, 0, 0), "ulululull"},
		{at(1969, 7, 20, 1, 30, 0, 0), hour, at(1969, 7, 20, 1, 0, 0, 0), at(1969, 7, 20, 2, 0, 0, 0), "ululululu"},
		{at(1969, 7, 20, 2, 30, 0, 0), hour, at(1969, 7, 20, 2, 0, 0, 0), at(1969, 7, 20, 3, 0, 0, 0), "ulululull"},
		{at(-4, 2, 29, 1, 29, 59, 999999999), hour, at(-4, 2, 29, 1, 0, 0, 0), at(-4, 2, 29, 2, 0, 0, 0), "ulullllll"},
		{at(-4, 2, 29, 1, 30, 0, 1), hour, at(-4, 2, 29, 1, 0, 0, 0), at(-4, 2, 29, 2, 0, 0, 0), "ululuuuuu"},
		{at(2020, 2, 28, 12, 0, 0, 0), day, at(2020, 2, 28, 0, 0, 0, 0), at(2020, 2, 29, 0, 0, 0, 0), "ulululull"},
		{at(2021, 2, 28, 12, 0, 0, 1), day, at(2021, 2, 28, 0, 0, 0, 0), at(2021, 3, 1, 0, 0, 0, 0), "ululuuuuu"},
		{at(1969, 12, 31, 12, 0, 0, 0), day, at(1969, 12, 31, 0, 0, 0, 0), epoch, "ulululull"},
		{at(2021, 12, 31, 23, 30, 0, 0), hour, at(2021, 12, 31, 23, 0, 0, 0), at(2022, 1, 1, 0, 0, 0, 0), "ululululu"},
		{at(2021, 12, 31, 23, 59, 59, 999999999), 1, at(2021, 12, 31, 23, 59, 59, 999999999), at(2021, 12, 31, 23, 59, 59, 999999999), "ululululu"},
		{at(2021, 12, 31, 0, 0, 0, 0), day, at(2021, 12, 31, 0, 0, 0, 0), at(2021, 12, 31, 0, 0, 0, 0), "ululululu"},
		{first, 1, first, first, "ululululu"},
		{last, 1, last, last, "ululululu"},
		{at(-271821, 4, 19, 12, 0, 0, 0), day, none, at(-271821, 4, 20, 0, 0, 0, 0), "ulululull"},
		{at(-271821, 4, 19, 0, 30, 0, 0), hour, none, at(-271821, 4, 19, 1, 0, 0, 0), "ulululull"},
		{at(-271821, 4, 19, 23, 30, 0, 0), hour, at(-271821, 4, 19, 23, 0, 0, 0), at(-271821, 4, 20, 0, 0, 0, 0), "ululululu"},
		{first, day, none, at(-271821, 4, 20, 0, 0, 0, 0), "ulullllll"},
		{first, 2, none, at(-271821, 4, 19, 0, 0, 0, 2), "ulululull"},
		{last, day, at(275760, 9, 13, 0, 0, 0, 0), none, "ululuuuuu"},
		{last, 2, at(275760, 9, 13, 23, 59, 59, 999999998), none, "ululululu"},
		{at(275760, 9, 13, 12, 0, 0, 0), day, at(275760, 9, 13, 0, 0, 0, 0), none, "ulululull"},
		{at(275760, 9, 13, 23, 30, 0, 0), hour, at(275760, 9, 13, 23, 0, 0, 0), none, "ululululu"},
		{at(275760, 9, 12, 23, 30, 0, 0), hour, at(275760, 9, 12, 23, 0, 0, 0), at(275760, 9, 13, 0, 0, 0, 0), "ululululu"},
	} {
		for i, way := range y.modes {
			want, err := y.lower, api.OK
			if way == 'u' {
				want = y.upper
			}
			if want == none {
				err = api.ErrRange
			}
			if x, e := plain.Round(y.x, y.inc, api.Ceil+i); x != want || e != err {
				t.Errorf("Round(%v, %d, %d): %v, %d; must be %v, %d", y.x, y.inc, api.Ceil+i, x, e, want, err)
			}
		}
	}
}

// P7.3, written out: what is refused, ahead of a date-time that there isn't.
func TestRoundRefusesWrittenOut(t *testing.T) {
	noon := at(2021, 3, 14, 12, 0, 0, 0)
	for _, y := range []struct {
		x    api.DateTime
		inc  int64
		mode int
	}{
		{noon, 0, api.Floor}, {noon, -1, api.Floor}, {noon, -hour, api.Floor}, {noon, -day, api.Ceil}, {noon, math.MinInt64, api.Ceil},
		{noon, 7, api.Floor}, {noon, 7 * hour, api.HalfEven}, {noon, day - 1, api.Floor}, {noon, day + 1, api.Floor}, {noon, 2 * day, api.Floor}, {noon, math.MaxInt64, api.Floor},
		{noon, hour, 0}, {noon, hour, -1}, {noon, hour, 10}, {noon, day, least}, {noon, day, greatest},
		{none, hour, api.Floor}, {skipped, hour, api.Floor}, {skipped, day, api.Ceil}, {skipped, 1, api.Ceil},
		{at(2021, 2, 29, 12, 0, 0, 0), hour, api.Floor}, {at(2021, 3, 14, 24, 0, 0, 0), day, api.Ceil}, {at(275760, 9, 14, 0, 0, 0, 0), day, api.Floor}, {at(-271821, 4, 18, 12, 0, 0, 0), day, api.Ceil},
		{last, day + 1, api.Ceil}, {last, day, 10}, {first, 7, api.Floor}, {first, day, 0},
	} {
		if x, e := plain.Round(y.x, y.inc, y.mode); x != none || e != api.ErrArg {
			t.Errorf("Round(%v, %d, %d): %v, %d", y.x, y.inc, y.mode, x, e)
		}
	}
}

// P7.3: date-times that aren't right, with whatever increment and mode.
func TestRoundWrong(t *testing.T) {
	for _, x := range wrong() {
		for _, inc := range []int64{-1, 0, 1, 7, hour, day, day + 1} {
			for mode := 0; mode <= 10; mode++ {
				if y, e := plain.Round(x, inc, mode); y != none || e != api.ErrArg {
					t.Fatalf("Round(%v, %d, %d): %v, %d", x, inc, mode, y, e)
				}
			}
		}
	}
}

// P7.3, of any date-times: each field in turn, those ahead of it alike, those behind it telling otherwise.
func TestCmp(t *testing.T) {
	l := []int{least, least + 1, -1, 0, 1, 12, 13, 23, 24, 31, 32, 59, 60, 1970, 999999999, 1000000000, greatest - 1, greatest}
	for field := range 7 {
		for _, a := range l {
			for _, b := range l {
				for _, c := range l {
					for _, d := range l {
						compared(t, field, a, b, c, d)
					}
				}
			}
		}
	}
}

// compared tries Cmp with two date-times: their fields ahead of one are c, that one is a and b, those behind it c and d.
func compared(t *testing.T, field, a, b, c, d int) {
	t.Helper()
	var l, m [7]int
	for i := range 7 {
		switch {
		case i < field:
			l[i], m[i] = c, c
		case i == field:
			l[i], m[i] = a, b
		case a != b:
			l[i], m[i] = c, d
		}
	}
	if k := plain.Cmp(joined(l), joined(m)); k != cmp.Compare(a, b) {
		t.Fatalf("Cmp(%v, %v): %d; must be %d", l, m, k, cmp.Compare(a, b))
	}
}

// P7.3, written out, those that aren't right among them.
func TestCmpWrittenOut(t *testing.T) {
	for _, y := range []struct {
		a, b api.DateTime
		want int
	}{
		{none, none, 0}, {epoch, epoch, 0}, {first, last, -1}, {last, first, 1}, {skipped, first, -1}, {first, skipped, 1}, {skipped, skipped, 0},
		{at(2021, 3, 14, 23, 59, 59, 999999999), at(2021, 3, 15, 0, 0, 0, 0), -1},
		{at(2021, 3, 15, 0, 0, 0, 0), at(2021, 3, 14, 23, 59, 59, 999999999), 1},
		{at(2021, 3, 14, 0, 0, 0, 0), at(2021, 3, 14, 0, 0, 0, 1), -1},
		{at(2021, 3, 14, 24, 0, 0, 0), at(2021, 3, 15, 0, 0, 0, 0), -1},
		{at(2021, 3, 14, 24, 0, 0, 0), at(2021, 3, 14, 23, 60, 0, 0), 1},
		{at(2021, 2, 30, 0, 0, 0, 0), at(2021, 3, 1, 0, 0, 0, 0), -1},
		{at(2021, 13, 1, 0, 0, 0, 0), at(2022, 1, 1, 0, 0, 0, 0), -1},
		{at(1969, 12, 31, 1, 0, 0, 0), at(1969, 12, 31, 2, 0, 0, 0), -1},
		{at(-2, 1, 1, 0, 0, 0, 0), at(-1, 1, 1, 0, 0, 0, 0), -1},
	} {
		if k := plain.Cmp(y.a, y.b); k != y.want {
			t.Errorf("Cmp(%v, %v): %d; must be %d", y.a, y.b, k, y.want)
		}
	}
}

// P7.4: who is later has the greater number.
func TestOrderOfNumbers(t *testing.T) {
	l := numbers()
	for _, a := range l {
		for _, b := range l {
			x, y := of(a), of(b)
			v, _ := plain.Nanos(x)
			w, _ := plain.Nanos(y)
			if k := plain.Cmp(x, y); k != wide.Cmp(v, w) || k != a.Cmp(b) {
				t.Fatalf("Cmp(%v, %v): %d; their numbers' %d", x, y, k, wide.Cmp(v, w))
			}
		}
	}
}

// P7.4: what was added is what lies between, and what lies between, added, is the other one.
func TestAddedLiesBetween(t *testing.T) {
	for i, n := range numbers() {
		x := of(n)
		for _, w := range append(sample.Spread(150), sample.Small(5)...) {
			y, e := plain.Add(x, w)
			if e != api.OK {
				continue
			}
			if v, e := plain.Since(x, y); v != w || e != api.OK {
				t.Fatalf("Add(%v, %s): %v; between them %s, %d", x, wide.Text(w), y, wide.Text(v), e)
			}
		}
		for _, m := range numbers()[i%3:] {
			y := of(m)
			w, _ := plain.Since(x, y)
			if z, e := plain.Add(x, w); z != y || e != api.OK {
				t.Fatalf("Add(%v, %s): %v, %d; must be %v", x, wide.Text(w), z, e, y)
			}
		}
	}
}

// P7.5: what is rounded lies less than an increment away, on the side that its mode tells, and is a multiple of it behind its own midnight.
func TestRoundedLiesNear(t *testing.T) {
	for _, n := range numbers() {
		x := of(n)
		for _, inc := range []int64{1, 2, 1000, second, minute, 15 * minute, hour, 8 * hour, day} {
			for mode := api.Ceil; mode <= api.HalfEven; mode++ {
				y, e := plain.Round(x, inc, mode)
				if e == api.ErrRange && (x.Date == first.Date || x.Date == last.Date) {
					continue
				}
				w, _ := plain.Since(x, y)
				far, ok := wide.Int(w)
				rest, _ := clock.Nanos(y.Time)
				upward, downward := mode == api.Ceil || mode == api.Expand, mode == api.Floor || mode == api.Trunc
				if e != api.OK || !ok || far <= -inc || far >= inc || rest%inc != 0 || upward && far < 0 || downward && far > 0 {
					t.Fatalf("Round(%v, %d, %d): %v, %d, %d away", x, inc, mode, y, e, far)
				}
				if !upward && !downward && (2*far > inc || 2*far < -inc) {
					t.Fatalf("Round(%v, %d, %d): %v, %d away", x, inc, mode, y, far)
				}
			}
		}
	}
}

// The words of a right date-time: both its parts are right, and it isn't the first midnight.
func TestRightByItsParts(t *testing.T) {
	for _, d := range dates() {
		for _, u := range times() {
			x := api.DateTime{Date: d, Time: u}
			if want := civil.Right(d) && clock.Right(u) && x != skipped; plain.Right(x) != want {
				t.Fatalf("Right(%v): %v", x, !want)
			}
		}
	}
}

// The chapter's examples.
func TestExamples(t *testing.T) {
	if w, ok := plain.Nanos(at(1970, 1, 2, 0, 0, 0, 1)); w != wide.Of(86400000000001) || !ok {
		t.Error(w, ok)
	}
	if x, ok := plain.Of(wide.Of(-1)); x != at(1969, 12, 31, 23, 59, 59, 999999999) || !ok {
		t.Error(x, ok)
	}
	if !plain.Right(at(-271821, 4, 19, 0, 0, 0, 1)) || plain.Right(at(-271821, 4, 19, 0, 0, 0, 0)) {
		t.Error("the first right one")
	}
}
