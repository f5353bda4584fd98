package clock_test

import (
	"cmp"
	"math"
	"math/big"
	"testing"
	"time"

	"analemma/api"
	"analemma/clock"
	"analemma/sample"
	"analemma/wide"
)

const (
	least    = math.MinInt
	greatest = math.MaxInt
	day      = int64(24 * time.Hour)
	hour     = int64(time.Hour)
	minute   = int64(time.Minute)
	second   = int64(time.Second)
	milli    = int64(time.Millisecond)
)

var (
	none     = api.Time{}
	midnight = api.Time{}
	last     = api.Time{Hour: 23, Minute: 59, Second: 59, Nano: 999999999}
	top      = api.Wide{Hi: math.MaxInt64, Lo: math.MaxUint64} // 2^127 - 1
	bottom   = api.Wide{Hi: math.MinInt64}                     // -2^127
)

// at is a time by its fields.
func at(hour, minute, second, nano int) api.Time {
	return api.Time{Hour: hour, Minute: minute, Second: second, Nano: nano}
}

// right tells whether a time is right, by the words.
func right(t api.Time) bool {
	return t.Hour >= 0 && t.Hour <= 23 && t.Minute >= 0 && t.Minute <= 59 && t.Second >= 0 && t.Second <= 59 && t.Nano >= 0 && t.Nano <= 999999999
}

// of is the time with a number from 0 to day - 1, by the language's own calendar.
func of(n int64) api.Time {
	t := time.Unix(0, n).UTC()
	return at(t.Hour(), t.Minute(), t.Second(), t.Nanosecond())
}

// number is a right time's number, by the language's own lengths.
func number(t api.Time) int64 {
	return int64(t.Hour)*hour + int64(t.Minute)*minute + int64(t.Second)*second + int64(t.Nano)
}

// around are numbers that a field is tried with which goes from 0 to most: its ends, what lies beyond them, what goes round to them, and the ends of all ints.
func around(most int) []int {
	return []int{
		least, least + 1, least + most, -1 << 32, -most - 1, -most, -2, -1, 0, 1, 2, most / 2, most - 1, most, most + 1, most + 2, 2 * most,
		1 << 32, 1<<32 + 1, 1<<32 + most, greatest - most, greatest - 1, greatest,
	}
}

// times goes through all times of such fields.
func times(do func(t api.Time)) {
	for _, h := range around(23) {
		for _, m := range around(59) {
			for _, s := range around(59) {
				for _, n := range around(999999999) {
					do(at(h, m, s, n))
				}
			}
		}
	}
}

// wrong are times that aren't right, each by one field or by all.
func wrong() []api.Time {
	l := []api.Time{at(24, 60, 60, 1000000000), at(-1, -1, -1, -1), at(least, least, least, least), at(greatest, greatest, greatest, greatest)}
	for _, most := range []int{23, 59, 999999999} {
		for _, n := range around(most) {
			for _, t := range []api.Time{at(n, 0, 0, 0), at(0, n, 0, 0), at(0, 0, n, 0), at(0, 0, 0, n), at(n, 59, 59, 999999999), at(23, n, 59, 999999999), at(23, 59, n, 999999999), at(23, 59, 59, n)} {
				if !right(t) {
					l = append(l, t)
				}
			}
		}
	}
	// Their fields together, each in its unit, make numbers of right times.
	return append(l, at(1, -1, 0, 0), at(0, 1, -1, 0), at(0, 0, 1, -1), at(0, 60, 0, 0), at(0, 0, 60, 0), at(0, 0, 0, 1000000000), at(24, -60, 0, 0), at(24, 0, 0, -1))
}

// numbers are numbers of right times: both ends, those about each hour, and some from everywhere.
func numbers() []int64 {
	l := []int64{0, 1, 2, 999999999, second, second + 1, minute - 1, minute, hour - 1, hour, day/2 - 1, day / 2, day/2 + 1, day - second, day - 2, day - 1}
	for h := int64(1); h < 24; h++ {
		l = append(l, h*hour-1, h*hour, h*hour+h*minute+h*second+h)
	}
	for _, b := range sample.Bits(60) {
		l = append(l, int64(b%uint64(day)))
	}
	return l
}

// modes are all modes, in the order of their numbers.
func modes() []int {
	return []int{api.Ceil, api.Floor, api.Expand, api.Trunc, api.HalfCeil, api.HalfFloor, api.HalfExpand, api.HalfTrunc, api.HalfEven}
}

// strangers are numbers that are no modes, and, but for 1 and 2, say nothing of fields.
func strangers() []int {
	return []int{0, -1, -2, -9, 10, 11, 256 + 1, 256 + 2, 1<<32 + 1, 1<<32 + 2, least, greatest}
}

// whole is w as a number without bounds.
func whole(w api.Wide) *big.Int {
	n := new(big.Int).Lsh(big.NewInt(w.Hi), 64)
	return n.Add(n, new(big.Int).SetUint64(w.Lo))
}

// text is a wide number that is written in a test as text.
func text(t *testing.T, s string) api.Wide {
	t.Helper()
	w, e := wide.Parse(s)
	if e != api.OK {
		t.Fatalf("%q: %d", s, e)
	}
	return w
}

// P6.1: Right and Nanos of all fields, right or not.
func TestRightAndNanos(t *testing.T) {
	times(func(x api.Time) {
		if clock.Right(x) != right(x) {
			t.Fatalf("Right(%v): %v", x, !right(x))
		}
		n, ok := clock.Nanos(x)
		switch {
		case ok != right(x), !ok && n != 0:
			t.Fatalf("Nanos(%v): %d, %v", x, n, ok)
		case ok && n != number(x):
			t.Fatalf("Nanos(%v): %d; must be %d", x, n, number(x))
		}
	})
}

// P6.1
func TestWrongTimes(t *testing.T) {
	for _, x := range wrong() {
		if clock.Right(x) {
			t.Fatalf("Right(%v): true", x)
		}
		if n, ok := clock.Nanos(x); n != 0 || ok {
			t.Fatalf("Nanos(%v): %d, %v", x, n, ok)
		}
	}
}

// P6.1: each second of the day, its first nanosecond and its last, and some from everywhere, against the language's own calendar.
func TestNumbersAndTimes(t *testing.T) {
	l := numbers()
	for s := int64(0); s < 86400; s++ {
		l = append(l, s*second, s*second+s, (s+1)*second-1)
	}
	for _, n := range l {
		want := of(n)
		if x, ok := clock.Of(n); x != want || !ok {
			t.Fatalf("Of(%d): %v, %v; must be %v", n, x, ok, want)
		}
		if m, ok := clock.Nanos(want); m != n || !ok {
			t.Fatalf("Nanos(%v): %d, %v; must be %d", want, m, ok, n)
		}
		if !clock.Right(want) {
			t.Fatalf("Right(%v): false", want)
		}
	}
}

// P6.1: numbers that no time has.
func TestWrongNumbers(t *testing.T) {
	l := []int64{math.MinInt64, math.MinInt64 + 1, math.MinInt64 + day, -day - 1, -day, -day + 1, -hour, -2, -1, day, day + 1, 2 * day, math.MaxInt64 - day, math.MaxInt64 - 1, math.MaxInt64}
	for _, b := range sample.Bits(100) {
		l = append(l, int64(b>>1)%(math.MaxInt64-day)+day, -int64(b>>1)-1)
	}
	for _, n := range l {
		if x, ok := clock.Of(n); x != none || ok {
			t.Fatalf("Of(%d): %v, %v", n, x, ok)
		}
	}
}

// P6.1, written out.
func TestNumbersWrittenOut(t *testing.T) {
	for _, x := range []struct {
		t api.Time
		n int64
	}{
		{midnight, 0}, {at(0, 0, 0, 1), 1}, {at(0, 0, 0, 999999999), 999999999}, {at(0, 0, 1, 0), 1000000000}, {at(0, 0, 59, 999999999), 59999999999},
		{at(0, 1, 0, 0), 60000000000}, {at(0, 59, 59, 999999999), 3599999999999}, {at(1, 0, 0, 0), 3600000000000}, {at(1, 2, 3, 4), 3723000000004},
		{at(12, 0, 0, 0), 43200000000000}, {at(23, 0, 0, 0), 82800000000000}, {at(23, 59, 59, 0), 86399000000000}, {last, 86399999999999},
	} {
		if n, ok := clock.Nanos(x.t); n != x.n || !ok {
			t.Errorf("Nanos(%v): %d, %v; must be %d", x.t, n, ok, x.n)
		}
		if y, ok := clock.Of(x.n); y != x.t || !ok {
			t.Errorf("Of(%d): %v, %v; must be %v", x.n, y, ok, x.t)
		}
	}
}

// nearest is the number from 0 to most that is nearest to n.
func nearest(n, most int) int {
	if n < 0 {
		return 0
	}
	if n > most {
		return most
	}
	return n
}

// regulated is what Regulate must answer, by the words.
func regulated(x api.Time, overflow int) (api.Time, api.Errno) {
	switch {
	case overflow != api.Constrain && overflow != api.Reject:
		return none, api.ErrArg
	case right(x):
		return x, api.OK
	case overflow == api.Reject:
		return none, api.ErrField
	}
	return at(nearest(x.Hour, 23), nearest(x.Minute, 59), nearest(x.Second, 59), nearest(x.Nano, 999999999)), api.OK
}

// P6.2: each field below, within and above its bounds, together with all others, by both overflows and by what is neither.
func TestRegulate(t *testing.T) {
	overflows := append(strangers(), api.Constrain, api.Reject, 3)
	times(func(x api.Time) {
		for _, overflow := range overflows {
			want, err := regulated(x, overflow)
			if y, e := clock.Regulate(x.Hour, x.Minute, x.Second, x.Nano, overflow); y != want || e != err {
				t.Fatalf("Regulate(%v, %d): %v, %d; must be %v, %d", x, overflow, y, e, want, err)
			}
		}
	})
}

// P6.2, written out.
func TestRegulateWrittenOut(t *testing.T) {
	for _, x := range []struct {
		hour, minute, second, nano, overflow int
		t                                    api.Time
		e                                    api.Errno
	}{
		{0, 0, 0, 0, api.Constrain, midnight, api.OK},
		{0, 0, 0, 0, api.Reject, midnight, api.OK},
		{23, 59, 59, 999999999, api.Constrain, last, api.OK},
		{23, 59, 59, 999999999, api.Reject, last, api.OK},
		{1, 2, 3, 4, api.Constrain, at(1, 2, 3, 4), api.OK},
		{1, 2, 3, 4, api.Reject, at(1, 2, 3, 4), api.OK},
		{24, 2, 3, 4, api.Constrain, at(23, 2, 3, 4), api.OK},
		{1, 60, 3, 4, api.Constrain, at(1, 59, 3, 4), api.OK},
		{1, 2, 60, 4, api.Constrain, at(1, 2, 59, 4), api.OK},
		{1, 2, 3, 1000000000, api.Constrain, at(1, 2, 3, 999999999), api.OK},
		{-1, 2, 3, 4, api.Constrain, at(0, 2, 3, 4), api.OK},
		{1, -1, 3, 4, api.Constrain, at(1, 0, 3, 4), api.OK},
		{1, 2, -1, 4, api.Constrain, at(1, 2, 0, 4), api.OK},
		{1, 2, 3, -1, api.Constrain, at(1, 2, 3, 0), api.OK},
		{24, 60, 60, 1000000000, api.Constrain, last, api.OK},
		{-1, -1, -1, -1, api.Constrain, midnight, api.OK},
		{greatest, least, greatest, least, api.Constrain, at(23, 0, 59, 0), api.OK},
		{least, greatest, least, greatest, api.Constrain, at(0, 59, 0, 999999999), api.OK},
		{24, 2, 3, 4, api.Reject, none, api.ErrField},
		{1, 60, 3, 4, api.Reject, none, api.ErrField},
		{1, 2, 60, 4, api.Reject, none, api.ErrField},
		{1, 2, 3, 1000000000, api.Reject, none, api.ErrField},
		{-1, 2, 3, 4, api.Reject, none, api.ErrField},
		{1, -1, 3, 4, api.Reject, none, api.ErrField},
		{1, 2, -1, 4, api.Reject, none, api.ErrField},
		{1, 2, 3, -1, api.Reject, none, api.ErrField},
		{24, 0, 0, 0, api.Reject, none, api.ErrField},
		{1, 2, 3, 4, 0, none, api.ErrArg},
		{1, 2, 3, 4, 3, none, api.ErrArg},
		{24, 2, 3, 4, 0, none, api.ErrArg},
		{24, 2, 3, 4, -1, none, api.ErrArg},
	} {
		if y, e := clock.Regulate(x.hour, x.minute, x.second, x.nano, x.overflow); y != x.t || e != x.e {
			t.Errorf("%v: %v, %d", x, y, e)
		}
	}
}

// moved is what Add must answer of a right time's number.
func moved(n int64, w api.Wide) (api.Time, int64, api.Errno) {
	sum := new(big.Int).Add(big.NewInt(n), whole(w))
	days, rest := new(big.Int).DivMod(sum, big.NewInt(day), new(big.Int))
	if !days.IsInt64() {
		return none, 0, api.ErrOver
	}
	return of(rest.Int64()), days.Int64(), api.OK
}

// added tries Add with the time whose number is n.
func added(t *testing.T, n int64, w api.Wide) {
	t.Helper()
	want, far, err := moved(n, w)
	if x, k, e := clock.Add(of(n), w); x != want || k != far || e != err {
		t.Fatalf("Add(%v, %v): %v, %d, %d; must be %v, %d, %d", of(n), w, x, k, e, want, far, err)
	}
}

// P6.3, against numbers without bounds: wide numbers of all sizes, those at both ends among them.
func TestAdd(t *testing.T) {
	steps := append(sample.Edges(), sample.Spread(200)...)
	for _, n := range numbers() {
		for _, w := range append(steps, sample.Small(20)...) {
			added(t, n, w)
		}
	}
}

// P6.3: sums that come to just about a midnight: of all midnights near by, and of those that just have room in 64 bits, or just have none.
func TestAddUpToMidnights(t *testing.T) {
	midnights := []int64{math.MinInt64, math.MinInt64 + 1, -1 << 32, -1000, -366, -3, -2, -1, 0, 1, 2, 3, 366, 1000, 1 << 32, math.MaxInt64 - 1, math.MaxInt64}
	for _, n := range numbers() {
		for _, k := range midnights {
			for d := int64(-3); d <= 3; d++ {
				for _, side := range []int64{0, day} {
					w, e := wide.Sum(wide.Mul(k, day), wide.Of(side), wide.Of(d), wide.Of(-n))
					if e != api.OK {
						t.Fatal(k, side, d, n)
					}
					added(t, n, w)
				}
			}
		}
	}
}

// P6.3, written out: no midnight, one and many, forward and back, and both bounds of what is told.
func TestAddWrittenOut(t *testing.T) {
	const hours2 = "7200000000000"
	for _, x := range []struct {
		t    api.Time
		w    string
		want api.Time
		k    int64
		e    api.Errno
	}{
		{at(23, 0, 0, 0), hours2, at(1, 0, 0, 0), 1, api.OK},
		{midnight, "-1", last, -1, api.OK},
		{midnight, "0", midnight, 0, api.OK},
		{last, "0", last, 0, api.OK},
		{last, "1", midnight, 1, api.OK},
		{at(1, 2, 3, 4), hours2, at(3, 2, 3, 4), 0, api.OK},
		{at(3, 2, 3, 4), "-" + hours2, at(1, 2, 3, 4), 0, api.OK},
		{at(1, 2, 3, 4), "-" + hours2, at(23, 2, 3, 4), -1, api.OK},
		{at(12, 0, 0, 0), "43199999999999", last, 0, api.OK},
		{at(12, 0, 0, 0), "43200000000000", midnight, 1, api.OK},
		{at(12, 0, 0, 0), "-43200000000000", midnight, 0, api.OK},
		{at(12, 0, 0, 0), "-43200000000001", last, -1, api.OK},
		{at(12, 0, 0, 0), "86400000000000", at(12, 0, 0, 0), 1, api.OK},
		{at(12, 0, 0, 0), "-86400000000000", at(12, 0, 0, 0), -1, api.OK},
		{at(12, 0, 0, 0), "864000000000001", at(12, 0, 0, 1), 10, api.OK},
		{at(12, 0, 0, 0), "-864000000000001", at(11, 59, 59, 999999999), -10, api.OK},
		{midnight, "9223372036854775807", at(23, 47, 16, 854775807), 106751, api.OK},
		{midnight, "-9223372036854775808", at(0, 12, 43, 145224192), -106752, api.OK},
		// The last nanosecond ahead of 2^63 midnights, the first one behind -2^63 of them, and those beyond.
		{midnight, "796899343984252629811199999999999", last, math.MaxInt64, api.OK},
		{midnight, "796899343984252629811200000000000", none, 0, api.ErrOver},
		{last, "796899343984252629724800000000000", last, math.MaxInt64, api.OK},
		{last, "796899343984252629724800000000001", none, 0, api.ErrOver},
		{midnight, "-796899343984252629811200000000000", midnight, math.MinInt64, api.OK},
		{midnight, "-796899343984252629811200000000001", none, 0, api.ErrOver},
		{last, "-796899343984252629897599999999999", midnight, math.MinInt64, api.OK},
		{last, "-796899343984252629897600000000000", none, 0, api.ErrOver},
		{midnight, "170141183460469231731687303715884105727", none, 0, api.ErrOver},
		{last, "170141183460469231731687303715884105727", none, 0, api.ErrOver},
		{midnight, "-170141183460469231731687303715884105728", none, 0, api.ErrOver},
		{last, "-170141183460469231731687303715884105728", none, 0, api.ErrOver},
	} {
		if y, k, e := clock.Add(x.t, text(t, x.w)); y != x.want || k != x.k || e != x.e {
			t.Errorf("Add(%v, %s): %v, %d, %d; must be %v, %d, %d", x.t, x.w, y, k, e, x.want, x.k, x.e)
		}
	}
}

// P6.3: a time that isn't right is told ahead of what has no room.
func TestAddToWrongTimes(t *testing.T) {
	for _, x := range wrong() {
		for _, w := range []api.Wide{bottom, wide.Of(math.MinInt64), wide.Of(-1), {}, wide.Of(1), wide.Of(day), wide.Of(math.MaxInt64), top} {
			if y, k, e := clock.Add(x, w); y != none || k != 0 || e != api.ErrArg {
				t.Fatalf("Add(%v, %v): %v, %d, %d", x, w, y, k, e)
			}
		}
	}
}

// divisors are all increments by which a day is divided, rising.
func divisors() []int64 {
	var small, great []int64
	for d := int64(1); d*d <= day; d++ {
		if day%d != 0 {
			continue
		}
		small = append(small, d)
		if d*d != day {
			great = append([]int64{day / d}, great...)
		}
	}
	return append(small, great...)
}

// chosen is the multiple of inc that a mode's words choose of two neighbours about n, of numbers from 0 on.
func chosen(n, inc int64, mode int) int64 {
	k, rest := n/inc, n%inc
	lower, upper := k*inc, (k+1)*inc
	switch {
	case rest == 0:
		return n
	case mode == api.Ceil || mode == api.Expand:
		return upper
	case mode == api.Floor || mode == api.Trunc:
		return lower
	case rest < inc-rest:
		return lower
	case rest > inc-rest:
		return upper
	case mode == api.HalfCeil || mode == api.HalfExpand:
		return upper
	case mode == api.HalfEven && k%2 == 1:
		return upper
	}
	return lower
}

// rounded tries Round with the time whose number is n, and an increment that divides a day.
func rounded(t *testing.T, n, inc int64, mode int) {
	t.Helper()
	m := chosen(n, inc, mode)
	want, far := of(m%day), m/day
	if x, k, e := clock.Round(of(n), inc, mode); x != want || k != far || e != api.OK {
		t.Fatalf("Round(%v, %d, %d): %v, %d, %d; must be %v, %d", of(n), inc, mode, x, k, e, want, far)
	}
}

// P6.4: all increments by which a day is divided, with times about their first multiples, their last ones, some between, and all those multiples' middles.
func TestRound(t *testing.T) {
	incs := divisors()
	if len(incs) != 816 || incs[0] != 1 || incs[815] != day {
		t.Fatal(len(incs))
	}
	for i, inc := range incs {
		some := numbers()[i%50:][:2]
		for _, k := range []int64{0, 1, 2, 3, day / inc / 2, day/inc - 3, day/inc - 2, day/inc - 1, day / inc} {
			for d := int64(-1); d <= 1; d++ {
				some = append(some, k*inc+d, k*inc+inc/2+d)
			}
		}
		for _, n := range some {
			if n < 0 || n >= day {
				continue
			}
			for _, mode := range modes() {
				rounded(t, n, inc, mode)
			}
		}
	}
}

// P6.4: common increments with many times.
func TestRoundToCommonIncrements(t *testing.T) {
	for _, inc := range []int64{1, 1000, milli, 100 * milli, second, 15 * second, minute, 5 * minute, 15 * minute, 30 * minute, hour, 3 * hour, 8 * hour, 12 * hour, day} {
		for _, n := range numbers() {
			for _, mode := range modes() {
				rounded(t, n, inc, mode)
			}
		}
	}
}

// P6.4, written out: halves each way, what is nearer to a side, and midnights, by each mode.
func TestRoundWrittenOut(t *testing.T) {
	h := func(n int) api.Time { return at(n, 0, 0, 0) }
	const next = 24 // stands for midnight, a day later
	for _, x := range []struct {
		t    api.Time
		inc  int64
		want [9]int // Ceil, Floor, Expand, Trunc, and the Half ones likewise, HalfEven
	}{
		{at(0, 30, 0, 0), hour, [9]int{1, 0, 1, 0, 1, 0, 1, 0, 0}},
		{at(1, 30, 0, 0), hour, [9]int{2, 1, 2, 1, 2, 1, 2, 1, 2}},
		{at(1, 29, 59, 999999999), hour, [9]int{2, 1, 2, 1, 1, 1, 1, 1, 1}},
		{at(1, 30, 0, 1), hour, [9]int{2, 1, 2, 1, 2, 2, 2, 2, 2}},
		{at(1, 0, 0, 0), hour, [9]int{1, 1, 1, 1, 1, 1, 1, 1, 1}},
		{at(1, 0, 0, 1), hour, [9]int{2, 1, 2, 1, 1, 1, 1, 1, 1}},
		{midnight, hour, [9]int{0, 0, 0, 0, 0, 0, 0, 0, 0}},
		{midnight, day, [9]int{0, 0, 0, 0, 0, 0, 0, 0, 0}},
		{at(0, 0, 0, 1), day, [9]int{next, 0, next, 0, 0, 0, 0, 0, 0}},
		{at(11, 59, 59, 999999999), day, [9]int{next, 0, next, 0, 0, 0, 0, 0, 0}},
		{at(12, 0, 0, 0), day, [9]int{next, 0, next, 0, next, 0, next, 0, 0}},
		{at(12, 0, 0, 1), day, [9]int{next, 0, next, 0, next, next, next, next, next}},
		{last, day, [9]int{next, 0, next, 0, next, next, next, next, next}},
		{at(18, 0, 0, 0), 12 * hour, [9]int{next, 12, next, 12, next, 12, next, 12, next}},
		{at(6, 0, 0, 0), 12 * hour, [9]int{12, 0, 12, 0, 12, 0, 12, 0, 0}},
		{at(23, 30, 0, 0), hour, [9]int{next, 23, next, 23, next, 23, next, 23, next}},
		{at(23, 29, 59, 999999999), hour, [9]int{next, 23, next, 23, 23, 23, 23, 23, 23}},
		{at(22, 30, 0, 0), hour, [9]int{23, 22, 23, 22, 23, 22, 23, 22, 22}},
		{at(23, 59, 59, 0), hour, [9]int{next, 23, next, 23, next, next, next, next, next}},
		{at(4, 0, 0, 0), 8 * hour, [9]int{8, 0, 8, 0, 8, 0, 8, 0, 0}},
		{at(12, 0, 0, 0), 8 * hour, [9]int{16, 8, 16, 8, 16, 8, 16, 8, 16}},
		{at(20, 0, 0, 0), 8 * hour, [9]int{next, 16, next, 16, next, 16, next, 16, 16}},
	} {
		for i, mode := range modes() {
			want, far := h(x.want[i]), int64(0)
			if x.want[i] == next {
				want, far = midnight, 1
			}
			if y, k, e := clock.Round(x.t, x.inc, mode); y != want || k != far || e != api.OK {
				t.Errorf("Round(%v, %d, %d): %v, %d, %d; must be %v, %d", x.t, x.inc, mode, y, k, e, want, far)
			}
		}
	}
}

// P6.4: each field is rounded up, to midnight too.
func TestRoundCarries(t *testing.T) {
	for _, x := range []struct {
		t    api.Time
		inc  int64
		mode int
		want api.Time
		k    int64
	}{
		{at(1, 2, 3, 999999999), milli, api.HalfExpand, at(1, 2, 4, 0), 0},
		{at(1, 2, 3, 499999999), second, api.HalfExpand, at(1, 2, 3, 0), 0},
		{at(1, 2, 59, 500000000), second, api.HalfExpand, at(1, 3, 0, 0), 0},
		{at(1, 59, 59, 500000000), second, api.HalfCeil, at(2, 0, 0, 0), 0},
		{at(23, 59, 59, 500000000), second, api.HalfCeil, midnight, 1},
		{at(23, 59, 59, 500000000), second, api.HalfFloor, at(23, 59, 59, 0), 0},
		{at(23, 59, 59, 500000000), second, api.HalfEven, midnight, 1},
		{at(23, 59, 58, 500000000), second, api.HalfEven, at(23, 59, 58, 0), 0},
		{last, 1, api.Ceil, last, 0},
		{last, 2, api.Ceil, midnight, 1},
		{last, 2, api.Floor, at(23, 59, 59, 999999998), 0},
		{last, minute, api.Expand, midnight, 1},
		{at(10, 7, 30, 0), 15 * minute, api.HalfExpand, at(10, 15, 0, 0), 0},
		{at(10, 7, 30, 0), 15 * minute, api.HalfTrunc, at(10, 0, 0, 0), 0},
	} {
		if y, k, e := clock.Round(x.t, x.inc, x.mode); y != x.want || k != x.k || e != api.OK {
			t.Errorf("Round(%v, %d, %d): %v, %d, %d; must be %v, %d", x.t, x.inc, x.mode, y, k, e, x.want, x.k)
		}
	}
}

// refused tries Round with what it must refuse.
func refused(t *testing.T, x api.Time, inc int64, mode int) {
	t.Helper()
	if y, k, e := clock.Round(x, inc, mode); y != none || k != 0 || e != api.ErrArg {
		t.Fatalf("Round(%v, %d, %d): %v, %d, %d", x, inc, mode, y, k, e)
	}
}

// P6.4: increments that don't divide a day, or are none.
func TestRoundRefusesIncrements(t *testing.T) {
	incs := []int64{
		math.MinInt64, math.MinInt64 + 1, -2 * day, -day, -hour, -2, -1, 0, 7, 11, 13, 14, 17, 1<<17 - 1, 1 << 17, 81, 488281250, minute + 1, 7 * minute, 25 * minute, hour - 1, 5 * hour, 7 * hour, 9 * hour, 10 * hour,
		day/2 - 1, day/2 + 1, 13 * hour, day - 1, day + 1, day + hour, 2 * day, 10 * day, 100 * day, 1 << 62, math.MaxInt64 - 1, math.MaxInt64,
	}
	for _, inc := range incs {
		if inc > 0 && inc <= day && day%inc == 0 {
			continue
		}
		for _, n := range numbers() {
			for _, mode := range append(modes(), strangers()...) {
				refused(t, of(n), inc, mode)
			}
		}
	}
	// Every small increment, against the division itself.
	for inc := int64(-100); inc <= 5000; inc++ {
		_, _, e := clock.Round(at(1, 2, 3, 4), inc, api.Floor)
		if want := inc > 0 && day%inc == 0; want != (e == api.OK) {
			t.Fatalf("Round(.., %d, ..): %d", inc, e)
		}
	}
}

// P6.4: no other modes, and no times that aren't right.
func TestRoundRefuses(t *testing.T) {
	incs := []int64{1, 2, milli, second, hour, 12 * hour, day}
	for _, inc := range incs {
		for _, n := range numbers() {
			for _, mode := range strangers() {
				refused(t, of(n), inc, mode)
			}
		}
		for _, x := range wrong() {
			for _, mode := range append(modes(), strangers()...) {
				refused(t, x, inc, mode)
			}
			refused(t, x, 0, api.Floor)
			refused(t, x, day+1, api.Ceil)
		}
	}
}

// P6.4, of any times: each field in turn, those ahead of it alike, those behind it telling otherwise.
func TestCmp(t *testing.T) {
	l := []int{least, least + 1, -1, 0, 1, 23, 24, 59, 60, 999999999, greatest - 1, greatest}
	for _, a := range l {
		for _, b := range l {
			for _, c := range l {
				for _, d := range l {
					compared(t, at(a, c, c, c), at(b, d, d, d), a, b)
					compared(t, at(c, a, d, d), at(c, b, c, c), a, b)
					compared(t, at(c, d, a, c), at(c, d, b, d), a, b)
					compared(t, at(c, d, c, a), at(c, d, c, b), a, b)
				}
			}
		}
	}
}

// compared tries Cmp with two times that stand to each other as a and b do, if these aren't one.
func compared(t *testing.T, x, y api.Time, a, b int) {
	t.Helper()
	if a == b {
		y = x
	}
	if k := clock.Cmp(x, y); k != cmp.Compare(a, b) {
		t.Fatalf("Cmp(%v, %v): %d; must be %d", x, y, k, cmp.Compare(a, b))
	}
}

// P6.4: the order of right times is that of their numbers.
func TestCmpIsTheOrderOfNumbers(t *testing.T) {
	l := numbers()
	for _, a := range l {
		for _, b := range l {
			compared(t, of(a), of(b), int(a), int(b))
		}
	}
}

// P6.5: a day of nanoseconds more is the same time, a midnight later.
func TestDayOfNanos(t *testing.T) {
	for _, n := range numbers() {
		for _, w := range append(sample.Spread(60), sample.Small(3)...) {
			x, k, e := clock.Add(of(n), w)
			more, err := wide.Add(w, wide.Of(api.DayNanos))
			if e != api.OK || err != api.OK {
				continue
			}
			y, l, e := clock.Add(of(n), more)
			if k == math.MaxInt64 {
				if y != none || l != 0 || e != api.ErrOver {
					t.Fatalf("Add(%v, %v): %v, %d, %d", of(n), more, y, l, e)
				}
			} else if y != x || l != k+1 || e != api.OK {
				t.Fatalf("Add(%v, %v): %v, %d, %d; a day ahead of it %v, %d", of(n), more, y, l, e, x, k)
			}
		}
		if x, k, e := clock.Add(of(n), wide.Of(api.DayNanos)); x != of(n) || k != 1 || e != api.OK {
			t.Fatalf("Add(%v, a day): %v, %d, %d", of(n), x, k, e)
		}
	}
}

// P6.5: what was added is taken away again.
func TestAddedIsTakenAway(t *testing.T) {
	for _, n := range numbers() {
		for _, w := range append(sample.Spread(100), sample.Small(5)...) {
			x, k, e := clock.Add(of(n), w)
			if e != api.OK || k == math.MinInt64 {
				continue
			}
			minus, _ := wide.Neg(w)
			y, l, e := clock.Add(x, minus)
			if y != of(n) || l != -k || e != api.OK {
				t.Fatalf("Add(%v, %v): %v, %d; back %v, %d, %d", of(n), w, x, k, y, l, e)
			}
		}
	}
}

// The chapter's examples.
func TestExamples(t *testing.T) {
	if x, k, e := clock.Add(at(23, 0, 0, 0), wide.Of(2*hour)); x != at(1, 0, 0, 0) || k != 1 || e != api.OK {
		t.Error(x, k, e)
	}
	if x, k, e := clock.Add(midnight, wide.Of(-1)); x != last || k != -1 || e != api.OK {
		t.Error(x, k, e)
	}
	if x, k, e := clock.Round(at(23, 59, 59, 0), hour, api.HalfExpand); x != midnight || k != 1 || e != api.OK {
		t.Error(x, k, e)
	}
}
