package civil_test

import (
	"math"
	"math/big"
	"testing"
	"time"

	"analemma/api"
	"analemma/civil"
	"analemma/sample"
)

const (
	least    = math.MinInt
	greatest = math.MaxInt
)

var (
	none  = api.Date{}
	first = api.Date{Year: -271821, Month: 4, Day: 19}
	last  = api.Date{Year: 275760, Month: 9, Day: 13}
)

// date is a date by its fields.
func date(year, month, day int) api.Date { return api.Date{Year: year, Month: month, Day: day} }

// at is the day with a number, by the language's own calendar.
func at(n int) time.Time { return time.Unix(int64(n)*86400, 0).UTC() }

// of is a day's date.
func of(t time.Time) api.Date { return date(t.Year(), int(t.Month()), t.Day()) }

// numbers goes through the numbers that calls are tried with: all at both ends, about the year 0 and about ours, and some from everywhere.
func numbers(do func(n int)) {
	for n := api.FirstDay; n <= api.LastDay; n += 1009 {
		do(n)
	}
	for i := range 3000 {
		do(api.FirstDay + i)
		do(api.LastDay - i)
	}
	for n := -1000000; n < 200000; n++ {
		do(n)
	}
}

// ends are numbers of all sizes at which something may turn.
func ends() []int {
	l := []int{
		api.FirstDay - 1, api.FirstDay, api.FirstDay + 1, api.LastDay - 1, api.LastDay, api.LastDay + 1,
		-271822, -271821, -271820, 275759, 275760, 275761, -400, -100, -4, -1, 4, 12, 13, 28, 29, 30, 31, 32,
		100, 400, 1582, 1900, 1970, 2000, 2021, 2024, 2100,
	}
	for _, h := range sample.Halves() {
		l = append(l, int(h))
	}
	return l
}

// fields are numbers that months and days are tried with.
func fields() []int {
	l := []int{least, least + 1, -1 << 32, greatest - 1, greatest, 1<<32 + 1, 1<<32 + 28, 1 << 40, 256 + 2}
	for n := -13; n <= 33; n++ {
		l = append(l, n)
	}
	return l
}

// years are years that calls are tried with.
func years() []int {
	l := ends()
	for n := -810; n <= 810; n++ {
		l = append(l, n, n+2000, n-271821, n+275760, n*100, least+810+n, greatest-810+n)
	}
	return l
}

// around are years whose days, counted in 64 bits, would go round to the numbers of right dates.
func around() []int {
	var l []int
	full := new(big.Int).Lsh(big.NewInt(1), 64)
	for k := int64(-182); k <= 182; k++ {
		year := new(big.Int).Mul(full, big.NewInt(k*400))
		year.Div(year, big.NewInt(146097))
		for d := int64(-3000); d <= 4000; d += 500 {
			if k != 0 {
				l = append(l, int(year.Int64()+d))
			}
		}
	}
	return l
}

// divides tells whether n is a multiple of d.
func divides(d, n int) bool {
	return new(big.Int).Mod(big.NewInt(int64(n)), big.NewInt(int64(d))).Sign() == 0
}

// leap tells whether a year is leap, in the words' order.
func leap(year int) bool {
	switch {
	case divides(400, year):
		return true
	case divides(100, year):
		return false
	}
	return divides(4, year)
}

// length is how long a month is.
func length(year, month int) int {
	switch month {
	case 1, 3, 5, 7, 8, 10, 12:
		return 31
	case 4, 6, 9, 11:
		return 30
	case 2:
		if leap(year) {
			return 29
		}
		return 28
	}
	return 0
}

// before tells whether a lies ahead of b, field by field.
func before(a, b api.Date) bool {
	if a.Year != b.Year {
		return a.Year < b.Year
	}
	if a.Month != b.Month {
		return a.Month < b.Month
	}
	return a.Day < b.Day
}

// right tells whether a date is right: it has such a month and day, and lies between the first one and the last one.
func right(d api.Date) bool {
	return d.Day >= 1 && d.Day <= length(d.Year, d.Month) && !before(d, first) && !before(last, d)
}

// wrong goes through dates that aren't right.
func wrong(do func(d api.Date)) {
	for _, y := range years() {
		for _, m := range []int{least, -1, 0, 13, 14, greatest} {
			do(date(y, m, 1))
		}
		for m := 1; m <= 12; m++ {
			for _, d := range []int{least, -1, 0, length(y, m) + 1, 32, 1<<32 + 1, greatest} {
				do(date(y, m, d))
			}
		}
	}
	for _, y := range append(around(), least, -271822, 275761, greatest) {
		for m := 1; m <= 12; m++ {
			do(date(y, m, 1))
			do(date(y, m, length(y, m)))
		}
	}
	for _, d := range []api.Date{none, date(-271821, 4, 18), date(-271821, 3, 31), date(-271821, 1, 1), date(275760, 9, 14), date(275760, 10, 1), date(275760, 12, 31)} {
		do(d)
	}
}

// P5.1, against answers written out and against the words.
func TestLeap(t *testing.T) {
	for year, want := range map[int]bool{
		0: true, 1: false, 2: false, 3: false, 4: true, -1: false, -2: false, -4: true, -5: false, -8: true,
		100: false, 200: false, 300: false, 400: true, -100: false, -400: true,
		1600: true, 1700: false, 1896: true, 1900: false, 1970: false, 2000: true, 2020: true, 2021: false, 2024: true, 2100: false, 2400: true,
		-271821: false, 275760: true, least: true, greatest: false, least + 8: false, greatest - 7: false, greatest - 3: true,
	} {
		if civil.Leap(year) != want {
			t.Fatalf("Leap(%d): %v", year, !want)
		}
	}
	for _, year := range append(years(), around()...) {
		if civil.Leap(year) != leap(year) {
			t.Fatalf("Leap(%d): %v", year, civil.Leap(year))
		}
	}
}

// P5.1
func TestMonthLen(t *testing.T) {
	for _, year := range append(years(), around()...) {
		for _, month := range fields() {
			if n := civil.MonthLen(year, month); n != length(year, month) {
				t.Fatalf("MonthLen(%d, %d): %d; must be %d", year, month, n, length(year, month))
			}
		}
	}
	for month, want := range []int{0, 31, 29, 31, 30, 31, 30, 31, 31, 30, 31, 30, 31, 0} {
		if n := civil.MonthLen(2024, month); n != want {
			t.Fatalf("MonthLen(2024, %d): %d; must be %d", month, n, want)
		}
	}
}

// P5.1, of every day by its number: against the language's own calendar.
func TestNumbersAndDates(t *testing.T) {
	numbers(func(n int) {
		want := of(at(n))
		if d, ok := civil.Of(n); d != want || !ok {
			t.Fatalf("Of(%d): %v, %v; must be %v", n, d, ok, want)
		}
		if m, ok := civil.Days(want); m != n || !ok {
			t.Fatalf("Days(%v): %d, %v; must be %d", want, m, ok, n)
		}
		if !civil.Right(want) {
			t.Fatalf("Right(%v): false", want)
		}
	})
}

// P5.1, of every month's first and last day, and the days beyond them.
func TestRightByMonths(t *testing.T) {
	for _, year := range years() {
		for _, month := range fields() {
			n := length(year, month)
			for _, day := range []int{least, -1, 0, 1, 2, n - 1, n, n + 1, n + 2, 1<<32 + 1, greatest} {
				d := date(year, month, day)
				if civil.Right(d) != right(d) {
					t.Fatalf("Right(%v): %v", d, civil.Right(d))
				}
				if m, ok := civil.Days(d); ok != right(d) || ok && of(at(m)) != d || !ok && m != 0 {
					t.Fatalf("Days(%v): %d, %v", d, m, ok)
				}
			}
		}
	}
}

// P5.1, P5.2: dates that aren't right.
func TestWrongDates(t *testing.T) {
	wrong(func(d api.Date) {
		if civil.Right(d) {
			t.Fatalf("Right(%v): true", d)
		}
		if n, ok := civil.Days(d); n != 0 || ok {
			t.Fatalf("Days(%v): %d, %v", d, n, ok)
		}
		if n := civil.Weekday(d); n != 0 {
			t.Fatalf("Weekday(%v): %d", d, n)
		}
		if n := civil.DayOfYear(d); n != 0 {
			t.Fatalf("DayOfYear(%v): %d", d, n)
		}
		if y, n := civil.Week(d); y != 0 || n != 0 {
			t.Fatalf("Week(%v): %d, %d", d, y, n)
		}
	})
}

// P5.1: numbers that no right date has.
func TestWrongNumbers(t *testing.T) {
	for _, n := range append(ends(), least, greatest, least+api.LastDay, greatest+api.FirstDay, greatest-719528, least+719528) {
		d, ok := civil.Of(n)
		if n >= api.FirstDay && n <= api.LastDay {
			if !ok || d != of(at(n)) {
				t.Fatalf("Of(%d): %v, %v", n, d, ok)
			}
		} else if ok || d != none {
			t.Fatalf("Of(%d): %v, %v", n, d, ok)
		}
	}
}

// P5.1: the ends, written out.
func TestEnds(t *testing.T) {
	for _, x := range []struct {
		d api.Date
		n int
	}{
		{first, -100000001}, {date(-271821, 4, 20), -100000000}, {date(-271821, 12, 31), -99999745},
		{date(-271820, 1, 1), -99999744}, {date(-1, 12, 31), -719529}, {date(0, 1, 1), -719528}, {date(0, 2, 29), -719469},
		{date(0, 3, 1), -719468}, {date(1, 1, 1), -719162}, {date(1969, 12, 31), -1}, {date(1970, 1, 1), 0}, {date(1970, 1, 2), 1},
		{date(2000, 2, 28), 11015}, {date(2000, 2, 29), 11016}, {date(2000, 3, 1), 11017}, {date(275760, 9, 12), 99999999}, {last, 100000000},
	} {
		if n, ok := civil.Days(x.d); n != x.n || !ok {
			t.Errorf("Days(%v): %d, %v; must be %d", x.d, n, ok, x.n)
		}
		if d, ok := civil.Of(x.n); d != x.d || !ok {
			t.Errorf("Of(%d): %v, %v; must be %v", x.n, d, ok, x.d)
		}
	}
}

// P5.2, against the language's own calendar.
func TestWeeksAndDaysOfYears(t *testing.T) {
	numbers(func(n int) {
		day := at(n)
		d := of(day)
		if w := civil.Weekday(d); w != (int(day.Weekday())+6)%7+1 {
			t.Fatalf("Weekday(%v): %d; it is a %v", d, w, day.Weekday())
		}
		if x := civil.DayOfYear(d); x != day.YearDay() {
			t.Fatalf("DayOfYear(%v): %d; must be %d", d, x, day.YearDay())
		}
		year, week := day.ISOWeek()
		if y, w := civil.Week(d); y != year || w != week {
			t.Fatalf("Week(%v): %d, %d; must be %d, %d", d, y, w, year, week)
		}
	})
}

// P5.2, against answers written out: both ends of years of 52 and of 53 weeks.
func TestWeeksAtEndsOfYears(t *testing.T) {
	for _, x := range []struct {
		d                              api.Date
		weekday, dayOfYear, year, week int
	}{
		{date(2019, 12, 29), 7, 363, 2019, 52}, {date(2019, 12, 30), 1, 364, 2020, 1}, {date(2020, 1, 1), 3, 1, 2020, 1},
		{date(2020, 12, 27), 7, 362, 2020, 52}, {date(2020, 12, 28), 1, 363, 2020, 53}, {date(2020, 12, 31), 4, 366, 2020, 53},
		{date(2021, 1, 1), 5, 1, 2020, 53}, {date(2021, 1, 3), 7, 3, 2020, 53}, {date(2021, 1, 4), 1, 4, 2021, 1},
		{date(2021, 12, 31), 5, 365, 2021, 52}, {date(2022, 1, 1), 6, 1, 2021, 52}, {date(2022, 1, 2), 7, 2, 2021, 52}, {date(2022, 1, 3), 1, 3, 2022, 1},
		{date(2015, 12, 31), 4, 365, 2015, 53}, {date(2016, 1, 3), 7, 3, 2015, 53}, {date(2018, 1, 1), 1, 1, 2018, 1}, {date(2018, 12, 31), 1, 365, 2019, 1},
		{date(0, 1, 1), 6, 1, -1, 52}, {date(0, 1, 3), 1, 3, 0, 1}, {date(0, 12, 31), 7, 366, 0, 52}, {date(-1, 12, 31), 5, 365, -1, 52},
		{date(1970, 1, 1), 4, 1, 1970, 1}, {first, 1, 109, -271821, 16}, {last, 6, 257, 275760, 37},
	} {
		year, week := civil.Week(x.d)
		if civil.Weekday(x.d) != x.weekday || civil.DayOfYear(x.d) != x.dayOfYear || year != x.year || week != x.week {
			t.Errorf("%v: %d, %d, %d, %d", x, civil.Weekday(x.d), civil.DayOfYear(x.d), year, week)
		}
	}
}

// regulated is what Regulate must answer, by the words.
func regulated(year, month, day, overflow int) (api.Date, api.Errno) {
	if overflow != api.Constrain && overflow != api.Reject {
		return none, api.ErrArg
	}
	if overflow == api.Reject && (day < 1 || day > length(year, month)) {
		return none, api.ErrField
	}
	d := date(year, nearest(month, 12), 0)
	d.Day = nearest(day, length(year, d.Month))
	if !right(d) {
		return none, api.ErrRange
	}
	return d, api.OK
}

// nearest is the number from 1 to most that is nearest to n.
func nearest(n, most int) int {
	if n < 1 {
		return 1
	}
	if n > most {
		return most
	}
	return n
}

// P5.3
func TestRegulate(t *testing.T) {
	some := append(ends(), 1999, 1996, 1904, 2023, -271819, 275758)
	for _, overflow := range []int{api.Constrain, api.Reject, 0, -1, 3, 256 + 1, 1<<32 + 1, least, greatest} {
		for _, year := range append(some, around()[:500]...) {
			for _, month := range fields() {
				for _, day := range fields() {
					want, err := regulated(year, month, day, overflow)
					if d, e := civil.Regulate(year, month, day, overflow); d != want || e != err {
						t.Fatalf("Regulate(%d, %d, %d, %d): %v, %d; must be %v, %d", year, month, day, overflow, d, e, want, err)
					}
				}
			}
		}
	}
}

// P5.3, against answers written out.
func TestRegulateWrittenOut(t *testing.T) {
	for _, x := range []struct {
		year, month, day, overflow int
		d                          api.Date
		e                          api.Errno
	}{
		{2021, 2, 31, api.Constrain, date(2021, 2, 28), api.OK},
		{2021, 2, 31, api.Reject, none, api.ErrField},
		{2024, 2, 31, api.Constrain, date(2024, 2, 29), api.OK},
		{2024, 2, 29, api.Reject, date(2024, 2, 29), api.OK},
		{1900, 2, 29, api.Reject, none, api.ErrField},
		{1900, 2, 29, api.Constrain, date(1900, 2, 28), api.OK},
		{2021, 0, 0, api.Constrain, date(2021, 1, 1), api.OK},
		{2021, 13, 32, api.Constrain, date(2021, 12, 31), api.OK},
		{2021, 13, 30, api.Constrain, date(2021, 12, 30), api.OK},
		{2021, greatest, least, api.Constrain, date(2021, 12, 1), api.OK},
		{2021, least, greatest, api.Constrain, date(2021, 1, 31), api.OK},
		{2021, 0, 1, api.Reject, none, api.ErrField},
		{2021, 13, 1, api.Reject, none, api.ErrField},
		{2021, 4, 0, api.Reject, none, api.ErrField},
		{2021, 4, 31, api.Reject, none, api.ErrField},
		{greatest, 13, 1, api.Reject, none, api.ErrField},
		{greatest, 12, 1, api.Reject, none, api.ErrRange},
		{greatest, 13, 1, api.Constrain, none, api.ErrRange},
		{least, 1, 1, api.Constrain, none, api.ErrRange},
		{-271821, 4, 18, api.Reject, none, api.ErrRange},
		{-271821, 4, 18, api.Constrain, none, api.ErrRange},
		{-271821, 4, 19, api.Reject, first, api.OK},
		{-271821, 0, 31, api.Constrain, none, api.ErrRange},
		{-271821, 4, 31, api.Constrain, date(-271821, 4, 30), api.OK},
		{275760, 9, 13, api.Constrain, last, api.OK},
		{275760, 9, 14, api.Reject, none, api.ErrRange},
		{275760, 9, 31, api.Constrain, none, api.ErrRange},
		{275760, 9, 31, api.Reject, none, api.ErrField},
		{275760, 9, 31, 0, none, api.ErrArg},
		{2021, 2, 28, 0, none, api.ErrArg},
		{2021, 2, 28, 3, none, api.ErrArg},
	} {
		if d, e := civil.Regulate(x.year, x.month, x.day, x.overflow); d != x.d || e != x.e {
			t.Errorf("%v: %v, %d", x, d, e)
		}
	}
}

// P5.4, against the language's own calendar.
func TestAddDays(t *testing.T) {
	from := []int{api.FirstDay, api.FirstDay + 1, -719529, -719528, -719469, -719468, -366, -1, 0, 1, 58, 59, 789, 790, 11016, 11017, 18000, api.LastDay - 1, api.LastDay}
	steps := []int64{math.MinInt64, math.MinInt64 + 1, -1 << 32, -365, -31, -7, -1, 0, 1, 7, 28, 29, 31, 365, 366, 146097, 1 << 32, math.MaxInt64 - 1, math.MaxInt64}
	for _, n := range from {
		d := of(at(n))
		for _, step := range steps {
			added(t, d, n, step)
		}
		for _, to := range append(from, api.FirstDay-1, api.LastDay+1) {
			added(t, d, n, int64(to-n))
			// A sum that is taken in fewer bits goes round to this one.
			added(t, d, n, int64(to-n)+1<<32)
			added(t, d, n, int64(to-n)-1<<32)
			added(t, d, n, int64(to-n)+math.MaxInt64)
			added(t, d, n, int64(to-n)+math.MinInt64)
		}
	}
}

// added tries AddDays with the date d, whose number is n.
func added(t *testing.T, d api.Date, n int, step int64) {
	t.Helper()
	to := new(big.Int).Add(big.NewInt(int64(n)), big.NewInt(step))
	want, err := none, api.ErrRange
	if to.Cmp(big.NewInt(api.FirstDay)) >= 0 && to.Cmp(big.NewInt(api.LastDay)) <= 0 {
		want, err = of(at(int(to.Int64()))), api.OK
	}
	if x, e := civil.AddDays(d, step); x != want || e != err {
		t.Fatalf("AddDays(%v, %d): %v, %d; must be %v, %d", d, step, x, e, want, err)
	}
}

// P5.4: dates that aren't right, with whatever number.
func TestAddDaysToWrongDates(t *testing.T) {
	wrong(func(d api.Date) {
		for _, n := range []int64{math.MinInt64, -1, 0, 1, math.MaxInt64} {
			if x, e := civil.AddDays(d, n); x != none || e != api.ErrArg {
				t.Fatalf("AddDays(%v, %d): %v, %d", d, n, x, e)
			}
		}
	})
}

// P5.4, of any dates.
func TestCmp(t *testing.T) {
	l := []int{least, least + 1, -13, -1, 0, 1, 2, 12, 13, 31, 32, 1970, greatest - 1, greatest}
	var dates []api.Date
	for _, y := range l {
		for _, m := range l {
			for _, d := range l {
				dates = append(dates, date(y, m, d))
			}
		}
	}
	for _, a := range dates {
		for i := 0; i < len(dates); i += 7 {
			b, want := dates[i], 0
			if before(a, b) {
				want = -1
			} else if before(b, a) {
				want = 1
			}
			if x := civil.Cmp(a, b); x != want || civil.Cmp(b, a) != -want {
				t.Fatalf("Cmp(%v, %v): %d; must be %d", a, b, x, want)
			}
		}
		if civil.Cmp(a, a) != 0 {
			t.Fatalf("Cmp(%v, %v): %d", a, a, civil.Cmp(a, a))
		}
	}
}

// P5.4: the order of right dates is that of their numbers.
func TestCmpIsTheOrderOfDays(t *testing.T) {
	ahead := first
	for n := api.FirstDay + 1; n <= api.LastDay; n += 997 {
		d, _ := civil.Of(n)
		if civil.Cmp(ahead, d) != -1 || civil.Cmp(d, ahead) != 1 || civil.Cmp(d, d) != 0 {
			t.Fatalf("Cmp(%v, %v): %d", ahead, d, civil.Cmp(ahead, d))
		}
		ahead = d
	}
}

// behind is the date behind a right one, by the words.
func behind(d api.Date) api.Date {
	switch {
	case d.Day < length(d.Year, d.Month):
		return date(d.Year, d.Month, d.Day+1)
	case d.Month < 12:
		return date(d.Year, d.Month+1, 1)
	}
	return date(d.Year+1, 1, 1)
}

// P5.5, day by day through more than 400 years about the year 0, about ours, and at both ends.
func TestDayBehind(t *testing.T) {
	for _, span := range [][2]int{{api.FirstDay, api.FirstDay + 150000}, {-900000, -600000}, {-150000, 150000}, {api.LastDay - 150000, api.LastDay}} {
		d, _ := civil.Of(span[0])
		for n := span[0] + 1; n <= span[1]; n++ {
			want := behind(d)
			x, e := civil.AddDays(d, 1)
			y, ok := civil.Of(n)
			if x != want || e != api.OK || y != want || !ok {
				t.Fatalf("%v: behind it AddDays has %v, %d, Of %v, %v; must be %v", d, x, e, y, ok, want)
			}
			if back, e := civil.AddDays(x, -1); back != d || e != api.OK {
				t.Fatalf("AddDays(%v, -1): %v, %d; must be %v", x, back, e, d)
			}
			d = want
		}
	}
	if d, e := civil.AddDays(last, 1); d != none || e != api.ErrRange {
		t.Fatalf("AddDays(%v, 1): %v, %d", last, d, e)
	}
	if d, e := civil.AddDays(first, -1); d != none || e != api.ErrRange {
		t.Fatalf("AddDays(%v, -1): %v, %d", first, d, e)
	}
}

// P5.6: of the next week are the days of this one, seven on; the weeks of a year are counted from 1, and it has those whose Thursdays it has.
func TestSevenDaysOn(t *testing.T) {
	numbers(func(n int) {
		if n+7 > api.LastDay {
			return
		}
		d, _ := civil.Of(n)
		x, _ := civil.AddDays(d, 7)
		year, week := civil.Week(d)
		thursday := of(at(n - civil.Weekday(d) + 4 + 7))
		wantYear, wantWeek := year, week+1
		if thursday.Year != year {
			wantYear, wantWeek = year+1, 1
		}
		if y, w := civil.Week(x); civil.Weekday(x) != civil.Weekday(d) || y != wantYear || w != wantWeek {
			t.Fatalf("%v, %d of week %d, %d: seven days on %v, %d of %d, %d", d, civil.Weekday(d), year, week, x, civil.Weekday(x), y, w)
		}
	})
}

// The chapter's examples.
func TestExamples(t *testing.T) {
	if n, ok := civil.Days(date(2000, 3, 1)); n != 11017 || !ok {
		t.Error(n, ok)
	}
	if d, ok := civil.Of(-1); d != date(1969, 12, 31) || !ok {
		t.Error(d, ok)
	}
	if n := civil.Weekday(date(1970, 1, 1)); n != 4 {
		t.Error(n)
	}
	if year, week := civil.Week(date(2021, 1, 3)); year != 2020 || week != 53 {
		t.Error(year, week)
	}
	if d, e := civil.Regulate(2021, 2, 31, api.Constrain); d != date(2021, 2, 28) || e != api.OK {
		t.Error(d, e)
	}
}
