package moment_test

import (
	"fmt"
	"math"
	"math/big"
	"regexp"
	"slices"
	"strconv"
	"strings"
	"testing"
	"time"

	"analemma/api"
	"analemma/moment"
	"analemma/sample"
)

const (
	least    = math.MinInt
	greatest = math.MaxInt
	longest  = 604799 // the greatest number of seconds of a clock's time
)

var none = api.Spot{}

var monthNames = []string{"January", "February", "March", "April", "May", "June", "July", "August", "September", "October", "November", "December"}

var weekdayNames = []string{"Monday", "Tuesday", "Wednesday", "Thursday", "Friday", "Saturday", "Sunday"}

// kinds are the four kinds of days.
var kinds = []int{api.OnDay, api.OnLast, api.OnAfter, api.OnAhead}

// spot is a spot by its fields.
func spot(month, kind, weekday, day, time, ref int) api.Spot {
	return api.Spot{Month: month, Kind: kind, Weekday: weekday, Day: day, Time: time, Ref: ref}
}

// masked is a text whose letters are great where a mask has a bit.
func masked(text string, mask int) string {
	b := []byte(strings.ToLower(text))
	for i := range b {
		if mask>>i&1 == 1 {
			b[i] -= 'a' - 'A'
		}
	}
	return string(b)
}

// namesOf are all texts that are a name, by their numbers: each beginning of three letters or more, each letter small or great.
func namesOf(names []string) map[string]int {
	m := map[string]int{}
	for i, name := range names {
		for n := 3; n <= len(name); n++ {
			for mask := range 1 << n {
				m[masked(name[:n], mask)] = i + 1
			}
		}
	}
	return m
}

var (
	monthsByName   = namesOf(monthNames)
	weekdaysByName = namesOf(weekdayNames)
)

// named tries Month and Weekday with a text.
func named(t *testing.T, s string) {
	t.Helper()
	want := monthsByName[s]
	if n, ok := moment.Month(s); n != want || ok != (want != 0) {
		t.Fatalf("Month(%q): %d, %v; must be %d", s, n, ok, want)
	}
	want = weekdaysByName[s]
	if n, ok := moment.Weekday(s); n != want || ok != (want != 0) {
		t.Fatalf("Weekday(%q): %d, %v; must be %d", s, n, ok, want)
	}
}

// P9.1: each name at every length, in letters small, great and mixed, and with one letter more.
func TestNames(t *testing.T) {
	for _, name := range slices.Concat(monthNames, weekdayNames) {
		for n := range len(name) + 1 {
			for mask := range 1 << n {
				named(t, masked(name[:n], mask))
			}
		}
		for c := range 256 {
			named(t, name+string([]byte{byte(c)}))
			named(t, name[:3]+string([]byte{byte(c)}))
		}
		named(t, name+name)
		named(t, name+name[len(name)-1:])
		named(t, " "+name)
		named(t, name[1:])
	}
}

// P9.1: names with one wrong byte at each place.
func TestNamesWithAWrongByte(t *testing.T) {
	for _, name := range slices.Concat(monthNames, weekdayNames) {
		for n := 3; n <= len(name); n++ {
			for _, text := range []string{name[:n], strings.ToLower(name[:n]), strings.ToUpper(name[:n])} {
				sample.Spoiled(text, func(s string) { named(t, s) })
			}
		}
	}
}

// P9.1, written out: the shortest and the longest names, those that are too short or too long, and letters that aren't those of ASCII.
func TestNamesWrittenOut(t *testing.T) {
	for s, want := range map[string]int{
		"Jan": 1, "January": 1, "january": 1, "JANUARY": 1, "jAn": 1, "Janu": 1, "Feb": 2, "Mar": 3, "March": 3, "Apr": 4, "May": 5, "MAY": 5,
		"Jun": 6, "June": 6, "Jul": 7, "July": 7, "Aug": 8, "Sep": 9, "Sept": 9, "Septem": 9, "Oct": 10, "Nov": 11, "Dec": 12, "dECEMBER": 12,
		"": 0, "J": 0, "Ja": 0, "Ma": 0, "Ju": 0, "Mayo": 0, "Januarys": 0, "Jane": 0, "Jan.": 0, " Jan": 0, "Jan ": 0, "1": 0, "01": 0, "Janury": 0, "Mon": 0,
		"June1": 0, "\u0408an": 0, "\u017fep": 0, "\u017feptember": 0, "Se\u017fp": 0, "Jan\x00": 0, "Jan\xff": 0, "\x00Jan": 0, "*an": 0, "jAn\n": 0, "`pr": 0, "@pr": 0, "dec\x05mber": 0, "-": 0,
	} {
		if n, ok := moment.Month(s); n != want || ok != (want != 0) {
			t.Errorf("Month(%q): %d, %v; must be %d", s, n, ok, want)
		}
	}
	for s, want := range map[string]int{
		"Mon": 1, "Monday": 1, "monday": 1, "MONDAY": 1, "mOnDa": 1, "Tue": 2, "Tues": 2, "Wed": 3, "Wednes": 3, "Thu": 4, "Thurs": 4, "Fri": 5, "Sat": 6, "Sun": 7, "SUNDAY": 7, "sund": 7,
		"": 0, "S": 0, "Su": 0, "T": 0, "Tu": 0, "Th": 0, "M": 0, "Mo": 0, "Sundays": 0, "Sunn": 0, "Son": 0, "lastSun": 0, "Sun ": 0, " Sun": 0, "Jan": 0, "7": 0, "0": 0,
		"\u017fun": 0, "\u017funday": 0, "\u017fat": 0, "tue\u017fday": 0, "[on": 0, "{on": 0, "Sun>=8": 0, "-": 0,
	} {
		if n, ok := moment.Weekday(s); n != want || ok != (want != 0) {
			t.Errorf("Weekday(%q): %d, %v; must be %d", s, n, ok, want)
		}
	}
}

// told is what Clock answers.
type told struct {
	seconds, ref int
	e            api.Errno
}

var clockForm = regexp.MustCompile(`\A(-?)([0-9]{1,3})(?::([0-5][0-9])(?::([0-5][0-9]))?)?([wsugz]?)\z`)

// clock is what Clock must answer, by the words.
func clock(s string) told {
	if s == "-" {
		return told{0, api.Wall, api.OK}
	}
	m := clockForm.FindStringSubmatch(s)
	if m == nil {
		return told{e: api.ErrForm}
	}
	var l [3]int
	for i := range l {
		l[i], _ = strconv.Atoi(m[i+2])
	}
	if l[0] > 167 {
		return told{e: api.ErrForm}
	}
	x := told{seconds: l[0]*3600 + l[1]*60 + l[2]}
	if m[1] == "-" {
		x.seconds = -x.seconds
	}
	switch m[5] {
	case "s":
		x.ref = api.Standard
	case "u", "g", "z":
		x.ref = api.Universal
	}
	return x
}

// offset is what Offset must answer, by the words.
func offset(s string) (int, api.Errno) {
	x := clock(s)
	if x.e != api.OK || s[len(s)-1] >= 'a' {
		return 0, api.ErrForm
	}
	if x.seconds >= 86400 || x.seconds <= -86400 {
		return 0, api.ErrOffset
	}
	return x.seconds, api.OK
}

// timed tries Clock and Offset with a text.
func timed(t *testing.T, s string) {
	t.Helper()
	want := clock(s)
	if n, ref, e := moment.Clock(s); (told{n, ref, e}) != want {
		t.Fatalf("Clock(%q): %d, %d, %d; must be %v", s, n, ref, e, want)
	}
	seconds, err := offset(s)
	if n, e := moment.Offset(s); n != seconds || e != err {
		t.Fatalf("Offset(%q): %d, %d; must be %d, %d", s, n, e, seconds, err)
	}
}

// P9.1: all short texts of the bytes that clock's times are made of.
func TestShortClocks(t *testing.T) {
	sample.Every("-:0169sw", 6, func(s string) { timed(t, s) })
	sample.Every("0258:zgu", 5, func(s string) { timed(t, s) })
	sample.Every("-5:", 9, func(s string) { timed(t, s) })
	sample.Every("01:", 9, func(s string) { timed(t, s) })
}

// rows are all rows of digits of numbers up to one, by at most so many digits.
func rows(to, digits int) []string {
	var l []string
	for n := range to + 1 {
		for width := 1; width <= digits; width++ {
			if s := fmt.Sprintf("%0*d", width, n); len(s) == width {
				l = append(l, s)
			}
		}
	}
	return l
}

// P9.1: each number in each of a clock's time's places, each letter behind, a sign ahead or none.
func TestClocks(t *testing.T) {
	hours, sixtieths := rows(1100, 4), append(rows(100, 3), "")
	few := []string{"", "0", "1", "00", "01", "59", "60", "099", "-1", "+1", "1:", " 5"}
	for _, sign := range []string{"", "-", "+", "--", " "} {
		for _, letter := range []string{"", "w", "s", "u", "g", "z", "W", "S", "U", "G", "Z", "ws", "ss", "-", " ", "a", "sw"} {
			for _, h := range hours {
				timed(t, sign+h+letter)
				timed(t, sign+h+":30"+letter)
				timed(t, sign+h+":59:59"+letter)
			}
			for _, m := range sixtieths {
				for _, h := range []string{"", "0", "00", "2", "23", "24", "167", "168"} {
					timed(t, sign+h+":"+m+letter)
					for _, s := range few {
						timed(t, sign+h+":"+m+":"+s+letter)
						timed(t, sign+h+":"+s+":"+m+letter)
					}
				}
			}
		}
	}
}

// P9.1: each byte at each place of a clock's time.
func TestClocksEachByte(t *testing.T) {
	for _, s := range []string{"", "-", "2", "12", "167", "2:00", "02:30", "-2:00s", "2:00:05", "-167:59:59", "23:59:59u", "-0:00:01w", "24", "0"} {
		sample.Spoiled(s, func(s string) { timed(t, s) })
	}
}

// P9.1, written out.
func TestClockWrittenOut(t *testing.T) {
	for _, x := range []struct {
		s string
		told
	}{
		{"-", told{0, api.Wall, api.OK}},
		{"0", told{0, api.Wall, api.OK}},
		{"-0", told{0, api.Wall, api.OK}},
		{"000", told{0, api.Wall, api.OK}},
		{"2", told{7200, api.Wall, api.OK}},
		{"02", told{7200, api.Wall, api.OK}},
		{"002", told{7200, api.Wall, api.OK}},
		{"-2", told{-7200, api.Wall, api.OK}},
		{"2:00", told{7200, api.Wall, api.OK}},
		{"2:00w", told{7200, api.Wall, api.OK}},
		{"2:00s", told{7200, api.Standard, api.OK}},
		{"2:00u", told{7200, api.Universal, api.OK}},
		{"2:00g", told{7200, api.Universal, api.OK}},
		{"2:00z", told{7200, api.Universal, api.OK}},
		{"2s", told{7200, api.Standard, api.OK}},
		{"0u", told{0, api.Universal, api.OK}},
		{"-0z", told{0, api.Universal, api.OK}},
		{"-1:30", told{-5400, api.Wall, api.OK}},
		{"-1:30s", told{-5400, api.Standard, api.OK}},
		{"1:28:14", told{5294, api.Wall, api.OK}},
		{"-1:28:14", told{-5294, api.Wall, api.OK}},
		{"001:02:03g", told{3723, api.Universal, api.OK}},
		{"0:00:01", told{1, api.Wall, api.OK}},
		{"-0:00:01", told{-1, api.Wall, api.OK}},
		{"0:59:59", told{3599, api.Wall, api.OK}},
		{"24:00", told{86400, api.Wall, api.OK}},
		{"25:00:00", told{90000, api.Wall, api.OK}},
		{"167", told{601200, api.Wall, api.OK}},
		{"167:59:59", told{604799, api.Wall, api.OK}},
		{"-167:59:59u", told{-604799, api.Universal, api.OK}},
	} {
		if n, ref, e := moment.Clock(x.s); (told{n, ref, e}) != x.told {
			t.Errorf("Clock(%q): %d, %d, %d; must be %v", x.s, n, ref, e, x.told)
		}
	}
	for _, s := range []string{
		"", "w", "s", "u", "-w", "-s", "-u", "-g", "-z", "--", "--1", "+1", "+", ":", "1:", ":1", ":00", "-:00", "1:0", "1:000", "1:60", "1:00:", "1:00:0", "1:00:60", "1:00:000",
		"1:00:00:00", "1::00", "0:60s", "168", "168:00", "-168", "999", "0000", "0167", "1000", "1:-1", "1:+1", "1:00:-1", "1-", "1:00-", "1:-00", "2:00W", "2:00S", "2:00U", "2:00G", "2:00Z", "2:00d", "2:00x",
		"2:00ss", "2:00sw", "s2:00", "2s:00", "2:00 s", " 2:00", "2:00 ", "2 :00", "2.00", "2:00.5", "2,00", "1e2", "0x2", "2:00\x00", "2\n", "\u0662", "2:0\u0660", "a", "-a", "noon",
		strings.Repeat("0", 1000), strings.Repeat(":", 100000), "1" + strings.Repeat(":00", 100000), "18446744073709551616", "18446744073709551617:00", "2:18446744073709551616",
	} {
		if n, ref, e := moment.Clock(s); n != 0 || ref != 0 || e != api.ErrForm {
			t.Errorf("Clock(%.40q): %d, %d, %d", s, n, ref, e)
		}
		if n, e := moment.Offset(s); n != 0 || e != api.ErrForm {
			t.Errorf("Offset(%.40q): %d, %d", s, n, e)
		}
	}
}

// P9.1, written out: what is less than a day, a day and beyond, and letters.
func TestOffsetWrittenOut(t *testing.T) {
	for _, x := range []struct {
		s string
		n int
		e api.Errno
	}{
		{"-", 0, api.OK}, {"0", 0, api.OK}, {"-0", 0, api.OK}, {"1", 3600, api.OK}, {"-5:00", -18000, api.OK}, {"5:30", 19800, api.OK}, {"-0:00:01", -1, api.OK},
		{"23", 82800, api.OK}, {"-23", -82800, api.OK}, {"23:59", 86340, api.OK}, {"23:59:59", 86399, api.OK}, {"-23:59:59", -86399, api.OK}, {"023:59:59", 86399, api.OK},
		{"24", 0, api.ErrOffset}, {"-24", 0, api.ErrOffset}, {"24:00", 0, api.ErrOffset}, {"-24:00:00", 0, api.ErrOffset}, {"24:00:01", 0, api.ErrOffset}, {"-24:00:01", 0, api.ErrOffset},
		{"024", 0, api.ErrOffset}, {"25", 0, api.ErrOffset}, {"48", 0, api.ErrOffset}, {"167:59:59", 0, api.ErrOffset}, {"-167:59:59", 0, api.ErrOffset},
		{"168", 0, api.ErrForm}, {"-168", 0, api.ErrForm}, {"0024", 0, api.ErrForm}, {"24:60", 0, api.ErrForm}, {"24:0", 0, api.ErrForm},
		{"1w", 0, api.ErrForm}, {"1s", 0, api.ErrForm}, {"1u", 0, api.ErrForm}, {"1g", 0, api.ErrForm}, {"1:00z", 0, api.ErrForm}, {"24w", 0, api.ErrForm}, {"24:00s", 0, api.ErrForm}, {"-w", 0, api.ErrForm}, {"", 0, api.ErrForm},
	} {
		if n, e := moment.Offset(x.s); n != x.n || e != x.e {
			t.Errorf("Offset(%q): %d, %d; must be %d, %d", x.s, n, e, x.n, x.e)
		}
	}
}

var dayForm = regexp.MustCompile(`\A(?:(last)([A-Za-z]+)|(?:([A-Za-z]+)([<>]=))?([0-9]{1,2}))\z`)

// day is the spot with a day, by the words: its Kind, Weekday and Day alone.
func day(s string) (api.Spot, bool) {
	m := dayForm.FindStringSubmatch(s)
	if m == nil {
		return none, false
	}
	n, _ := strconv.Atoi(m[5])
	counted := n >= 1 && n <= 31
	switch {
	case m[1] != "":
		w := weekdaysByName[m[2]]
		return spot(0, api.OnLast, w, 0, 0, 0), w != 0
	case m[4] == ">=":
		w := weekdaysByName[m[3]]
		return spot(0, api.OnAfter, w, n, 0, 0), w != 0 && counted
	case m[4] == "<=":
		w := weekdaysByName[m[3]]
		return spot(0, api.OnAhead, w, n, 0, 0), w != 0 && counted
	}
	return spot(0, api.OnDay, 0, n, 0, 0), counted
}

// parsed is what Parse answers.
type parsed struct {
	s  api.Spot
	at int
	e  api.Errno
}

// parse is what Parse must answer, by the words.
func parse(l []string) parsed {
	if len(l) > 3 {
		return parsed{at: 3, e: api.ErrMany}
	}
	s := spot(1, api.OnDay, 0, 1, 0, api.Wall)
	for i, text := range l {
		ok := false
		switch i {
		case 0:
			s.Month = monthsByName[text]
			ok = s.Month != 0
		case 1:
			var d api.Spot
			d, ok = day(text)
			s.Kind, s.Weekday, s.Day = d.Kind, d.Weekday, d.Day
		case 2:
			x := clock(text)
			s.Time, s.Ref, ok = x.seconds, x.ref, x.e == api.OK
		}
		if !ok {
			return parsed{at: i, e: api.ErrForm}
		}
	}
	return parsed{s: s}
}

// reads tries Parse with texts.
func reads(t *testing.T, l ...string) {
	t.Helper()
	want := parse(l)
	if s, at, e := moment.Parse(l); (parsed{s, at, e}) != want {
		t.Fatalf("Parse(%.100q): %v, %d, %d; must be %v", l, s, at, e, want)
	}
}

// P9.2: days of each kind, with digits of each number and length, and names of each length.
func TestParseDays(t *testing.T) {
	digits := append(rows(110, 4), "", "-1", "+1", " 1", "1 ", "1w", "x", "18446744073709551617", "4294967297", "\u0661")
	names := []string{"", "Su", "Sunn", "Sundays", "Jan", "last", "lastSun", "Sun ", " Sun", "\u017fun", "5", "Sun>=8", "Sun<=8"}
	for _, name := range weekdayNames {
		for n := 3; n <= len(name); n++ {
			names = append(names, name[:n], strings.ToLower(name[:n]), strings.ToUpper(name[:n]))
		}
	}
	for _, d := range digits {
		reads(t, "Oct", d)
		reads(t, "Oct", "last"+d)
	}
	for _, name := range names {
		reads(t, "Oct", name)
		for _, last := range []string{"last", "Last", "LAST", "las", "lastlast", "last ", "last-", "first", " last", "lasT"} {
			reads(t, "Oct", last+name)
			reads(t, "Oct", last+name+">=8")
			reads(t, "Oct", last+name+"8")
		}
		for _, sign := range []string{">=", "<=", ">", "<", "=", "==", "=>", "=<", "", " >= ", ">= ", "<=>=", ">=<=", ">=>=", "<=<=", ">>=", "<>="} {
			for _, d := range digits {
				reads(t, "Oct", name+sign+d)
			}
			reads(t, "Oct", "8"+sign+name)
		}
	}
}

// P9.2: each byte at each place of a day.
func TestParseDaysEachByte(t *testing.T) {
	for _, s := range []string{"1", "31", "05", "lastSun", "lastsunday", "Sun>=8", "MON<=25", "Tuesday>=01", "thu<=31", "Sun>=", "last", ""} {
		sample.Spoiled(s, func(s string) { reads(t, "Oct", s) })
	}
	sample.Every("Sunlat<>=18", 4, func(s string) { reads(t, "Oct", s) })
}

// P9.2: none to five texts, right ones and wrong ones at each place.
func TestParse(t *testing.T) {
	l := []string{
		"Oct", "march", "MAY", "Sept", "Ma", "", "1", "31", "09", "0", "32", "lastSun", "lastsun", "last", "Sun>=8", "Mon<=25", "Sun", "Sun>=0", "Sun<=32",
		"2:00", "2:00s", "1u", "-", "-1:30w", "-w", "167:59:59", "168", "24:00", "2:60", "January", "x",
	}
	reads(t)
	for _, a := range l {
		reads(t, a)
		for _, b := range l {
			reads(t, a, b)
			for _, c := range l {
				reads(t, a, b, c)
				reads(t, a, b, c, a)
				reads(t, a, b, c, "")
				reads(t, a, b, c, a, b)
			}
		}
	}
	for month := range monthsByName {
		reads(t, month, "1", "0")
	}
	for weekday := range weekdaysByName {
		reads(t, "Oct", "last"+weekday)
		reads(t, "Oct", weekday+">=1")
		reads(t, "Oct", weekday+"<=31", "-")
	}
	reads(t, make([]string, 4)...)
	reads(t, make([]string, 100000)...)
}

// P9.2, written out.
func TestParseWrittenOut(t *testing.T) {
	for _, x := range []struct {
		l []string
		parsed
	}{
		{nil, parsed{spot(1, api.OnDay, 0, 1, 0, api.Wall), 0, api.OK}},
		{[]string{}, parsed{spot(1, api.OnDay, 0, 1, 0, api.Wall), 0, api.OK}},
		{[]string{"Oct"}, parsed{spot(10, api.OnDay, 0, 1, 0, api.Wall), 0, api.OK}},
		{[]string{"Oct", "5"}, parsed{spot(10, api.OnDay, 0, 5, 0, api.Wall), 0, api.OK}},
		{[]string{"Oct", "05", "2"}, parsed{spot(10, api.OnDay, 0, 5, 7200, api.Wall), 0, api.OK}},
		{[]string{"Oct", "lastSun", "1:00u"}, parsed{spot(10, api.OnLast, 7, 0, 3600, api.Universal), 0, api.OK}},
		{[]string{"december", "lastMONDAY", "-"}, parsed{spot(12, api.OnLast, 1, 0, 0, api.Wall), 0, api.OK}},
		{[]string{"Mar", "Sun>=8", "2:00"}, parsed{spot(3, api.OnAfter, 7, 8, 7200, api.Wall), 0, api.OK}},
		{[]string{"Feb", "sat>=31", "-1s"}, parsed{spot(2, api.OnAfter, 6, 31, -3600, api.Standard), 0, api.OK}},
		{[]string{"Apr", "Fri<=1", "24:00g"}, parsed{spot(4, api.OnAhead, 5, 1, 86400, api.Universal), 0, api.OK}},
		{[]string{"Apr", "31", "167:59:59"}, parsed{spot(4, api.OnDay, 0, 31, 604799, api.Wall), 0, api.OK}},
		{[]string{"Apr", "Wednesday<=07", "-0"}, parsed{spot(4, api.OnAhead, 3, 7, 0, api.Wall), 0, api.OK}},
		{[]string{""}, parsed{none, 0, api.ErrForm}},
		{[]string{"-"}, parsed{none, 0, api.ErrForm}},
		{[]string{"10"}, parsed{none, 0, api.ErrForm}},
		{[]string{"Oct", ""}, parsed{none, 1, api.ErrForm}},
		{[]string{"Oct", "-"}, parsed{none, 1, api.ErrForm}},
		{[]string{"Oct", "0"}, parsed{none, 1, api.ErrForm}},
		{[]string{"Oct", "00"}, parsed{none, 1, api.ErrForm}},
		{[]string{"Oct", "32"}, parsed{none, 1, api.ErrForm}},
		{[]string{"Oct", "001"}, parsed{none, 1, api.ErrForm}},
		{[]string{"Oct", "Sun>=001"}, parsed{none, 1, api.ErrForm}},
		{[]string{"Oct", "last"}, parsed{none, 1, api.ErrForm}},
		{[]string{"Oct", "LastSun"}, parsed{none, 1, api.ErrForm}},
		{[]string{"Oct", "lastSu"}, parsed{none, 1, api.ErrForm}},
		{[]string{"Oct", "lastSun>=1"}, parsed{none, 1, api.ErrForm}},
		{[]string{"Oct", ">=1"}, parsed{none, 1, api.ErrForm}},
		{[]string{"Oct", "Sun>8"}, parsed{none, 1, api.ErrForm}},
		{[]string{"Oct", "Sun"}, parsed{none, 1, api.ErrForm}},
		{[]string{"Oct", "1", ""}, parsed{none, 2, api.ErrForm}},
		{[]string{"Oct", "1", "-w"}, parsed{none, 2, api.ErrForm}},
		{[]string{"Oct", "1", "168"}, parsed{none, 2, api.ErrForm}},
		{[]string{"Ok", "0", "168"}, parsed{none, 0, api.ErrForm}},
		{[]string{"Ok", "1", "168"}, parsed{none, 0, api.ErrForm}},
		{[]string{"Oct", "0", "168"}, parsed{none, 1, api.ErrForm}},
		{[]string{"1", "Oct"}, parsed{none, 0, api.ErrForm}},
		{[]string{"Oct", "1", "0", "0"}, parsed{none, 3, api.ErrMany}},
		{[]string{"", "", "", ""}, parsed{none, 3, api.ErrMany}},
		{[]string{"Oct", "1", "0", "0", "0", "0"}, parsed{none, 3, api.ErrMany}},
	} {
		if s, at, e := moment.Parse(x.l); (parsed{s, at, e}) != x.parsed {
			t.Errorf("Parse(%q): %v, %d, %d; must be %v", x.l, s, at, e, x.parsed)
		}
	}
}

// Rule 4: texts that are handed in stay as they are, and so does what stands behind them.
func TestParseLeavesItsTexts(t *testing.T) {
	l := []string{"Oct", "lastSun", "1:00u", "behind", "further"}
	for n := range len(l) + 1 {
		moment.Parse(l[:n])
		if !slices.Equal(l, []string{"Oct", "lastSun", "1:00u", "behind", "further"}) {
			t.Fatalf("behind Parse of the first %d: %q", n, l)
		}
	}
}

// among tells whether a number is one of a row.
func among(n, from, to int) bool { return n >= from && n <= to }

// right tells whether a spot is right, by the words.
func right(s api.Spot) bool {
	weekday, day := among(s.Weekday, 1, 7), among(s.Day, 1, 31)
	if s.Kind == api.OnDay {
		weekday = s.Weekday == 0
	}
	if s.Kind == api.OnLast {
		day = s.Day == 0
	}
	return weekday && day && among(s.Month, 1, 12) && slices.Contains(kinds, s.Kind) && among(s.Time, -longest, longest) && among(s.Ref, 0, 2)
}

// written is a right spot's texts, by the words.
func written(s api.Spot) []string {
	day := strconv.Itoa(s.Day)
	if s.Kind != api.OnDay {
		name := weekdayNames[s.Weekday-1][:3]
		day = map[int]string{api.OnLast: "last" + name, api.OnAfter: name + ">=" + day, api.OnAhead: name + "<=" + day}[s.Kind]
	}
	return []string{monthNames[s.Month-1][:3], day, hours(s.Time) + []string{"", "s", "u"}[s.Ref]}
}

// hours is a clock's time written, by the words, from a number without bounds.
func hours(seconds int) string {
	n := big.NewInt(int64(seconds))
	sign := ""
	if n.Sign() < 0 {
		sign = "-"
		n.Neg(n)
	}
	var m, s big.Int
	n.DivMod(n, big.NewInt(60), &s)
	n.DivMod(n, big.NewInt(60), &m)
	if s.Sign() == 0 {
		return fmt.Sprintf("%s%d:%02d", sign, n, &m)
	}
	return fmt.Sprintf("%s%d:%02d:%02d", sign, n, &m, &s)
}

// prints tries Right and Print with a spot, and refusals of On and Local, if it isn't right.
func prints(t *testing.T, s api.Spot) {
	t.Helper()
	ok := right(s)
	if moment.Right(s) != ok {
		t.Fatalf("Right(%v): %v", s, !ok)
	}
	l, e := moment.Print(s)
	if !ok {
		if len(l) != 0 || e != api.ErrArg {
			t.Fatalf("Print(%v): %q, %d", s, l, e)
		}
		if n, ok := moment.On(s, 2021); n != 0 || ok {
			t.Fatalf("On(%v, 2021): %d, %v", s, n, ok)
		}
		if n, ok := moment.Local(s, 2021); n != 0 || ok {
			t.Fatalf("Local(%v, 2021): %d, %v", s, n, ok)
		}
		return
	}
	if e != api.OK || !slices.Equal(l, written(s)) {
		t.Fatalf("Print(%v): %q, %d; must be %q", s, l, e, written(s))
	}
	// P9.5
	if r, at, e := moment.Parse(l); r != s || at != 0 || e != api.OK {
		t.Fatalf("Parse(%q): %v, %d, %d; must be %v", l, r, at, e, s)
	}
}

// edges are a field's numbers from one just ahead of its least one to one just behind its greatest one, and numbers of all sizes.
func edges(from, to int) []int {
	l := []int{least, least + 1, greatest - 1, greatest, -1 << 32, 1 << 32}
	for n := from - 1; n <= to+1; n++ {
		// What is cut to fewer bits goes round to a number that may be.
		l = append(l, n, n+1<<8, n+1<<16, n+1<<32)
	}
	return l
}

// P9.3, P9.5: each field at every number from just ahead of its least one to just behind its greatest one, each with all kinds.
func TestPrintEachField(t *testing.T) {
	for _, kind := range []int{least, -1, 0, 1, 2, 3, 4, 5, 256, 1 << 32, 1<<32 + 1, greatest} {
		for weekday := -1; weekday <= 8; weekday++ {
			for day := -1; day <= 32; day++ {
				prints(t, spot(3, kind, weekday, day, 7200, api.Wall))
				prints(t, spot(12, kind, weekday, day, -longest, api.Universal))
			}
		}
		for _, x := range []struct{ weekday, day int }{{0, 8}, {7, 0}, {7, 8}} {
			for _, n := range edges(1, 12) {
				prints(t, spot(n, kind, x.weekday, x.day, 0, api.Wall))
			}
			for _, n := range edges(0, 7) {
				prints(t, spot(3, kind, n, x.day, 0, api.Wall))
			}
			for _, n := range edges(0, 31) {
				prints(t, spot(3, kind, x.weekday, n, 0, api.Wall))
			}
			for _, n := range edges(0, 2) {
				prints(t, spot(3, kind, x.weekday, x.day, 0, n))
			}
			for _, n := range []int{
				least, least + 1, -1 << 32, -longest - 2, -longest - 1, -longest, -longest + 1, -86400, -3601, -3600, -3599, -61, -60, -59, -1, 0,
				1, 59, 60, 61, 3599, 3600, 3601, 86400, longest - 1, longest, longest + 1, longest + 2, 1 << 32, greatest - 1, greatest,
			} {
				for ref := -1; ref <= 3; ref++ {
					prints(t, spot(3, kind, x.weekday, x.day, n, ref))
				}
			}
		}
	}
}

// P9.3, P9.5: all right days of all months.
func TestPrint(t *testing.T) {
	spots(func(s api.Spot) {
		for ref := range 3 {
			s.Ref = ref
			for _, n := range []int{-longest, -3600, -1, 0, 30, 3600, 7200, longest} {
				s.Time = n
				prints(t, s)
			}
		}
	})
}

// P9.3, written out.
func TestPrintWrittenOut(t *testing.T) {
	for _, x := range []struct {
		s api.Spot
		l []string
	}{
		{spot(1, api.OnDay, 0, 1, 0, api.Wall), []string{"Jan", "1", "0:00"}},
		{spot(10, api.OnLast, 7, 0, 3600, api.Universal), []string{"Oct", "lastSun", "1:00u"}},
		{spot(3, api.OnAfter, 7, 8, 7200, api.Wall), []string{"Mar", "Sun>=8", "2:00"}},
		{spot(9, api.OnAhead, 1, 31, -5400, api.Standard), []string{"Sep", "Mon<=31", "-1:30s"}},
		{spot(5, api.OnDay, 0, 31, 604799, api.Standard), []string{"May", "31", "167:59:59s"}},
		{spot(12, api.OnDay, 0, 9, -604799, api.Universal), []string{"Dec", "9", "-167:59:59u"}},
		{spot(2, api.OnAfter, 3, 1, -1, api.Wall), []string{"Feb", "Wed>=1", "-0:00:01"}},
		{spot(0, api.OnDay, 0, 1, 0, api.Wall), nil},
		{spot(13, api.OnDay, 0, 1, 0, api.Wall), nil},
		{spot(1, 4, 1, 1, 0, api.Wall), nil},
		{spot(1, -1, 1, 1, 0, api.Wall), nil},
		{spot(1, 4, 0, 0, 0, api.Wall), nil},
		{spot(1, api.OnDay, 1, 1, 0, api.Wall), nil},
		{spot(1, api.OnDay, 0, 0, 0, api.Wall), nil},
		{spot(1, api.OnDay, 0, 32, 0, api.Wall), nil},
		{spot(1, api.OnLast, 0, 0, 0, api.Wall), nil},
		{spot(1, api.OnLast, 8, 0, 0, api.Wall), nil},
		{spot(1, api.OnLast, 1, 1, 0, api.Wall), nil},
		{spot(1, api.OnAfter, 0, 1, 0, api.Wall), nil},
		{spot(1, api.OnAfter, 1, 0, 0, api.Wall), nil},
		{spot(1, api.OnAhead, 8, 1, 0, api.Wall), nil},
		{spot(1, api.OnAhead, 1, 32, 0, api.Wall), nil},
		{spot(1, api.OnDay, 0, 1, 604800, api.Wall), nil},
		{spot(1, api.OnDay, 0, 1, -604800, api.Wall), nil},
		{spot(1, api.OnDay, 0, 1, 0, 3), nil},
		{spot(1, api.OnDay, 0, 1, 0, -1), nil},
		{none, nil},
	} {
		e := api.OK
		if x.l == nil {
			e = api.ErrArg
		}
		if l, err := moment.Print(x.s); !slices.Equal(l, x.l) || err != e {
			t.Errorf("Print(%v): %q, %d; must be %q", x.s, l, err, x.l)
		}
		if moment.Right(x.s) != (e == api.OK) {
			t.Errorf("Right(%v): %v", x.s, moment.Right(x.s))
		}
	}
}

// Rule 4: what is written is new memory.
func TestPrintAnswersAnew(t *testing.T) {
	s := spot(10, api.OnLast, 7, 0, 3600, api.Universal)
	l, _ := moment.Print(s)
	for i := range l[:cap(l)] {
		l[:cap(l)][i] = "x"
	}
	if l, e := moment.Print(s); !slices.Equal(l, []string{"Oct", "lastSun", "1:00u"}) || e != api.OK {
		t.Fatalf("%q, %d", l, e)
	}
}

// P9.3, against numbers without bounds; P9.5: what is a clock's time is read as it was, with each letter and as an offset.
func TestTime(t *testing.T) {
	for n := -longest - 5000; n <= longest+5000; n++ {
		s := moment.Time(n)
		// Each seventh number is enough of these: they end in all seconds and minutes.
		if n%7 == 0 && s != hours(n) {
			t.Fatalf("Time(%d): %q; must be %q", n, s, hours(n))
		}
		if !among(n, -longest, longest) {
			continue
		}
		for ref, letter := range []string{"", "s", "u"} {
			if m, r, e := moment.Clock(s + letter); m != n || r != ref || e != api.OK {
				t.Fatalf("Clock(%q): %d, %d, %d; must be %d, %d", s+letter, m, r, e, n, ref)
			}
		}
		if m, e := moment.Offset(s); among(n, -86399, 86399) && (m != n || e != api.OK) {
			t.Fatalf("Offset(%q): %d, %d; must be %d", s, m, e, n)
		}
	}
	for i, h := range slices.Concat(sample.Halves(), sample.Bits(20000)) {
		for _, n := range []int{int(h), int(h) >> (i % 64), -(int(h) >> (i % 64))} {
			if s := moment.Time(n); s != hours(n) {
				t.Fatalf("Time(%d): %q; must be %q", n, s, hours(n))
			}
		}
	}
}

// P9.3, written out.
func TestTimeWrittenOut(t *testing.T) {
	for n, want := range map[int]string{
		0: "0:00", 1: "0:00:01", -1: "-0:00:01", 59: "0:00:59", -59: "-0:00:59", 60: "0:01", -60: "-0:01", 61: "0:01:01", 599: "0:09:59", 600: "0:10",
		3599: "0:59:59", 3600: "1:00", -3600: "-1:00", 3601: "1:00:01", 7200: "2:00", -5400: "-1:30", 5294: "1:28:14", -5294: "-1:28:14", 35999: "9:59:59", 36000: "10:00",
		86399: "23:59:59", 86400: "24:00", -86400: "-24:00", 359999: "99:59:59", 360000: "100:00", 604799: "167:59:59", -604799: "-167:59:59", 604800: "168:00", 3600000: "1000:00",
		greatest: "2562047788015215:30:07", least: "-2562047788015215:30:08", least + 1: "-2562047788015215:30:07", least + 8: "-2562047788015215:30",
	} {
		if s := moment.Time(n); s != want {
			t.Errorf("Time(%d): %q; must be %q", n, s, want)
		}
	}
}

// spots goes through all days of spots, at 0 by Wall.
func spots(do func(s api.Spot)) {
	for month := 1; month <= 12; month++ {
		for day := 1; day <= 31; day++ {
			do(spot(month, api.OnDay, 0, day, 0, api.Wall))
		}
		for weekday := 1; weekday <= 7; weekday++ {
			do(spot(month, api.OnLast, weekday, 0, 0, api.Wall))
			for day := 1; day <= 31; day++ {
				do(spot(month, api.OnAfter, weekday, day, 0, api.Wall))
				do(spot(month, api.OnAhead, weekday, day, 0, api.Wall))
			}
		}
	}
}

// number is a day's number, by the language's own calendar, which counts on days that a month doesn't have.
func number(year, month, day int) int {
	return int(time.Date(year, time.Month(month), day, 12, 0, 0, 0, time.UTC).Unix()-43200) / 86400
}

// weekdayOf is the weekday of the day with a number, by the language's own calendar.
func weekdayOf(n int) int {
	return (int(time.Unix(int64(n)*86400, 0).UTC().Weekday())+6)%7 + 1
}

// on is what On must answer for a right spot, by the words: day by day.
func on(s api.Spot, year int) (int, bool) {
	n, step := number(year, s.Month, s.Day), 1
	switch s.Kind {
	case api.OnLast:
		n, step = number(year, s.Month+1, 1)-1, -1
	case api.OnAhead:
		step = -1
	}
	for s.Kind != api.OnDay && weekdayOf(n) != s.Weekday {
		n += step
	}
	first := number(year, s.Month, 1)
	if !among(year, 1, 300000) || !among(n, api.FirstDay, api.LastDay) || !among(first, api.FirstDay, api.LastDay) {
		return 0, false
	}
	return n, true
}

// falls tries On and Local with a right spot and a year.
func falls(t *testing.T, s api.Spot, year int) {
	t.Helper()
	want, right := on(s, year)
	if n, ok := moment.On(s, year); n != want || ok != right {
		t.Fatalf("On(%v, %d): %d, %v; must be %d, %v", s, year, n, ok, want, right)
	}
	for i, seconds := range []int{0, -longest, -86401, -86400, -1, 1, 7200, 86399, 86400, 86401, longest} {
		s.Time, s.Ref = seconds, i%3
		at := int64(want)*86400 + int64(seconds)
		if !right {
			at = 0
		}
		if n, ok := moment.Local(s, year); n != at || ok != right {
			t.Fatalf("Local(%v, %d): %d, %v; must be %d, %v", s, year, n, ok, at, right)
		}
		if n, ok := moment.On(s, year); n != want || ok != right {
			t.Fatalf("On(%v, %d): %d, %v; must be %d, %v", s, year, n, ok, want, right)
		}
	}
}

// P9.4: all days of spots, in years leap and not that begin on each weekday, and about both ends.
func TestOn(t *testing.T) {
	years := []int{
		0, 1, 2, 3, 4, 5, 100, 400, 1582, 1600, 1752, 1899, 1900, 1901, 1904, 1969, 1970, 1971, 1972, 1999, 2000, 2001, 2100, 2400, 9998, 9999, 10000,
		100000, 200000, 275756, 275757, 275758, 275759, 275760, 275761, 275762, 276000, 299999, 300000, 300001,
	}
	for year := 2001; year <= 2028; year++ {
		years = append(years, year)
	}
	spots(func(s api.Spot) {
		for _, year := range years {
			falls(t, s, year)
		}
	})
}

// P9.4: years that may not be, of all sizes.
func TestOnWrongYears(t *testing.T) {
	years := []int{-1, -4, -100, -400, -1970, -2021, -271821, -300000, 300001, 300002, 1<<20 + 2021, 1<<32 + 2021, 1<<32 + 1, 1 << 40, -1 << 32, 2021 - 1<<32, least, least + 1, greatest - 1, greatest}
	for _, h := range sample.Halves() {
		if !among(int(h), 1, 300000) {
			years = append(years, int(h))
		}
	}
	spots(func(s api.Spot) {
		for _, year := range years {
			if n, ok := moment.On(s, year); n != 0 || ok {
				t.Fatalf("On(%v, %d): %d, %v", s, year, n, ok)
			}
			if n, ok := moment.Local(s, year); n != 0 || ok {
				t.Fatalf("Local(%v, %d): %d, %v", s, year, n, ok)
			}
		}
	})
}

// P9.4, written out: days that their month doesn't have, the next year's and the one ahead's, leap years, and both ends.
func TestOnWrittenOut(t *testing.T) {
	for _, x := range []struct {
		s                api.Spot
		year             int
		y, month, day, n int
	}{
		{spot(10, api.OnLast, 7, 0, 0, 0), 2021, 2021, 10, 31, 18931},
		{spot(3, api.OnAfter, 7, 8, 0, 0), 2021, 2021, 3, 14, 18700},
		{spot(11, api.OnAfter, 7, 1, 0, 0), 2021, 2021, 11, 7, 18938},
		{spot(1, api.OnDay, 0, 1, 0, 0), 1970, 1970, 1, 1, 0},
		{spot(1, api.OnAhead, 3, 1, 0, 0), 1970, 1969, 12, 31, -1},
		{spot(4, api.OnDay, 0, 31, 0, 0), 2021, 2021, 5, 1, 18748},
		{spot(2, api.OnDay, 0, 29, 0, 0), 2021, 2021, 3, 1, 18687},
		{spot(2, api.OnDay, 0, 29, 0, 0), 2024, 2024, 2, 29, 19782},
		{spot(2, api.OnDay, 0, 29, 0, 0), 1900, 1900, 3, 1, -25508},
		{spot(2, api.OnDay, 0, 31, 0, 0), 2021, 2021, 3, 3, 18689},
		{spot(2, api.OnDay, 0, 31, 0, 0), 2024, 2024, 3, 2, 19784},
		{spot(2, api.OnLast, 4, 0, 0, 0), 2024, 2024, 2, 29, 19782},
		{spot(2, api.OnLast, 5, 0, 0, 0), 2024, 2024, 2, 23, 19776},
		{spot(2, api.OnLast, 7, 0, 0, 0), 2021, 2021, 2, 28, 18686},
		{spot(2, api.OnAfter, 7, 31, 0, 0), 2021, 2021, 3, 7, 18693},
		{spot(2, api.OnAfter, 3, 31, 0, 0), 2021, 2021, 3, 3, 18689},
		{spot(2, api.OnAhead, 2, 31, 0, 0), 2021, 2021, 3, 2, 18688},
		{spot(2, api.OnAhead, 7, 31, 0, 0), 2021, 2021, 2, 28, 18686},
		{spot(4, api.OnAhead, 6, 31, 0, 0), 2021, 2021, 5, 1, 18748},
		{spot(12, api.OnAfter, 5, 31, 0, 0), 2021, 2021, 12, 31, 18992},
		{spot(12, api.OnAfter, 4, 31, 0, 0), 2021, 2022, 1, 6, 18998},
		{spot(12, api.OnAfter, 1, 28, 0, 0), 2021, 2022, 1, 3, 18995},
		{spot(12, api.OnLast, 6, 0, 0, 0), 2021, 2021, 12, 25, 18986},
		{spot(1, api.OnAhead, 5, 1, 0, 0), 2021, 2021, 1, 1, 18628},
		{spot(1, api.OnAhead, 6, 1, 0, 0), 2021, 2020, 12, 26, 18622},
		{spot(1, api.OnDay, 0, 1, 0, 0), 1, 1, 1, 1, -719162},
		{spot(1, api.OnAhead, 7, 1, 0, 0), 1, 0, 12, 31, -719163},
		{spot(1, api.OnAhead, 2, 1, 0, 0), 1, 0, 12, 26, -719168},
		{spot(9, api.OnDay, 0, 13, 0, 0), 275760, 275760, 9, 13, 100000000},
		{spot(8, api.OnDay, 0, 31, 0, 0), 275760, 275760, 8, 31, 99999987},
		{spot(9, api.OnAhead, 6, 13, 0, 0), 275760, 275760, 9, 13, 100000000},
		{spot(9, api.OnAhead, 6, 19, 0, 0), 275760, 275760, 9, 13, 100000000},
		{spot(9, api.OnAhead, 5, 18, 0, 0), 275760, 275760, 9, 12, 99999999},
		{spot(9, api.OnAfter, 6, 7, 0, 0), 275760, 275760, 9, 13, 100000000},
	} {
		if number(x.y, x.month, x.day) != x.n {
			t.Fatalf("%v isn't told rightly", x)
		}
		if n, ok := moment.On(x.s, x.year); n != x.n || !ok {
			t.Errorf("On(%v, %d): %d, %v; must be %d", x.s, x.year, n, ok, x.n)
		}
	}
	for _, x := range []struct {
		s    api.Spot
		year int
	}{
		{spot(1, api.OnDay, 0, 1, 0, 0), 0}, {spot(12, api.OnDay, 0, 31, 0, 0), 0}, {spot(12, api.OnAfter, 1, 31, 0, 0), 0}, {spot(1, api.OnDay, 0, 1, 0, 0), -1},
		{spot(9, api.OnDay, 0, 14, 0, 0), 275760}, {spot(9, api.OnDay, 0, 31, 0, 0), 275760}, {spot(9, api.OnAfter, 6, 14, 0, 0), 275760}, {spot(9, api.OnAfter, 7, 8, 0, 0), 275760},
		{spot(9, api.OnAhead, 7, 19, 0, 0), 275760}, {spot(9, api.OnAhead, 6, 20, 0, 0), 275760}, {spot(9, api.OnLast, 6, 0, 0, 0), 275760},
		{spot(10, api.OnDay, 0, 1, 0, 0), 275760}, {spot(12, api.OnLast, 1, 0, 0, 0), 275760}, {spot(1, api.OnDay, 0, 1, 0, 0), 275761},
		{spot(1, api.OnDay, 0, 1, 0, 0), 300000}, {spot(1, api.OnDay, 0, 1, 0, 0), 300001}, {none, 2021}, {spot(3, api.OnAfter, 7, 8, 604800, 0), 2021}, {spot(3, api.OnAfter, 7, 8, 0, 3), 2021},
	} {
		if n, ok := moment.On(x.s, x.year); n != 0 || ok {
			t.Errorf("On(%v, %d): %d, %v", x.s, x.year, n, ok)
		}
		if n, ok := moment.Local(x.s, x.year); n != 0 || ok {
			t.Errorf("Local(%v, %d): %d, %v", x.s, x.year, n, ok)
		}
	}
}

// P9.4, written out: midnights with times below 0 and of more than a day, by whichever clock.
func TestLocalWrittenOut(t *testing.T) {
	for _, x := range []struct {
		s    api.Spot
		year int
		n    int64
	}{
		{spot(1, api.OnDay, 0, 1, 0, api.Wall), 1970, 0},
		{spot(1, api.OnDay, 0, 1, -1, api.Wall), 1970, -1},
		{spot(1, api.OnDay, 0, 2, -86400, api.Standard), 1970, 0},
		{spot(1, api.OnDay, 0, 2, 90000, api.Universal), 1970, 176400},
		{spot(3, api.OnAfter, 7, 8, 7200, api.Wall), 2021, 1615687200},
		{spot(3, api.OnAfter, 7, 8, 7200, api.Universal), 2021, 1615687200},
		{spot(10, api.OnLast, 7, 0, 3600, api.Standard), 2021, 1635642000},
		{spot(10, api.OnLast, 7, 0, -3600, api.Standard), 2021, 1635634800},
		{spot(1, api.OnDay, 0, 1, -604799, api.Wall), 1, -62136201599},
		{spot(1, api.OnDay, 0, 1, 604799, api.Wall), 1, -62134992001},
		{spot(9, api.OnDay, 0, 13, 604799, api.Wall), 275760, 8640000604799},
		{spot(9, api.OnDay, 0, 13, -604799, api.Wall), 275760, 8639999395201},
	} {
		if n, ok := moment.Local(x.s, x.year); n != x.n || !ok {
			t.Errorf("Local(%v, %d): %d, %v; must be %d", x.s, x.year, n, ok, x.n)
		}
	}
}

// P9.6: where days of weekdays lie.
func TestWhereDaysLie(t *testing.T) {
	for _, year := range []int{1, 1899, 1900, 1999, 2000, 2021, 2022, 2023, 2024, 2025, 2026, 2027, 2028, 9999, 275759} {
		spots(func(s api.Spot) {
			if s.Kind == api.OnDay {
				return
			}
			n, ok := moment.On(s, year)
			if !ok || weekdayOf(n) != s.Weekday {
				t.Fatalf("On(%v, %d): %d, %v", s, year, n, ok)
			}
			first := number(year, s.Month, 1)
			length := number(year, s.Month+1, 1) - first
			day := n - first + 1
			switch s.Kind {
			case api.OnLast:
				if m, ok := moment.On(spot(s.Month, api.OnAhead, s.Weekday, length, 0, api.Wall), year); m != n || !ok || !among(day, length-6, length) {
					t.Fatalf("On(%v, %d): %d; ahead of the month's length %d, %v", s, year, n, m, ok)
				}
			case api.OnAfter:
				if !among(day, s.Day, s.Day+6) {
					t.Fatalf("On(%v, %d): day %d of the month", s, year, day)
				}
			case api.OnAhead:
				if !among(day, s.Day-6, s.Day) {
					t.Fatalf("On(%v, %d): day %d of the month", s, year, day)
				}
			}
		})
	}
}

// The chapter's examples.
func TestExamples(t *testing.T) {
	if n, ref, e := moment.Clock("2:00s"); n != 7200 || ref != api.Standard || e != api.OK {
		t.Error(n, ref, e)
	}
	if n, ref, e := moment.Clock("-1:30"); n != -5400 || ref != api.Wall || e != api.OK {
		t.Error(n, ref, e)
	}
	s, at, e := moment.Parse([]string{"oct", "lastSun", "1:00u"})
	if n, ok := moment.On(s, 2021); at != 0 || e != api.OK || n != number(2021, 10, 31) || !ok {
		t.Error(s, at, e, n, ok)
	}
	if n, ok := moment.On(spot(3, api.OnAfter, 7, 8, 0, api.Wall), 2021); n != number(2021, 3, 14) || !ok {
		t.Error(n, ok)
	}
	if s := moment.Time(-5400); s != "-1:30" {
		t.Error(s)
	}
}
