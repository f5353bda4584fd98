package eras_test

import (
	"math"
	"slices"
	"strings"
	"testing"

	"analemma/eras"
	"analemma/sample"
)

// letters are empty, short and long, and such as themselves hold what formats do.
var letters = []string{"", "S", "+01", "a letter that is long", "%s", "%z", "/", "%", "s", "z", "a/b", "%s%s", "x%sy%z/w"}

// savings are of 0, above and below it.
var savings = []int{0, 1, -1, hour, -hour, math.MinInt, math.MaxInt}

// abbreviates tries Abbr.
func abbreviates(t *testing.T, format, letter string, offset, save int) {
	t.Helper()
	if got, want := eras.Abbr(format, letter, offset, save), abbrOf(format, letter, offset, save); got != want {
		t.Fatalf("Abbr(%q, %q, %d, %d): %q; must be %q", format, letter, offset, save, got, want)
	}
}

// P12.1: all formats of few bytes: without marks, and with each of them, in each order, and twice.
func TestAbbrShortFormats(t *testing.T) {
	sample.Every("%sz/x", 5, func(format string) {
		for _, letter := range letters {
			for _, save := range savings[:3] {
				abbreviates(t, format, letter, -12600, save)
			}
		}
	})
}

// P12.1: formats of some pieces, in each order, each of them more than once.
func TestAbbrPieces(t *testing.T) {
	pieces := strings.NewReplacer("s", "%s", "z", "%z")
	sample.Every("sz/E", 6, func(text string) {
		for i, letter := range letters {
			abbreviates(t, pieces.Replace(text), letter, 45296, savings[(i+len(text))%7])
			abbreviates(t, pieces.Replace(text), letter, -hour, 0)
		}
	})
}

// P12.1, written out: which mark counts, and what stands in its place.
func TestAbbrWrittenOut(t *testing.T) {
	for _, x := range []struct {
		format, letter string
		offset, save   int
		want           string
	}{
		{"", "S", 3600, 3600, ""}, {"X", "S", 3600, 3600, "X"}, {"GMT", "", 0, 0, "GMT"}, {"-00", "S", 0, 0, "-00"}, {"a b\n\xff\u00e4", "S", 0, 0, "a b\n\xff\u00e4"},
		{"E%sT", "S", -18000, 0, "EST"}, {"E%sT", "D", -14400, 3600, "EDT"}, {"E%sT", "", -18000, 0, "ET"}, {"%s", "", 0, 0, ""}, {"%s", "CEST", 0, 0, "CEST"},
		{"%sT", "S", 0, 0, "ST"}, {"E%s", "S", 0, 0, "ES"}, {"E%sT", "long letter", 0, 0, "Elong letterT"},
		{"%s%s", "S", 0, 0, "S%s"}, {"a%sb%sc", "S", 0, 0, "aSb%sc"}, {"%s-%s-%s", "", 0, 0, "-%s-%s"},
		{"E%sT", "%s", 0, 0, "E%sT"}, {"E%sT", "%z", 3600, 0, "E%zT"}, {"E%sT", "a/b", 0, 0, "Ea/bT"}, {"E%sT", "a/b", 3600, 3600, "Ea/bT"}, {"%s%s", "%s", 0, 0, "%s%s"}, {"%s%s%s", "%s%", 0, 0, "%s%%s%s"},
		{"%%ss", "S", 0, 0, "%Ss"}, {"%%s", "S", 0, 0, "%S"}, {"%s", "%", 0, 0, "%"}, {"%ss", "%", 0, 0, "%s"}, {"%%sz", "", 3600, 0, "%z"},
		{"%z", "S", 3600, 3600, "+01"}, {"a%zb", "S", -12600, 0, "a-0330b"}, {"%z%z", "S", 3600, 0, "+01%z"}, {"%z", "%s", 3600, 0, "+01"}, {"%%z", "", 0, 0, "%+00"}, {"%%zz", "", 0, 0, "%+00z"},
		{"A/B", "S", 3600, 0, "A"}, {"A/B", "S", 3600, 3600, "B"}, {"A/B", "S", 3600, -3600, "B"}, {"A/B", "S", 3600, 1, "B"}, {"A/B", "S", 3600, -1, "B"}, {"A/B", "", 0, math.MinInt, "B"}, {"A/B", "", 0, math.MaxInt, "B"},
		{"A/B/C", "S", 0, 0, "A"}, {"A/B/C", "S", 0, 1, "B/C"}, {"/", "S", 0, 0, ""}, {"/", "S", 0, 1, ""}, {"//", "", 0, 0, ""}, {"//", "", 0, 1, "/"}, {"/B", "", 0, 0, ""}, {"/B", "", 0, 1, "B"}, {"A/", "", 0, 0, "A"}, {"A/", "", 0, -1, ""},
		{"%s%z", "S", 3600, 0, "S%z"}, {"%z%s", "S", 3600, 0, "%zS"}, {"%z%s", "", 3600, 0, "%z"},
		{"%s/", "S", 0, 0, "S/"}, {"/%s", "S", 0, 0, "/S"}, {"A/%s", "S", 0, 1, "A/S"}, {"%s/B", "S", 0, 1, "S/B"}, {"A/B%s", "", 0, 1, "A/B"},
		{"%z/", "S", 0, 0, "+00/"}, {"/%z", "S", 0, 1, "/+00"}, {"A/%z", "S", 3600, 3600, "A/+01"}, {"%z/B", "S", 3600, 3600, "+01/B"},
		{"%s%z/", "S", 0, 0, "S%z/"}, {"%z%s/", "S", 0, 1, "%zS/"}, {"%z/%s", "S", 0, 1, "%z/S"}, {"%s/%z", "S", 0, 1, "S/%z"}, {"/%s%z", "S", 0, 1, "/S%z"}, {"/%z%s", "S", 0, 1, "/%zS"},
		{"%", "S", 3600, 1, "%"}, {"s", "S", 0, 1, "s"}, {"z", "S", 0, 1, "z"}, {"%%", "S", 0, 0, "%%"}, {"% s", "S", 0, 0, "% s"}, {"s%", "S", 0, 0, "s%"}, {"z%", "S", 0, 0, "z%"}, {"%S", "x", 0, 0, "%S"}, {"%Z", "x", 0, 0, "%Z"}, {"%d", "x", 7, 7, "%d"},
		{"%/s", "S", 0, 0, "%"}, {"%/s", "S", 0, 1, "s"}, {"%/z", "S", 0, 1, "z"}, {"\\", "S", 0, 1, "\\"},
	} {
		if got := eras.Abbr(x.format, x.letter, x.offset, x.save); got != x.want {
			t.Errorf("Abbr(%q, %q, %d, %d): %q; must be %q", x.format, x.letter, x.offset, x.save, got, x.want)
		}
		abbreviates(t, x.format, x.letter, x.offset, x.save)
	}
}

// P12.1, written out: offsets, the saving being told apart from them.
func TestAbbrOffsetsWrittenOut(t *testing.T) {
	for offset, want := range map[int]string{
		0: "+00", 3600: "+01", -3600: "-01", 36000: "+10", -36000: "-10", 82800: "+23", 86400: "+24", 356400: "+99", 360000: "+100", -360000: "-100", 3600000: "+1000", 44442000: "+12345",
		60: "+0001", -60: "-0001", 1800: "+0030", -1800: "-0030", 3540: "+0059", 12600: "+0330", -12600: "-0330", 20700: "+0545", 361800: "+10030", -3601800: "-100030",
		1: "+000001", -1: "-000001", 59: "+000059", 61: "+000101", 3599: "+005959", -3599: "-005959", 3601: "+010001", -3601: "-010001", 36059: "+100059", -3610: "-010010", 3660: "+0101", 45296: "+123456", -86399: "-235959", 86399: "+235959", 359999: "+995959", 360001: "+1000001", -360060: "-10001", -17762: "-045602",
		math.MaxInt: "+25620477880152153007", math.MinInt: "-25620477880152153008", math.MinInt + 1: "-25620477880152153007", math.MinInt + 8: "-256204778801521530",
	} {
		for _, save := range savings {
			if got := eras.Abbr("%z", "S", offset, save); got != want {
				t.Errorf("%d: %q; must be %q", offset, got, want)
			}
			if got := eras.Abbr("<%z>", "%z", offset, save); got != "<"+want+">" {
				t.Errorf("%d: %q; must be <%s>", offset, got, want)
			}
		}
	}
}

// P12.1: all offsets of less than some hours more than a day, and of all sizes.
func TestAbbrOffsets(t *testing.T) {
	for offset := -100000; offset <= 100000; offset++ {
		abbreviates(t, "%z", "", offset, 0)
	}
	for _, h := range slices.Concat(sample.Halves(), sample.Bits(3000)) {
		for _, n := range []int{int(h), int(h >> 20), -int(h >> 35), int(h >> 45), -int(h >> 50), int(h) / hour * hour, int(h) / 60 * 60, int(h>>41) * hour, -int(h>>46) * 60} {
			for _, near := range []int{-1, 0, 1} {
				abbreviates(t, "%z", "", n+near, 0)
			}
		}
	}
}
