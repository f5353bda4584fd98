package image_test

import (
	"math"
	"slices"
	"strings"
	"testing"
	"unsafe"

	"analemma/api"
	"analemma/image"
	"analemma/rules"
	"analemma/table"
)

// times are those at which a table is tried: of all sizes, about its shifts and its Until, and about turns of its tail.
func times(x api.Table) []int64 {
	l := []int64{math.MinInt64, math.MinInt64 + 1, -9000000000000, -1 << 31, -1, 0, 1, 1 << 31, 8640000000000, math.MaxInt64 - 1, math.MaxInt64}
	turned := []int64{x.Until}
	for _, s := range x.Shifts {
		turned = append(turned, s.At)
	}
	for _, year := range []int{1, 1970, 2021, 2040, 2041, 9999, 12345, 275000} {
		for _, turn := range rules.Turns(x.Tail, year) {
			for _, save := range []int{0, x.Tail[0].Save, x.Tail[len(x.Tail)-1].Save} {
				turned = append(turned, turn.At, turn.At-int64(x.Offset), turn.At-int64(x.Offset+save))
			}
		}
	}
	for _, n := range turned {
		l = append(l, n-1, n, n+1)
	}
	return l
}

// P15.5: a table that was loaded tells what the saved one told.
func TestMeans(t *testing.T) {
	for _, x := range tables() {
		s, _ := image.Save(x)
		got, _ := image.Load(s)
		for _, n := range times(x) {
			want, _ := table.At(x, n)
			if p, ok := table.At(got, n); p != want || !ok {
				t.Fatalf("%v at %d: %v, %v; must be %v", got, n, p, ok, want)
			}
		}
	}
}

// The document's example: how clocks stand in New York, from a table that was loaded.
func TestMeansWrittenOut(t *testing.T) {
	x := compiled("Rule US 2007 max - Mar Sun>=8 2:00 1:00 D\nRule US 2007 max - Nov Sun>=1 2:00 0 S\nZone NY -5:00 US E%sT")[0]
	s, _ := image.Save(x)
	got, e := image.Load(s)
	if e != api.OK || got.Name != "NY" || len(got.Shifts) != 66 || len(got.Tail) != 2 || got.Tail[0].To != api.Ever {
		t.Error(got, e)
	}
	for n, want := range map[int64]api.Phase{
		math.MinInt64: {Offset: -18000, Abbr: "EST"}, 1615705199: {Offset: -18000, Abbr: "EST"}, 1615705200: {Offset: -14400, Save: 3600, Abbr: "EDT"}, 1636264799: {Offset: -14400, Save: 3600, Abbr: "EDT"}, 1636264800: {Offset: -18000, Abbr: "EST"},
		253386388800: {Offset: -14400, Save: 3600, Abbr: "EDT"}, 253399600800: {Offset: -18000, Abbr: "EST"},
	} {
		if p, ok := table.At(got, n); p != want || !ok {
			t.Errorf("at %d: %v, %v; must be %v", n, p, ok, want)
		}
	}
}

// shared tells whether two texts stand in one memory.
func shared(a, b string) bool {
	from, at := uintptr(unsafe.Pointer(unsafe.StringData(a))), uintptr(unsafe.Pointer(unsafe.StringData(b)))
	return a != "" && b != "" && from < at+uintptr(len(b)) && at < from+uintptr(len(a))
}

// texts are all texts of a table.
func texts(x api.Table) []string {
	l := []string{x.Name, x.Format, x.First.Abbr}
	for _, s := range x.Shifts {
		l = append(l, s.Phase.Abbr)
	}
	for _, r := range x.Tail {
		l = append(l, r.Name, r.Letter)
	}
	return l
}

// long is a table with long texts.
func long() api.Table {
	x := whole()
	x.Name, x.First.Abbr, x.Shifts[0].Phase.Abbr, x.Format, x.Tail[0].Name, x.Tail[0].Letter, x.Tail[1].Letter = "A/long/name", "first-phase", "second-phase", "a-long-format", "a-long-rule", "long-D", "long-S"
	x.Shifts[1].Phase = x.First
	return x
}

// Rule 4: of Save: a table is neither changed nor kept, its spare room neither.
func TestSaveMemory(t *testing.T) {
	x := long()
	shifts, tail := len(x.Shifts), len(x.Tail)
	x.Shifts = append(x.Shifts, api.Shift{At: 99})[:shifts]
	x.Tail = append(x.Tail, api.Rule{Letter: "spare"})[:tail]
	s, e := image.Save(x)
	if e != api.OK || !table.Same(x, long()) || x.Shifts[:shifts+1][shifts].At != 99 || x.Tail[:tail+1][tail].Letter != "spare" {
		t.Error(x, e)
	}
	again, _ := image.Save(x)
	for _, text := range append(texts(x), again) {
		if shared(s, text) {
			t.Errorf("the image stands in the memory of %q", text)
		}
	}
	clear(x.Shifts)
	clear(x.Tail)
	if s != again || s != imageOf(long()) {
		t.Errorf("% x", s)
	}
}

// Rule 4: of Load: an answer is new memory, its spare room too.
func TestLoadMemory(t *testing.T) {
	s := strings.Clone(imageOf(long()))
	got, e := image.Load(s)
	again, _ := image.Load(s)
	if e != api.OK || len(texts(got)) != len(texts(long())) {
		t.Fatal(got, e)
	}
	for _, text := range texts(got) {
		for _, from := range append(texts(again), s) {
			if shared(text, from) {
				t.Errorf("%q stands in the memory of %q", text, from)
			}
		}
	}
	clear(got.Shifts[:cap(got.Shifts)])
	clear(got.Tail[:cap(got.Tail)])
	if third, _ := image.Load(s); !table.Same(again, long()) || !table.Same(third, long()) {
		t.Error(again)
	}
}

// Rule 6: an answer doesn't hang on what was asked ahead of it.
func TestAskedAgain(t *testing.T) {
	l := small()
	var images []string
	for _, x := range l {
		s, _ := image.Save(x)
		images = append(images, s)
	}
	for i, x := range slices.Backward(l) {
		image.Load(images[i] + "\x00")
		image.Save(api.Table{})
		if s, e := image.Save(x); s != images[i] || e != api.OK {
			t.Fatal(s, e)
		}
		if got, e := image.Load(images[i]); !table.Same(got, x) || e != api.OK {
			t.Fatal(got, e)
		}
	}
}
