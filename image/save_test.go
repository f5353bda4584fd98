package image_test

import (
	"encoding/hex"
	"fmt"
	"math"
	"slices"
	"strings"
	"testing"

	"analemma/api"
	"analemma/image"
	"analemma/sample"
	"analemma/table"
)

// written is a table with its image, written out.
type written struct {
	what  string
	x     api.Table
	image string // digits of base 16
}

// bytes are the bytes of an image that is written out.
func (w written) bytes() string {
	b, err := hex.DecodeString(strings.Join(strings.Fields(w.image), ""))
	if err != nil {
		panic(err)
	}
	return string(b)
}

// writtenOut are tables with their images, written out by hand, byte by byte.
func writtenOut() []written {
	one := whole()
	one.Shifts, one.Tail = one.Shifts[:1], one.Tail[:1]
	bounds := api.Table{Name: "Z/0", Until: math.MaxInt64, Shifts: []api.Shift{
		{At: math.MinInt64, Phase: api.Phase{Offset: 86399, Save: 43200, Abbr: "!" + strings.Repeat("~", 39)}},
		{At: math.MaxInt64 - 1, Phase: api.Phase{Offset: -86399, Save: -43200, Abbr: "Z"}},
	}}
	return []written{
		{"the chapter's example", bare(), `
			414e4c31 0141 00000000 00000001 00000002
			000000000000000000000000
			5800
			0000000000000000 00 00000000 00
			0ab79ddd`},
		{"kinds that come again, abbreviations that kinds share, an empty one, a tail of two rules", whole(), `
			414e4c31 03412f42 00000005 00000004 00000006
			ffffff0000000000 ffffffffffffffff 0000000000000000 000000000000012c 0000000000100000
			00000001 00000000 00000002 00000001 00000003
			fffffff6 00000000 00000000  00000e10 00000e10 00000003  fffffff6 fffffffb 00000005  ffffffec 00000000 00000000
			585900 5900 00
			0000010000000000
			02
			0152 07b2 04 02 07 01 ffffe3e0 02 00000e10 0144
			03515f31 270f 0a 01 03 00 00093a7f 01 fffff8f8 00
			fffff1f0 0445257354
			38377238`},
		{"one shift, a tail of one rule", one, `
			414e4c31 03412f42 00000001 00000002 00000005
			ffffff0000000000
			00000001
			fffffff6 00000000 00000000  00000e10 00000e10 00000003
			585900 5900
			0000010000000000
			01
			0152 07b2 04 02 07 01 ffffe3e0 02 00000e10 0144
			fffff1f0 0445257354
			ad2460b7`},
		{"seconds, offsets and savings at their bounds, an empty abbreviation first", bounds, `
			414e4c31 035a2f30 00000002 00000003 0000002c
			8000000000000000 7ffffffffffffffe
			00000001 00000002
			00000000 00000000 00000000  0001517f 0000a8c0 00000001  fffeae81 ffff5740 0000002a
			00 217e7e7e7e7e7e7e7e7e7e7e7e7e7e7e7e7e7e7e7e7e7e7e7e7e7e7e7e7e7e7e7e7e7e7e7e7e7e7e00 5a00
			7fffffffffffffff
			00
			00000000 00
			b74c9213`},
	}
}

// P15.1, P15.2, P15.3: images written out by hand.
func TestWrittenOut(t *testing.T) {
	for _, w := range writtenOut() {
		if s, e := image.Save(w.x); s != w.bytes() || e != api.OK {
			t.Errorf("%s: % x, %d; must be % x", w.what, s, e, w.bytes())
		}
		if x, e := image.Load(w.bytes()); !table.Same(x, w.x) || e != api.OK {
			t.Errorf("%s: %v, %d; must be %v", w.what, x, e, w.x)
		}
		saves(t, w.x)
	}
}

// P15.1: the sum, written out and by the words.
func TestSum(t *testing.T) {
	for s, want := range map[string]uint32{
		"": 0, "\x00": 0, "\x01": 1, "a": 97, "\xff": 255, "ab": 97*31 + 98, "ba": 98*31 + 97, "\x00a": 97, "a\x00": 97 * 31, "\x01\x00\x00": 961, "\x01\x00\x00\x00\x00\x00\x00": 887503681, "\x01\x00\x00\x00\x00\x00\x00\x00": 1742810335,
		"ANL1": 65*29791 + 78*961 + 76*31 + 49, "\xff\xff\xff\xff\xff\xff": 3248813984,
	} {
		if got := image.Sum(s); got != want {
			t.Errorf("%q: %d, must be %d", s, got, want)
		}
	}
	sample.Every("\x00\x01\x7f\x80\xff", 6, func(s string) {
		if got := image.Sum(s); got != sum(s) {
			t.Errorf("%q: %d, must be %d", s, got, sum(s))
		}
	})
	var all []byte
	for i, bits := range sample.Bits(3000) {
		all = append(all, byte(bits>>30))
		if s := string(all); i%50 == 0 && image.Sum(s) != sum(s) {
			t.Errorf("%q: %d, must be %d", s, image.Sum(s), sum(s))
		}
	}
	for _, x := range small() {
		s, _ := image.Save(x)
		for i := range len(s) {
			if got := image.Sum(s[:i]); got != sum(s[:i]) {
				t.Fatalf("%q: %d, must be %d", s[:i], got, sum(s[:i]))
			}
		}
	}
}

// P15.1, P15.3: tables of all kinds, and no lists and empty ones.
func TestSave(t *testing.T) {
	for _, x := range tables() {
		saves(t, x)
	}
	empty := bare()
	empty.Shifts, empty.Tail = []api.Shift{}, []api.Rule{}
	if got, e := image.Save(empty); got != imageOf(bare()) || e != api.OK {
		t.Errorf("% x, %d", got, e)
	}
}

// P15.1, P15.3: each field of a table at its bounds.
func TestSaveAtTheBounds(t *testing.T) {
	try := func(change func(x *api.Table)) {
		x := whole()
		change(&x)
		if !table.Right(x) {
			t.Fatalf("%v isn't right", x)
		}
		saves(t, x)
	}
	for _, n := range []int{-86399, -86398, -65536, -32768, -256, -255, -129, -128, -1, 0, 1, 127, 128, 255, 256, 32767, 32768, 65535, 65536, 86399} {
		try(func(x *api.Table) { x.First.Offset = n })
		try(func(x *api.Table) { x.Shifts[2].Phase.Offset = n })
		try(func(x *api.Table) { x.First.Save = n / 2 })
		try(func(x *api.Table) { x.Shifts[2].Phase.Save = n / 2 })
		try(func(x *api.Table) { x.Offset, x.Tail[0].Save, x.Tail[1].Save = n, 0, 0 })
		try(func(x *api.Table) { x.Offset, x.Tail[0].Save, x.Tail[1].Save = 0, n/2, -n/2 })
		try(func(x *api.Table) { x.Tail[0].Spot.Time, x.Tail[1].Spot.Time = n*7, -n*7 })
		try(func(x *api.Table) {
			for i := range x.Shifts {
				x.Shifts[i].At = int64(n) + int64(i)
			}
		})
		try(func(x *api.Table) { x.Shifts, x.Until = nil, int64(n) })
	}
	for _, n := range []int64{math.MinInt64, math.MinInt64 + 1, -1 << 56, -1<<32 - 1, -1 << 32, 1<<31 - 1, 1 << 31, 1<<32 - 1, 1 << 32, 0x0102030405060708, math.MaxInt64 - 1, math.MaxInt64} {
		try(func(x *api.Table) { x.Shifts, x.Until = nil, n })
		try(func(x *api.Table) {
			x.Shifts, x.Until = x.Shifts[:1], math.MaxInt64
			x.Shifts[0].At = min(n, math.MaxInt64-1)
		})
	}
	for _, n := range []int{1, 255, 256, 257, 4095, 9999} {
		try(func(x *api.Table) { x.Tail[0].From = n })
	}
	for month := 1; month <= 12; month++ {
		for kind := range 4 {
			for day := 1; day <= 31; day += 5 {
				spot := api.Spot{Month: month, Kind: kind, Weekday: 1 + day%7, Day: day, Ref: day % 3}
				if kind == api.OnDay {
					spot.Weekday = 0
				}
				if kind == api.OnLast {
					spot.Day = 0
				}
				try(func(x *api.Table) { x.Tail = x.Tail[:1]; x.Tail[0].Spot = spot })
			}
		}
	}
	for n := range 41 {
		try(func(x *api.Table) { x.First.Abbr = strings.Repeat("a", n) })
		try(func(x *api.Table) { x.Shifts[3].Phase.Abbr = strings.Repeat("b", n) })
		try(func(x *api.Table) { x.Name = "A" + strings.Repeat("c", min(n, 39)) })
		try(func(x *api.Table) { x.Format = "A" + strings.Repeat("c", n/3) + "%s" })
		try(func(x *api.Table) { x.Tail[1].Name = "A" + strings.Repeat("c", n/3) })
		try(func(x *api.Table) { x.Tail[0].Letter = strings.Repeat("c", n/5) })
	}
}

// P15.1, P15.2: as many shifts as may be: of two kinds, and all of their own ones.
func TestAsManyShiftsAsMayBe(t *testing.T) {
	x := bare()
	x.Until = math.MaxInt64
	for i := range api.MaxShifts {
		x.Shifts = append(x.Shifts, api.Shift{At: int64(i) - 15000, Phase: api.Phase{Save: (i + 1) % 2, Abbr: "X"}})
	}
	saves(t, x)
	// All kinds are of their own, so that each one's place and where its abbreviation begins are told by a rule.
	r := raw{magic: "ANL1", name: "A", n: 30000, k: 30001, kinds: []rawKind{{}}, until: math.MaxInt64}
	pool := []byte("X\x00")
	for i := range api.MaxShifts {
		abbr := fmt.Sprintf("%040d", i)
		x.Shifts[i].Phase = api.Phase{Offset: i, Abbr: abbr}
		r.ats, r.places = append(r.ats, x.Shifts[i].At), append(r.places, uint32(i+1))
		r.kinds = append(r.kinds, rawKind{int32(i), 0, uint32(2 + i*41)})
		pool = append(pool, abbr+"\x00"...)
	}
	r.pool, r.m = string(pool), uint32(len(pool))
	s, e := image.Save(x)
	if s != r.bytes() || e != api.OK {
		t.Errorf("%d bytes, %d", len(s), e)
	}
	if got, e := image.Load(s); !table.Same(got, x) || e != api.OK {
		t.Errorf("%d shifts, %d", len(got.Shifts), e)
	}
	for _, turned := range []int{0, 5, 50, 240007, 300000, 500000, len(s) - 1} {
		isNone(t, "a byte turned", s[:turned]+string([]byte{s[turned] ^ 1})+s[turned+1:])
	}
	x.Shifts = append(x.Shifts, api.Shift{At: 1 << 20})
	refuses(t, "one shift more", x)
}

// P15.1: tables that aren't right, those among them whose fields would be right if they were cut to their form.
func TestSaveOfWrong(t *testing.T) {
	refuses(t, "the zero table", api.Table{})
	for i, change := range []func(x *api.Table){
		func(x *api.Table) { x.Name = "" }, func(x *api.Table) { x.Name = "a//b" }, func(x *api.Table) { x.Name = strings.Repeat("a", 41) }, func(x *api.Table) { x.Name = strings.Repeat("a", 257) }, func(x *api.Table) { x.Name = "A\x00" },
		func(x *api.Table) { x.First.Offset = 86400 }, func(x *api.Table) { x.First.Offset = -86400 }, func(x *api.Table) { x.First.Offset += 1 << 32 }, func(x *api.Table) { x.First.Save = 43201 }, func(x *api.Table) { x.First.Save = -1 << 32 },
		func(x *api.Table) { x.First.Abbr = strings.Repeat("a", 41) }, func(x *api.Table) { x.First.Abbr = "a b" }, func(x *api.Table) { x.First.Abbr = "a\x00" }, func(x *api.Table) { x.First.Abbr = "\x7f" },
		func(x *api.Table) { x.Shifts[1].Phase.Offset = 86400 }, func(x *api.Table) { x.Shifts[1].Phase.Offset += 1 << 33 }, func(x *api.Table) { x.Shifts[4].Phase.Save = -43201 }, func(x *api.Table) { x.Shifts[4].Phase.Save = math.MinInt }, func(x *api.Table) { x.Shifts[4].Phase.Abbr = "\xc3\xa4" }, func(x *api.Table) { x.Shifts[0].Phase.Abbr = "\x00" },
		func(x *api.Table) { x.Shifts[0].Phase = x.First }, func(x *api.Table) { x.Shifts[1].Phase = x.Shifts[0].Phase }, func(x *api.Table) { x.Shifts[1].At = x.Shifts[0].At }, func(x *api.Table) { slices.Reverse(x.Shifts) }, func(x *api.Table) { x.Shifts[4].At = x.Until }, func(x *api.Table) { x.Until = 0 },
		func(x *api.Table) { x.Tail = nil }, func(x *api.Table) { x.Tail, x.Format = nil, "" }, func(x *api.Table) { x.Tail, x.Offset = nil, 0 }, func(x *api.Table) { x.Format = "" }, func(x *api.Table) { x.Format = "%" }, func(x *api.Table) { x.Format = strings.Repeat("a", 21) }, func(x *api.Table) { x.Offset = 86400 }, func(x *api.Table) { x.Offset += 1 << 32 }, func(x *api.Table) { x.Offset = 86399 },
		func(x *api.Table) { x.Tail = slices.Repeat(x.Tail, 2) }, func(x *api.Table) { x.Tail = slices.Repeat(x.Tail, 129)[:257] }, func(x *api.Table) { x.Tail = slices.Repeat(x.Tail, 129) }, func(x *api.Table) { x.Tail[1] = x.Tail[0] },
		func(x *api.Table) { x.Tail[0].Name = "" }, func(x *api.Table) { x.Tail[1].Name = strings.Repeat("a", 21) }, func(x *api.Table) { x.Tail[0].From = 0 }, func(x *api.Table) { x.Tail[1].From = 10000 }, func(x *api.Table) { x.Tail[1].From += 1 << 16 }, func(x *api.Table) { x.Tail[1].From = -1 },
		func(x *api.Table) { x.Tail[0].To = 9999 }, func(x *api.Table) { x.Tail[1].To = 0 }, func(x *api.Table) { x.Tail[1].To = api.Ever + 1 },
		func(x *api.Table) { x.Tail[0].Spot.Month = 0 }, func(x *api.Table) { x.Tail[0].Spot.Month += 256 }, func(x *api.Table) { x.Tail[0].Spot.Kind = 4 }, func(x *api.Table) { x.Tail[0].Spot.Kind += 256 }, func(x *api.Table) { x.Tail[0].Spot.Weekday = 0 }, func(x *api.Table) { x.Tail[0].Spot.Weekday -= 256 }, func(x *api.Table) { x.Tail[1].Spot.Day = 1 }, func(x *api.Table) { x.Tail[1].Spot.Day = 256 }, func(x *api.Table) { x.Tail[0].Spot.Time = 604800 }, func(x *api.Table) { x.Tail[0].Spot.Time += 1 << 32 }, func(x *api.Table) { x.Tail[0].Spot.Ref = 3 }, func(x *api.Table) { x.Tail[0].Spot.Ref -= 256 },
		func(x *api.Table) { x.Tail[0].Save = 43201 }, func(x *api.Table) { x.Tail[0].Save -= 1 << 32 }, func(x *api.Table) { x.Tail[0].Letter = "-" }, func(x *api.Table) { x.Tail[0].Letter = "a/b" }, func(x *api.Table) { x.Tail[1].Letter = "123456789" }, func(x *api.Table) { x.Tail[1].Letter = strings.Repeat("1", 256) },
	} {
		x := whole()
		change(&x)
		refuses(t, fmt.Sprintf("change %d", i), x)
	}
}
