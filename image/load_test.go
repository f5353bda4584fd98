package image_test

import (
	"fmt"
	"math"
	"slices"
	"strings"
	"testing"

	"analemma/api"
	"analemma/image"
	"analemma/sample"
	"analemma/table"
)

// P15.2: bytes of all kinds that are no image.
func TestLoadOfOtherBytes(t *testing.T) {
	sample.Every("\x00\x01A\xff", 6, func(s string) {
		isNone(t, "few bytes", s)
		isNone(t, "the beginning, and few bytes", "ANL1"+s)
		isNone(t, "few bytes with their sum", summed("ANL1"+s))
	})
	for _, magic := range []string{"", "ANL", "ANL2", "anl1", "ANL1\x00", "\x00ANL1", "1LNA", "ANL\x00", "\xff\xff\xff\xff"} {
		r := rawOf(whole())
		r.magic = magic
		isNone(t, "another beginning", r.bytes())
	}
	for _, s := range []string{"", "ANL1", strings.Repeat("\x00", 100), strings.Repeat("\xff", 100), strings.Repeat("ANL1", 100), "ANL1" + strings.Repeat("\x00", 1000), "ANL1" + strings.Repeat("\xff", 1000)} {
		isNone(t, "other bytes", s)
		isNone(t, "other bytes with their sum", summed(s))
	}
}

// P15.2, P15.4: each length short of a whole image, bytes behind the sum, each byte taken away, and each put in, all of them as they are and with their own sum.
func TestLoadOfOtherLengths(t *testing.T) {
	for _, w := range writtenOut() {
		s := w.bytes()
		content := s[:len(s)-4]
		for n := range len(s) {
			isNone(t, "too short", s[:n])
			isNone(t, "without the beginning", s[n+1:])
			isNone(t, "without a byte", s[:n]+s[n+1:])
		}
		for n := range len(content) {
			isNone(t, "too short, with its sum", summed(content[:n]))
			isNone(t, "without the beginning, with its sum", summed(content[n+1:]))
			loads(t, "without a byte, with its sum", summed(content[:n]+content[n+1:]))
			for _, b := range []string{"\x00", "\x01", "A", "\xff"} {
				loads(t, "with one more byte, with its sum", summed(content[:n]+b+content[n:]))
			}
		}
		for _, more := range []string{"\x00", "\x01", "\xff", "\x00\x00\x00\x00", s[len(s)-4:], s} {
			isNone(t, "bytes behind the sum", s+more)
			isNone(t, "bytes ahead of the sum", summed(content+more))
			isNone(t, "bytes ahead of all", more+s)
			isNone(t, "bytes ahead of all, with their sum", summed(more+content))
		}
		isNone(t, "the sum twice", summed(s))
	}
}

// P15.2: wrong sums.
func TestLoadOfWrongSums(t *testing.T) {
	for _, w := range writtenOut() {
		s := w.bytes()
		content, last := s[:len(s)-4], s[len(s)-4:]
		for bit := range 32 {
			b := []byte(last)
			b[bit/8] ^= 1 << (bit % 8)
			isNone(t, "a bit of the sum turned", content+string(b))
		}
		b := []byte(last)
		slices.Reverse(b)
		for _, other := range []string{"\x00\x00\x00\x00", "\xff\xff\xff\xff", string(b), summed(content[4:])[len(content)-4:], summed(content + last)[len(s):]} {
			isNone(t, "another sum", content+other)
		}
	}
}

// P15.4: every byte of an image, turned alone into each other one.
func TestEveryByteTurned(t *testing.T) {
	for i, x := range small() {
		if i%25 != 0 && i > 4 {
			continue
		}
		s, _ := image.Save(x)
		b := []byte(s)
		for at := range b {
			for other := range 256 {
				if b[at] = byte(other); byte(other) == s[at] {
					continue
				}
				if got, e := image.Load(string(b)); !none(got) || e != api.ErrImage {
					t.Fatalf("byte %d of % x turned to %d: %v, %d", at, s, other, got, e)
				}
			}
			b[at] = s[at]
		}
	}
	for _, x := range compiled(zones) {
		s, _ := image.Save(x)
		for at := range len(s) {
			for _, other := range []byte{s[at] + 1, s[at] - 1, s[at] ^ 0x80, s[at] + 13} {
				isNone(t, fmt.Sprintf("byte %d turned to %d", at, other), s[:at]+string([]byte{other})+s[at+1:])
			}
		}
	}
}

// P15.2: every byte of an image turned alone, with the sum that it has then: just those are loaded that are another table's image.
func TestEveryByteTurnedWithItsSum(t *testing.T) {
	seen := map[bool]int{}
	for _, w := range writtenOut() {
		s := w.bytes()
		content := []byte(s[:len(s)-4])
		for at := range content {
			was := content[at]
			for other := range 256 {
				content[at] = byte(other)
				seen[loads(t, fmt.Sprintf("%s, byte %d turned to %d", w.what, at, other), summed(string(content)))]++
			}
			content[at] = was
		}
	}
	if seen[true] < 5000 || seen[false] < 5000 {
		t.Error(seen)
	}
}

// changedRaw is what an image has, changed.
type changedRaw struct {
	what   string
	change func(r *raw)
}

// changedKinds are images, but for their kinds and their places.
func changedKinds() []changedRaw {
	return []changedRaw{
		{"the first two kinds in the other order, and their places", func(r *raw) {
			r.kinds[0], r.kinds[1] = r.kinds[1], r.kinds[0]
			r.places = []uint32{0, 1, 2, 0, 3}
		}},
		{"two later kinds in the other order, and their places", func(r *raw) {
			r.kinds[2], r.kinds[1] = r.kinds[1], r.kinds[2]
			r.places = []uint32{2, 0, 1, 2, 3}
		}},
		{"the last two kinds in the other order, and their places", func(r *raw) {
			r.kinds[2], r.kinds[3] = r.kinds[3], r.kinds[2]
			r.places = []uint32{1, 0, 3, 1, 2}
		}},
		{"a kind twice, both named", func(r *raw) { r.kinds, r.k, r.places[3] = append(r.kinds, r.kinds[1]), 5, 4 }},
		{"a kind twice, both named in their order", func(r *raw) {
			r.kinds, r.k = slices.Insert(r.kinds, 3, r.kinds[1]), 5
			r.places = []uint32{1, 0, 2, 3, 4}
		}},
		{"the first kind twice, both named in their order", func(r *raw) {
			r.kinds, r.k = slices.Insert(r.kinds, 2, r.kinds[0]), 5
			r.places = []uint32{1, 2, 3, 1, 4}
		}},
		{"a kind twice, one named by none", func(r *raw) { r.kinds, r.k = append(r.kinds, r.kinds[1]), 5 }},
		{"a kind named by none", func(r *raw) { r.kinds, r.k = append(r.kinds, rawKind{7, 7, 0}), 5 }},
		{"a kind named by none in the midst", func(r *raw) {
			r.kinds, r.k = slices.Insert(r.kinds, 3, rawKind{7, 7, 0}), 5
			r.places = []uint32{1, 0, 2, 1, 4}
		}},
		{"a kind named by none ahead of all", func(r *raw) {
			r.kinds, r.k = slices.Insert(r.kinds, 0, rawKind{7, 7, 0}), 5
			r.places = []uint32{2, 1, 3, 2, 4}
		}},
		{"many kinds named by none", func(r *raw) { r.kinds, r.k = slices.Concat(r.kinds, make([]rawKind, 100)), 104 }},
		{"no kinds", func(r *raw) { r.kinds, r.k = nil, 0 }},
		{"no kinds, shifts and pool", func(r *raw) { r.kinds, r.ats, r.places, r.pool, r.k, r.n, r.m = nil, nil, nil, "", 0, 0, 0 }},
		{"a place at the kinds' end", func(r *raw) { r.places[4] = 4 }},
		{"a place beyond the kinds", func(r *raw) { r.places[0] = 5 }},
		{"a place far beyond the kinds", func(r *raw) { r.places[2] = math.MaxUint32 }},
		{"a place beyond the kinds, by the greatest bit", func(r *raw) { r.places[1] |= 1 << 31 }},
		{"a shift with the kind of the one ahead", func(r *raw) { r.places[3] = 2 }},
		{"a first shift with the kind of First", func(r *raw) { r.places = []uint32{0, 1, 2, 1, 3} }},
	}
}

// changedPool are images, but for their pools and where abbreviations begin there.
func changedPool() []changedRaw {
	pool := func(text string, at ...uint32) func(r *raw) {
		return func(r *raw) {
			r.pool, r.m = text, uint32(len(text))
			for i := range r.kinds {
				r.kinds[i].Abbr = at[i]
			}
		}
	}
	return []changedRaw{
		{"the pool in another order", pool("Y\x00XY\x00\x00", 2, 0, 5, 2)},
		{"the pool's last ones in another order", pool("XY\x00\x00Y\x00", 0, 4, 3, 0)},
		{"the empty one first", pool("\x00XY\x00Y\x00", 1, 4, 0, 1)},
		{"an abbreviation twice, both named", pool("XY\x00Y\x00\x00XY\x00", 0, 3, 5, 6)},
		{"the empty one twice, one named by none", pool("XY\x00Y\x00\x00\x00", 0, 3, 5, 0)},
		{"the empty one twice, the latter one named", pool("XY\x00Y\x00\x00\x00", 0, 3, 6, 0)},
		{"one named by none at the end", pool("XY\x00Y\x00\x00Z\x00", 0, 3, 5, 0)},
		{"one named by none at the beginning", pool("Z\x00XY\x00Y\x00\x00", 2, 5, 7, 2)},
		{"one named by none in the midst", pool("XY\x00Z\x00Y\x00\x00", 0, 5, 7, 0)},
		{"one within another", pool("XY\x00\x00", 0, 1, 3, 0)},
		{"one within another, though it is there", pool("XY\x00Y\x00\x00", 0, 1, 5, 0)},
		{"the empty one at another's end", pool("XY\x00Y\x00", 0, 3, 2, 0)},
		{"the empty one at another's end, though it is there", pool("XY\x00Y\x00\x00", 0, 3, 4, 0)},
		{"a beginning at the pool's end", pool("XY\x00Y\x00\x00", 0, 3, 6, 0)},
		{"a beginning beyond the pool", pool("XY\x00Y\x00\x00", 0, 7, 5, 0)},
		{"a beginning far beyond the pool", pool("XY\x00Y\x00\x00", 0, 3, 5, math.MaxUint32)},
		{"a beginning beyond the pool, by the greatest bit", pool("XY\x00Y\x00\x00", 1<<31, 3, 5, 0)},
		{"no pool", pool("", 0, 0, 0, 0)},
		{"a pool without its last end", pool("XY\x00Y\x00ab", 0, 3, 5, 0)},
		{"a pool without any end", pool("XYZabc", 0, 3, 5, 0)},
		{"a pool that ends with an abbreviation", pool("\x00Y\x00XY", 3, 1, 0, 3)},
		{"a pool of ends alone", pool("\x00\x00\x00\x00\x00\x00", 0, 3, 5, 0)},
		{"an abbreviation with a blank", pool("X \x00Y\x00\x00", 0, 3, 5, 0)},
		{"an abbreviation with a byte 7F", pool("X\x7f\x00Y\x00\x00", 0, 3, 5, 0)},
		{"an abbreviation with a byte 80", pool("X\x80\x00Y\x00\x00", 0, 3, 5, 0)},
		{"too long an abbreviation", pool(strings.Repeat("a", 41)+"\x00Y\x00\x00", 0, 42, 44, 0)},
		{"far too long an abbreviation", pool(strings.Repeat("a", 100000)+"\x00Y\x00\x00", 0, 100001, 100003, 0)},
		{"a pool that is told to be shorter", func(r *raw) { r.m-- }},
		{"a pool that is told to be longer", func(r *raw) { r.m++ }},
	}
}

// P15.2: kinds and pools in another order, with one twice, with one that nothing names, and places beyond them.
func TestLoadOfOtherKindsAndPools(t *testing.T) {
	for _, of := range []api.Table{whole(), short()} {
		for _, c := range append(changedKinds(), changedPool()...) {
			r := rawOf(of)
			c.change(&r)
			isNone(t, c.what, r.bytes())
			if loads(t, c.what, r.bytes()) {
				t.Errorf("%s: is an image", c.what)
			}
		}
	}
	// Of kinds in all orders behind First just one is loaded.
	base := rawOf(short())
	orders := 0
	for order := 0; order < 256; order += 4 {
		r := base.copied()
		for i := range r.kinds {
			r.kinds[i] = base.kinds[order>>(2*i)&3]
		}
		for i, place := range base.places {
			r.places[i] = uint32(slices.Index(r.kinds, base.kinds[place]))
		}
		if loads(t, fmt.Sprint("order ", order), r.bytes()) {
			orders++
		}
	}
	if orders != 1 {
		t.Error(orders, " orders of kinds are loaded")
	}
	seen := map[bool]int{}
	for places := range 1 << 15 {
		r := base.copied()
		for i := range r.places {
			r.places[i] = uint32(places >> (3 * i) & 7)
		}
		seen[loads(t, fmt.Sprint("places ", places), r.bytes())]++
	}
	// In as many ways six phases in a row can be of four kinds, none of the kind of the one ahead: in as many as five items fall into three heaps.
	if seen[true] != 25 {
		t.Error(seen)
	}
}

// P15.2: counts too great for any memory, and such as are a little wrong.
func TestLoadOfWrongCounts(t *testing.T) {
	counts := []uint32{0, 1, 2, 3, 4, 5, 6, 7, 8, 40, 41, 100, 255, 256, 29999, 30000, 30001, 30002, 65535, 65536, 1 << 24, 1<<28 - 1, 1 << 28, 1<<29 - 1, 1 << 29, 1<<29 + 1, 1 << 30, 1<<31 - 1, 1 << 31, 1<<32 - 8, 1<<32 - 2, 1<<32 - 1}
	for _, of := range []api.Table{bare(), short(), whole()} {
		base := rawOf(of)
		for _, a := range counts {
			for i := range 3 {
				r := base.copied()
				count := []*uint32{&r.n, &r.k, &r.m}[i]
				if *count == a {
					continue
				}
				*count = a
				isNone(t, fmt.Sprintf("count %d is %d", i, a), r.bytes())
			}
			for _, b := range counts {
				for _, all := range [][3]uint32{{a, b, base.m}, {a, base.k, b}, {base.n, a, b}, {a, a, b}, {a, b, b}} {
					r := base.copied()
					r.n, r.k, r.m = all[0], all[1], all[2]
					loads(t, fmt.Sprint("counts ", all), r.bytes())
				}
			}
		}
		for n := range 256 {
			r := base.copied()
			if r.rules = uint8(n); n != len(of.Tail) {
				isNone(t, fmt.Sprint(n, " rules told"), r.bytes())
			}
		}
	}
}

// P15.2: tables that aren't right in the form of an image.
func TestLoadOfTablesNotRight(t *testing.T) {
	for _, c := range []changedRaw{
		{"no name", func(r *raw) { r.name = "" }}, {"no zone's name", func(r *raw) { r.name = "A//B" }}, {"a name with a byte 00", func(r *raw) { r.name = "A\x00" }}, {"too long a name", func(r *raw) { r.name = strings.Repeat("a", 41) }}, {"the longest text as a name", func(r *raw) { r.name = strings.Repeat("a", 255) }},
		{"First's offset a day", func(r *raw) { r.kinds[0].Offset = 86400 }}, {"an offset a day below 0", func(r *raw) { r.kinds[2].Offset = -86400 }}, {"the least offset", func(r *raw) { r.kinds[1].Offset = math.MinInt32 }}, {"the greatest offset", func(r *raw) { r.kinds[1].Offset = math.MaxInt32 }},
		{"First's saving too great", func(r *raw) { r.kinds[0].Save = 43201 }}, {"a saving too small", func(r *raw) { r.kinds[3].Save = -43201 }}, {"the least saving", func(r *raw) { r.kinds[1].Save = math.MinInt32 }}, {"the greatest saving", func(r *raw) { r.kinds[1].Save = math.MaxInt32 }},
		{"two shifts at one second", func(r *raw) { r.ats[1] = r.ats[0] }}, {"shifts falling", func(r *raw) { r.ats[1], r.ats[2] = r.ats[2], r.ats[1] }}, {"the last shift ahead of all", func(r *raw) { r.ats[4] = math.MinInt64 }}, {"a shift at Until", func(r *raw) { r.ats[4] = r.until }}, {"a shift behind Until", func(r *raw) { r.ats[4] = math.MaxInt64 }}, {"the least Until", func(r *raw) { r.until = math.MinInt64 }},
		{"no tail, but an offset", func(r *raw) { r.rules, r.tail, r.format = 0, nil, "" }}, {"no tail, but a format", func(r *raw) { r.rules, r.tail, r.offset = 0, nil, 0 }}, {"a tail without a format", func(r *raw) { r.format = "" }}, {"a format of marks", func(r *raw) { r.format = "%s%z" }}, {"too long a format", func(r *raw) { r.format = strings.Repeat("a", 21) }},
		{"an offset of a day", func(r *raw) { r.offset = 86400 }}, {"an offset that with a saving is a day", func(r *raw) { r.offset = 82800 }}, {"the least offset behind a tail", func(r *raw) { r.offset = math.MinInt32 }},
		{"three rules", func(r *raw) { r.rules, r.tail = 3, append(r.tail, r.tail[0]) }}, {"a third rule that isn't near", func(r *raw) { r.rules, r.tail = 3, append(r.tail, r.tail[0]); r.tail[2].number.Month = 7 }}, {"as many rules as can be told", func(r *raw) { r.rules, r.tail = 255, slices.Repeat(r.tail, 128)[:255] }}, {"one rule twice", func(r *raw) { r.tail[1] = r.tail[0] }},
		{"rules that are near", func(r *raw) { r.tail[1].number = r.tail[0].number; r.tail[1].number.Time += 3600 }},
		{"a rule without a name", func(r *raw) { r.tail[0].name = "" }}, {"a rule of no set's name", func(r *raw) { r.tail[1].name = "1" }}, {"a rule of too long a name", func(r *raw) { r.tail[1].name = strings.Repeat("a", 21) }},
		{"the year 0", func(r *raw) { r.tail[0].number.From = 0 }}, {"the year 10000", func(r *raw) { r.tail[0].number.From = 10000 }}, {"the year 65535", func(r *raw) { r.tail[0].number.From = 65535 }},
		{"month 0", func(r *raw) { r.tail[0].number.Month = 0 }}, {"month 13", func(r *raw) { r.tail[0].number.Month = 13 }}, {"a fifth kind of days", func(r *raw) { r.tail[0].number.Kind = 4 }}, {"no weekday", func(r *raw) { r.tail[0].number.Weekday = 0 }}, {"weekday 8", func(r *raw) { r.tail[0].number.Weekday = 8 }}, {"day 32", func(r *raw) { r.tail[0].number.Day = 32 }}, {"a day of a last one", func(r *raw) { r.tail[1].number.Day = 1 }},
		{"too great a time", func(r *raw) { r.tail[0].number.Time = 604800 }}, {"too small a time", func(r *raw) { r.tail[0].number.Time = -604800 }}, {"a fourth clock", func(r *raw) { r.tail[0].number.Ref = 3 }}, {"too great a saving", func(r *raw) { r.tail[0].number.Save = 43201 }}, {"the least saving of a rule", func(r *raw) { r.tail[0].number.Save = math.MinInt32 }},
		{"- as a letter", func(r *raw) { r.tail[0].letter = "-" }}, {"a letter of a blank", func(r *raw) { r.tail[0].letter = " " }}, {"too long a letter", func(r *raw) { r.tail[1].letter = "123456789" }},
		{"bytes ahead of the sum", func(r *raw) { r.more = "\x00" }},
	} {
		r := rawOf(whole())
		c.change(&r)
		isNone(t, c.what, r.bytes())
		if loads(t, c.what, r.bytes()) {
			t.Errorf("%s: is an image", c.what)
		}
	}
	for _, n := range []int{29999, 30000, 30001, 30002, 60000} {
		r := rawOf(bare())
		r.n, r.k, r.kinds, r.until = uint32(n), 2, []rawKind{{}, {1, 1, 0}}, 1<<40
		for i := range n {
			r.ats, r.places = append(r.ats, int64(i)), append(r.places, uint32(1-i%2))
		}
		x, e := image.Load(r.bytes())
		if n > 30000 {
			if !none(x) || e != api.ErrImage {
				t.Errorf("%d shifts: %d, %d", n, len(x.Shifts), e)
			}
			continue
		}
		if len(x.Shifts) != n || e != api.OK || imageOf(x) != r.bytes() {
			t.Errorf("%d shifts: %d, %d", n, len(x.Shifts), e)
		}
	}
}

// P15.2: images by a fixed rule with something of one another, and with bytes changed, all with their own sums.
func TestLoadByARule(t *testing.T) {
	d := sample.Rolled(1 << 16)
	var l []raw
	for _, x := range small() {
		l = append(l, rawOf(x))
	}
	seen := map[bool]int{}
	for i := range 40000 {
		r, from := sample.Pick(d, l...).copied(), sample.Pick(d, l...)
		for range 1 + d.To(2) {
			mix(d, &r, from)
		}
		s := r.bytes()
		if d.To(8) == 0 {
			b := []byte(s[:len(s)-4])
			b[d.To(len(b))] = byte(d.To(256))
			s = summed(string(b))
		}
		seen[loads(t, fmt.Sprint("number ", i), s)]++
	}
	if seen[true] < 3000 || seen[false] < 3000 {
		t.Error(seen)
	}
}

// mix puts something of another image into one, or turns something.
func mix(d *sample.Dice, r *raw, from raw) {
	switch d.To(12) {
	case 0:
		r.name = from.name
	case 1:
		r.until = from.until
	case 2:
		r.tail, r.rules = slices.Clone(from.tail), from.rules
	case 3:
		r.offset = from.offset
	case 4:
		r.format = from.format
	case 5:
		r.kinds, r.k = slices.Clone(from.kinds), from.k
	case 6:
		r.pool, r.m = from.pool, from.m
	case 7:
		r.places, r.ats, r.n = slices.Clone(from.places), slices.Clone(from.ats), from.n
	case 8:
		k := &r.kinds[d.To(len(r.kinds))]
		k.Offset += int32(d.From(-1, 1))
		k.Abbr += uint32(d.To(2))
	case 9:
		if len(r.places) > 0 {
			r.places[d.To(len(r.places))] = uint32(d.To(len(r.kinds) + 1))
		}
	case 10:
		if len(r.ats) > 0 {
			r.ats[d.To(len(r.ats))] += int64(d.From(-2, 2))
		}
	case 11:
		r.n += uint32(d.To(2))
		r.m -= uint32(d.To(2))
	}
}

// P15.2: Load of what is loaded again, and of images put together.
func TestLoadOfTwo(t *testing.T) {
	for _, x := range small()[:20] {
		s := imageOf(x)
		isNone(t, "an image twice", s+s)
		isNone(t, "an image twice, with their sum", summed(s+s))
		loads(t, "two halves", s[:len(s)/2]+imageOf(whole())[len(s)/2:])
		if got, e := image.Load(s); !table.Same(got, x) || e != api.OK {
			t.Errorf("%v, %d; must be %v", got, e, x)
		}
	}
}
