package image_test

import (
	"bytes"
	"encoding/binary"
	"fmt"
	"math"
	"math/big"
	"slices"
	"strings"
	"testing"

	"analemma/api"
	"analemma/image"
	"analemma/sample"
	"analemma/source"
	"analemma/table"
)

const (
	hour     = 3600
	wholeDay = 86400
)

// raw is what an image has, by its form, right or not.
type raw struct {
	magic, name string
	n, k, m     uint32
	ats         []int64
	places      []uint32
	kinds       []rawKind
	pool        string
	until       int64
	rules       uint8
	tail        []rawRule
	offset      int32
	format      string
	more        string // what stands ahead of the sum, and should not
}

// rawKind is a kind by its form.
type rawKind struct {
	Offset, Save int32
	Abbr         uint32
}

// rawRule is a rule by its form, its texts apart.
type rawRule struct {
	name   string
	number struct {
		From                      uint16
		Month, Kind, Weekday, Day uint8
		Time                      int32
		Ref                       uint8
		Save                      int32
	}
	letter string
}

// rawOf is what a table's image has, by the words.
func rawOf(x api.Table) raw {
	phases := []api.Phase{x.First}
	var abbrs []string
	r := raw{magic: "ANL1", name: x.Name, n: uint32(len(x.Shifts)), until: x.Until, rules: uint8(len(x.Tail)), offset: int32(x.Offset), format: x.Format}
	for _, s := range x.Shifts {
		if !slices.Contains(phases, s.Phase) {
			phases = append(phases, s.Phase)
		}
		r.ats = append(r.ats, s.At)
		r.places = append(r.places, uint32(slices.Index(phases, s.Phase)))
	}
	for _, p := range phases {
		if !slices.Contains(abbrs, p.Abbr) {
			abbrs = append(abbrs, p.Abbr)
			r.pool += p.Abbr + "\x00"
		}
		ahead := abbrs[:slices.Index(abbrs, p.Abbr)]
		r.kinds = append(r.kinds, rawKind{int32(p.Offset), int32(p.Save), uint32(len(strings.Join(ahead, "")) + len(ahead))})
	}
	r.k, r.m = uint32(len(r.kinds)), uint32(len(r.pool))
	for _, rule := range x.Tail {
		r.tail = append(r.tail, rawRuleOf(rule))
	}
	return r
}

// rawRuleOf is a rule by its form.
func rawRuleOf(x api.Rule) rawRule {
	r := rawRule{name: x.Name, letter: x.Letter}
	r.number.From, r.number.Save = uint16(x.From), int32(x.Save)
	r.number.Month, r.number.Kind, r.number.Weekday, r.number.Day = uint8(x.Spot.Month), uint8(x.Spot.Kind), uint8(x.Spot.Weekday), uint8(x.Spot.Day)
	r.number.Time, r.number.Ref = int32(x.Spot.Time), uint8(x.Spot.Ref)
	return r
}

// copied is the same in new memory.
func (r raw) copied() raw {
	r.ats, r.places, r.kinds, r.tail = slices.Clone(r.ats), slices.Clone(r.places), slices.Clone(r.kinds), slices.Clone(r.tail)
	return r
}

// content are the bytes ahead of the sum.
func (r raw) content() string {
	var b bytes.Buffer
	put := func(x any) {
		if err := binary.Write(&b, binary.BigEndian, x); err != nil {
			panic(err)
		}
	}
	short := func(text string) {
		put(uint8(len(text)))
		b.WriteString(text)
	}
	b.WriteString(r.magic)
	short(r.name)
	put([]uint32{r.n, r.k, r.m})
	put(r.ats)
	put(r.places)
	put(r.kinds)
	b.WriteString(r.pool)
	put(r.until)
	put(r.rules)
	for _, rule := range r.tail {
		short(rule.name)
		put(rule.number)
		short(rule.letter)
	}
	put(r.offset)
	short(r.format)
	return b.String() + r.more
}

// bytes are all bytes, with the sum.
func (r raw) bytes() string { return summed(r.content()) }

// imageOf is a right table's image, by the words.
func imageOf(x api.Table) string { return rawOf(x).bytes() }

// summed are bytes with their sum behind them.
func summed(s string) string {
	return string(binary.BigEndian.AppendUint32([]byte(s), sum(s)))
}

// sum is the sum of bytes, by the words: reckoned without bounds, and taken modulo 2^32 at last.
func sum(s string) uint32 {
	all, factor, rest := big.NewInt(0), big.NewInt(31), big.NewInt(1<<32)
	for i := range len(s) {
		all.Add(all.Mul(all, factor), big.NewInt(int64(s[i])))
		if i%64 == 63 || i == len(s)-1 {
			all.Mod(all, rest)
		}
	}
	return uint32(all.Uint64())
}

// cutter takes bytes away from the beginning of a text.
type cutter struct{ rest string }

// text takes a text; it panics if there are too few bytes.
func (c *cutter) text(n int) string {
	text := c.rest[:n]
	c.rest = c.rest[n:]
	return text
}

// number takes a number of so many bytes without a sign.
func (c *cutter) number(n int) int64 {
	return new(big.Int).SetBytes([]byte(c.text(n))).Int64()
}

// signed takes a number of four bytes with one.
func (c *cutter) signed() int { return int(int32(c.number(4))) }

// wide takes a number of eight bytes with one.
func (c *cutter) wide() int64 { return int64(binary.BigEndian.Uint64([]byte(c.text(8)))) }

// meant is the table whose image some bytes are, and whether they are one, by the words: all that the form says is asked of the bytes themselves.
func meant(s string) (x api.Table, ok bool) {
	defer func() {
		if recover() != nil || !ok {
			x, ok = api.Table{}, false
		}
	}()
	content := s[:len(s)-4]
	if summed(content) != s || content[:4] != "ANL1" {
		return x, false
	}
	c := &cutter{content[4:]}
	x.Name = c.text(int(c.number(1)))
	n, k, m := c.number(4), c.number(4), c.number(4)
	if 12*n+12*k+m > int64(len(s)) {
		return x, false
	}
	for range n {
		x.Shifts = append(x.Shifts, api.Shift{At: c.wide()})
	}
	places := []int64{0}
	for range n {
		places = append(places, c.number(4))
	}
	phases := make([]api.Phase, k)
	var abbrs []int
	for i := range k {
		phases[i].Offset, phases[i].Save = c.signed(), c.signed()
		abbrs = append(abbrs, int(c.number(4)))
	}
	pool := c.text(int(m))
	if !told(places, int(k)) || !pooled(abbrs, pool) {
		return x, false
	}
	for i, at := range abbrs {
		phases[i].Abbr = strings.Split(pool[at:], "\x00")[0]
	}
	x.First = phases[0]
	for i := range x.Shifts {
		x.Shifts[i].Phase = phases[places[i+1]]
	}
	x.Until = c.wide()
	for range c.number(1) {
		x.Tail = append(x.Tail, ruleOf(c))
	}
	x.Offset = c.signed()
	x.Format = c.text(int(c.number(1)))
	return x, c.rest == "" && !twice(phases) && table.Right(x)
}

// ruleOf takes a rule.
func ruleOf(c *cutter) api.Rule {
	r := api.Rule{To: api.Ever, Name: c.text(int(c.number(1)))}
	r.From = int(c.number(2))
	for _, field := range sample.SpotFields(&r.Spot) {
		if field == &r.Spot.Time {
			*field = c.signed()
		} else {
			*field = int(c.number(1))
		}
	}
	r.Save = c.signed()
	r.Letter = c.text(int(c.number(1)))
	return r
}

// told tells whether places are those of so many items in the order in which they come first, all of them.
func told(places []int64, items int) bool {
	most := int64(-1)
	for _, place := range places {
		if place > most+1 {
			return false
		}
		most = max(most, place)
	}
	return most == int64(items)-1
}

// pooled tells whether a pool has each abbreviation once, in the order in which the kinds name them first.
func pooled(abbrs []int, pool string) bool {
	if !strings.HasSuffix(pool, "\x00") {
		return false
	}
	texts := strings.Split(strings.TrimSuffix(pool, "\x00"), "\x00")
	var places []int64
	at := map[int]int64{}
	begin := 0
	for i, text := range texts {
		at[begin] = int64(i)
		begin += len(text) + 1
	}
	for _, n := range abbrs {
		place, ok := at[n]
		if !ok {
			return false
		}
		places = append(places, place)
	}
	return told(places, len(texts)) && !twice(texts)
}

// twice tells whether an item comes twice.
func twice[T comparable](l []T) bool {
	for i, x := range l {
		if slices.Contains(l[:i], x) {
			return true
		}
	}
	return false
}

// none tells whether a table is the zero one.
func none(x api.Table) bool {
	return table.Same(x, api.Table{}) && len(x.Shifts) == 0 && len(x.Tail) == 0
}

// saves tries a right table: its image is the one by the words, and what was saved is loaded as it was, and saved again as the same bytes.
func saves(t *testing.T, x api.Table) {
	t.Helper()
	want := imageOf(x)
	s, e := image.Save(x)
	if s != want || e != api.OK {
		t.Fatalf("Save(%v): % x, %d; must be % x", x, s, e, want)
	}
	got, e := image.Load(s)
	if !table.Same(got, x) || e != api.OK {
		t.Fatalf("Load of the image of %v: %v, %d", x, got, e)
	}
	if again, e := image.Save(got); again != s || e != api.OK {
		t.Fatalf("%v, loaded, is saved as % x, %d; must be % x", x, again, e, s)
	}
}

// refuses tries a table that isn't right.
func refuses(t *testing.T, what string, x api.Table) {
	t.Helper()
	if table.Right(x) {
		t.Fatalf("%s: is right", what)
	}
	if s, e := image.Save(x); s != "" || e != api.ErrArg {
		t.Errorf("%s: Save tells %q, %d", what, s, e)
	}
}

// loads tries bytes: just those are loaded that are an image, by the words. It tells whether they are.
func loads(t *testing.T, what, s string) bool {
	t.Helper()
	want, ok := meant(s)
	got, e := image.Load(s)
	if !ok {
		isNone(t, what, s)
		return false
	}
	if !table.Same(got, want) || e != api.OK {
		t.Fatalf("%s: % x: %v, %d; must be %v", what, s, got, e, want)
	}
	if again, e := image.Save(got); again != s || e != api.OK {
		t.Fatalf("%s: % x is saved as % x, %d", what, s, again, e)
	}
	return true
}

// isNone tries bytes that are no image.
func isNone(t *testing.T, what, s string) {
	t.Helper()
	if x, e := image.Load(s); !none(x) || e != api.ErrImage {
		t.Fatalf("%s: % x: %v, %d; must be none", what, s, x, e)
	}
}

// tail is the one of the table whole.
func tail() []api.Rule {
	return []api.Rule{
		{Name: "R", From: 1970, To: api.Ever, Spot: api.Spot{Month: 4, Kind: api.OnAfter, Weekday: 7, Day: 1, Time: -7200, Ref: api.Universal}, Save: hour, Letter: "D"},
		{Name: "Q_1", From: 9999, To: api.Ever, Spot: api.Spot{Month: 10, Kind: api.OnLast, Weekday: 3, Time: 604799, Ref: api.Standard}, Save: -1800},
	}
}

// whole is a right table with shifts and a tail of two rules.
func whole() api.Table {
	x, y, z := api.Phase{Offset: -10, Abbr: "XY"}, api.Phase{Offset: hour, Save: hour, Abbr: "Y"}, api.Phase{Offset: -10, Save: -5}
	return api.Table{
		Name: "A/B", First: x, Until: 1 << 40,
		Shifts: []api.Shift{{At: -1 << 40, Phase: y}, {At: -1, Phase: x}, {At: 0, Phase: z}, {At: 300, Phase: y}, {At: 1 << 20, Phase: api.Phase{Offset: -20, Abbr: "XY"}}},
		Tail:   tail(), Offset: -hour, Format: "E%sT",
	}
}

// short is a right table without a tail.
func short() api.Table {
	x := whole()
	x.Tail, x.Offset, x.Format = nil, 0, ""
	return x
}

// bare is the table of the chapter's example.
func bare() api.Table { return api.Table{Name: "A", First: api.Phase{Abbr: "X"}} }

// compiled are the tables of all zones of a text.
func compiled(text string) []api.Table {
	s, f := source.Parse(text)
	if f != (api.Fault{}) {
		panic(fmt.Sprint(f))
	}
	var l []api.Table
	for z := range s.Zones {
		x, e := table.Compile(s, z)
		if e != api.OK {
			panic(fmt.Sprint(e))
		}
		l = append(l, x)
	}
	return l
}

// zones is a text of zones with tails of no rule, of one and of two, by each clock.
const zones = `
Rule US 1967 2006 - Oct lastSun 2:00  0    S
Rule US 1967 1973 - Apr lastSun 2:00  1:00 D
Rule US 1974 2006 - May lastSun 2:00s 1:00 D
Rule US 2007 max  - Mar Sun>=8  2:00  1:00 D
Rule US 2007 max  - Nov Sun<=7  2:00  0    S
Rule One 1990 max - Jul 1       -1:00u -0:30 +x
Zone America/New_York -4:56:02 - LMT 1883 Nov 18 12:03:58
                      -5:00 US E%sT
Zone -12 -23:29:59 One -/+
Zone Some/where_else 12:00 1:00 %z 1940
                     0:00:01 US -%s- 1980
                     11:00 - ABC
`

// anyPhase is one of few phases, of which many share an abbreviation.
func anyPhase(d *sample.Dice) api.Phase {
	return api.Phase{
		Offset: sample.Pick(d, 0, 0, hour, -hour, 86399, -86399, 255, 256, -256, 65536, -1),
		Save:   sample.Pick(d, 0, 0, 0, hour, -1800, 43200, -43200),
		Abbr:   sample.Pick(d, "", "X", "X", "XY", "Y", "!~", strings.Repeat("z", 40)),
	}
}

// anyTable is a right table by a fixed rule.
func anyTable(d *sample.Dice) api.Table {
	for {
		x := api.Table{Name: sample.Pick(d, "A", "A/B", "UTC", strings.Repeat("n", 40)), First: anyPhase(d)}
		at, ahead := sample.Pick[int64](d, math.MinInt64, -1<<40, -70000, -3, 0, 1<<31-2, 1<<33), x.First
		for range d.To(9) {
			p := anyPhase(d)
			if p != ahead {
				x.Shifts = append(x.Shifts, api.Shift{At: at, Phase: p})
			}
			at, ahead = at+sample.Pick[int64](d, 1, 2, 255, wholeDay, 1<<32+7), p
		}
		x.Until = sample.Pick(d, at, at+1, at+1<<31, 1<<62, math.MaxInt64)
		for range d.To(3) {
			r := d.Rule()
			r.To, r.Name = api.Ever, sample.Pick(d, "R", "R", "Long-name_of_20_bytes")
			x.Tail = append(x.Tail, r)
		}
		if len(x.Tail) > 0 {
			x.Offset, x.Format = sample.Pick(d, 0, hour, -12345), sample.Pick(d, "X", "%s", "E%sT", "%z", "A/B")
		}
		if table.Right(x) {
			return x
		}
	}
}

// tables are right tables of all kinds.
func tables() []api.Table {
	l := append(compiled(zones), bare(), short(), whole())
	one := whole()
	one.Shifts, one.Tail = one.Shifts[:1], one.Tail[:1]
	l = append(l, one)
	d := sample.Rolled(1 << 16)
	for range 400 {
		l = append(l, anyTable(d))
	}
	return l
}

// small are those of them whose images have few bytes.
func small() []api.Table {
	return slices.DeleteFunc(tables(), func(x api.Table) bool { return len(x.Shifts) > 10 })
}
