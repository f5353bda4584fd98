package sound_test

import (
	"fmt"
	"slices"
	"strings"
	"testing"
	"unsafe"

	"analemma/api"
	"analemma/sample"
	"analemma/sound"
	"analemma/source"
)

// linked is a source of zones and of links, each told by its target and its name with a > between.
func linked(zones, links string) api.Source {
	var s api.Source
	for _, name := range strings.Fields(zones) {
		s.Zones = append(s.Zones, api.Zone{Name: name, Eras: []api.Era{{Format: "X"}}})
	}
	for _, link := range strings.Fields(links) {
		target, name, _ := strings.Cut(link, ">")
		s.Links = append(s.Links, api.Link{Target: target, Name: name})
	}
	return s
}

// P13.1, P13.2, written out: links to zones, to links, to nothing and around, and links whose name something else has; to which zone each name leads, or to none (-1).
func TestLinks(t *testing.T) {
	for _, x := range []struct {
		zones, links string
		want         api.Flaw
		leads        map[string]int
	}{
		{"A B", "B>L", none, map[string]int{"A": 0, "B": 1, "L": 1, "l": -1, "": -1, "AB": -1, "C": -1}},
		{"A B", "B>L L>M M>N", none, map[string]int{"L": 1, "M": 1, "N": 1}},
		{"A B", "M>N L>M B>L", none, map[string]int{"L": 1, "M": 1, "N": 1}},
		{"A B", "L>M B>L A>K M>N N>O", none, map[string]int{"K": 0, "L": 1, "M": 1, "N": 1, "O": 1}},
		{"A B", "B>a A>b", none, map[string]int{"A": 0, "B": 1, "a": 1, "b": 0}},
		// To nothing.
		{"A", "C>L", ofLink(api.ErrUnknown, 0), map[string]int{"L": -1, "C": -1, "A": 0}},
		{"A", "A>K L>M C>L M>N", ofLink(api.ErrUnknown, 2), map[string]int{"K": 0, "L": -1, "M": -1, "N": -1, "C": -1}},
		{"A", "A>K a>L", ofLink(api.ErrUnknown, 1), map[string]int{"K": 0, "L": -1, "a": -1}},
		{"", "A>B", ofLink(api.ErrUnknown, 0), map[string]int{"A": -1, "B": -1}},
		// Around one, two, three and more.
		{"A", "L>L", ofLink(api.ErrOrder, 0), map[string]int{"L": -1, "A": 0}},
		{"A", "A>K L>L A>M", ofLink(api.ErrOrder, 1), map[string]int{"K": 0, "L": -1, "M": 0}},
		{"A", "L>M M>L", ofLink(api.ErrOrder, 0), map[string]int{"L": -1, "M": -1}},
		{"A", "A>K L>M K>J M>L", ofLink(api.ErrOrder, 1), map[string]int{"J": 0, "K": 0, "L": -1, "M": -1}},
		{"A", "L>M M>N N>L A>K", ofLink(api.ErrOrder, 0), map[string]int{"K": 0, "L": -1, "M": -1, "N": -1}},
		{"A", "A>K N>L M>N L>M", ofLink(api.ErrOrder, 1), map[string]int{"K": 0, "L": -1, "M": -1, "N": -1}},
		{"", "A>B B>C C>D D>E E>F F>A", ofLink(api.ErrOrder, 0), map[string]int{"A": -1, "C": -1, "F": -1}},
		// Into a ring.
		{"A", "A>K L>M L>L", ofLink(api.ErrOrder, 1), map[string]int{"L": -1, "M": -1}},
		{"A", "A>K L>L L>M", ofLink(api.ErrOrder, 1), map[string]int{"L": -1, "M": -1}},
		{"A", "A>K K>J P>Q O>P L>O L>M M>L", ofLink(api.ErrOrder, 2), map[string]int{"J": 0, "L": -1, "M": -1, "O": -1, "P": -1, "Q": -1}},
		{"A", "A>K K>J L>M M>N N>L N>O O>P", ofLink(api.ErrOrder, 2), map[string]int{"J": 0, "P": -1, "O": -1}},
		// Of two links of one name the first one counts.
		{"A B", "A>L B>L L>M", ofLink(api.ErrTwice, 1), map[string]int{"L": 0, "M": 0}},
		{"A B", "L>M B>L A>L", ofLink(api.ErrTwice, 2), map[string]int{"L": 1, "M": 1}},
		{"A B", "L>L A>L L>M", ofLink(api.ErrTwice, 1), map[string]int{"L": -1, "M": -1}},
		{"A B", "C>L A>L L>M", ofLink(api.ErrTwice, 1), map[string]int{"L": -1, "M": -1}},
		{"A B", "A>L M>L L>M", ofLink(api.ErrTwice, 1), map[string]int{"L": 0, "M": 0}},
		{"A B", "M>L A>L B>M", ofLink(api.ErrTwice, 1), map[string]int{"L": 1, "M": 1}},
		{"A B", "A>L A>L A>L", ofLink(api.ErrTwice, 1), map[string]int{"L": 0}},
		{"A B", "A>L B>M L>N B>M A>L", ofLink(api.ErrTwice, 3), map[string]int{"L": 0, "M": 1, "N": 0}},
		// Of a zone and a link of one name the zone counts.
		{"A B", "B>A", ofLink(api.ErrTwice, 0), map[string]int{"A": 0, "B": 1}},
		{"A B", "A>L B>A A>M", ofLink(api.ErrTwice, 1), map[string]int{"A": 0, "L": 0, "M": 0}},
		{"A B", "L>B A>L", ofLink(api.ErrTwice, 0), map[string]int{"B": 1, "L": 0}},
		{"A B", "B>B C>A A>L", ofLink(api.ErrTwice, 0), map[string]int{"A": 0, "B": 1, "L": 0}},
		{"A B", "A>A", ofLink(api.ErrTwice, 0), map[string]int{"A": 0}},
		// Of two zones of one name the first one counts.
		{"B A A", "A>L B>A L>M", ofEra(api.ErrTwice, 2, 0), map[string]int{"A": 1, "B": 0, "L": 1, "M": 1}},
		{"A A", "", ofEra(api.ErrTwice, 1, 0), map[string]int{"A": 0}},
	} {
		s := linked(x.zones, x.links)
		if got := tries(t, s); got != x.want {
			t.Errorf("%s, %s: %v; must be %v", x.zones, x.links, got, x.want)
		}
		for name, want := range x.leads {
			got, ok := sound.Resolve(s, name)
			if want < 0 && (got != 0 || ok) || want >= 0 && (got != want || !ok) {
				t.Errorf("%s, %s: %s leads to %d, %v; must be %d", x.zones, x.links, name, got, ok, want)
			}
		}
	}
}

// P13.1, P13.2: all sources of one zone or none and of up to three links of few names, and some of four.
func TestFewLinks(t *testing.T) {
	var pairs []string
	for target := range strings.SplitSeq("A B C D", " ") {
		for name := range strings.SplitSeq("A B C", " ") {
			pairs = append(pairs, target+">"+name)
		}
	}
	for _, zones := range []string{"", "A", "A D"} {
		for code := range power(len(pairs)+1, 3) {
			var links []string
			for ; code > 0; code /= len(pairs) + 1 {
				if i := code % (len(pairs) + 1); i > 0 {
					links = append(links, pairs[i-1])
				}
			}
			tries(t, linked(zones, strings.Join(links, " ")))
		}
	}
	d := sample.Rolled(1 << 15)
	for range 2000 {
		var links []string
		for range 4 + d.To(4) {
			links = append(links, sample.Pick(d, "A", "B", "C", "D", "E", "F", "G", "H")+">"+sample.Pick(d, "C", "D", "E", "F", "G", "H", "I", "J"))
		}
		tries(t, linked("A B", strings.Join(links, " ")))
	}
}

// P13.2, written out: names rise byte by byte, each once, those of sources that aren't right, too.
func TestNames(t *testing.T) {
	for _, x := range []struct {
		zones, links, want []string
	}{
		{nil, nil, nil},
		{[]string{"A"}, nil, []string{"A"}},
		{nil, []string{"A"}, []string{"A"}},
		{[]string{""}, nil, []string{""}},
		{nil, []string{"", ""}, []string{""}},
		{[]string{"b", "a", "B", "A"}, []string{"aa", "Aa", "aA", "AA"}, []string{"A", "AA", "Aa", "B", "a", "aA", "aa", "b"}},
		{[]string{"Z", "Zone", "Zon"}, []string{"Zo", "Zones", "Z"}, []string{"Z", "Zo", "Zon", "Zone", "Zones"}},
		{[]string{"a/b", "a-b", "a+b", "a_b", "aAb", "a0b", "a"}, nil, []string{"a", "a+b", "a-b", "a/b", "a0b", "aAb", "a_b"}},
		{[]string{"A", "B", "A"}, []string{"B", "C", "C", "A"}, []string{"A", "B", "C"}},
		{[]string{"A10", "A9", "A1", "A2"}, []string{"A", "A01"}, []string{"A", "A01", "A1", "A10", "A2", "A9"}},
		{[]string{"\xff", "\x80", "z", "\x7f", "\xc3\xa4", "\x00", ""}, []string{"\xc3", "\xc3\xa4b", "\xe2\x82\xac", "\x00\x00", "\xff\x00"}, []string{"", "\x00", "\x00\x00", "z", "\x7f", "\x80", "\xc3", "\xc3\xa4", "\xc3\xa4b", "\xe2\x82\xac", "\xff", "\xff\x00"}},
	} {
		var s api.Source
		for _, name := range x.zones {
			s.Zones = append(s.Zones, api.Zone{Name: name})
		}
		for _, name := range x.links {
			// What targets and sets are called is no name.
			s.Links = append(s.Links, api.Link{Target: name + "?", Name: name})
			s.Rules = append(s.Rules, api.Rule{Name: name + "!"})
		}
		if got := sound.Names(s); !slices.Equal(got, x.want) {
			t.Errorf("%q, %q: %q; must be %q", x.zones, x.links, got, x.want)
		}
		tries(t, s)
	}
	d := sample.Rolled(1 << 16)
	for range 300 {
		var s api.Source
		for range d.To(12) {
			s.Zones = append(s.Zones, api.Zone{Name: anyName(d)})
			s.Links = append(s.Links, api.Link{Target: anyName(d), Name: anyName(d)})
		}
		tries(t, s)
	}
}

// anyName is a short text of few bytes.
func anyName(d *sample.Dice) string {
	name := ""
	for range d.To(4) {
		name += sample.Pick(d, "a", "A", "b", "Z", "/", "\x80", "\xff", "\x00")
	}
	return name
}

// P13.2: sources that are greater than right ones: long chains, long rings and many names.
func TestManyLinks(t *testing.T) {
	const n = 100000
	s := api.Source{Zones: make([]api.Zone, 3)}
	for i := range n {
		s.Links = append(s.Links, api.Link{Target: fmt.Sprint(i + 1), Name: fmt.Sprint(i)})
	}
	leads := func(name string, want int, wantOk bool) {
		t.Helper()
		if got, ok := sound.Resolve(s, name); got != want || ok != wantOk {
			t.Errorf("%s: %d, %v", name, got, ok)
		}
	}
	leads("0", 0, false)
	s.Zones[2].Name = fmt.Sprint(n)
	leads("0", 2, true)
	leads(fmt.Sprint(n-1), 2, true)
	slices.Reverse(s.Links)
	leads("0", 2, true)
	leads("", 0, true)
	if got := sound.Names(s); len(got) != n+2 || got[0] != "" || got[1] != "0" || got[2] != "1" || got[3] != "10" || got[n+1] != "99999" {
		t.Error(len(got))
	}
	s.Zones[2].Name = ""
	s.Links[0].Target = "0"
	leads("0", 0, false)
	leads("50000", 0, false)
	if got := sound.Check(s); got != (api.Flaw{Err: api.ErrArg}) {
		t.Error(got)
	}
}

// anySource is a right source that has flaws here and there, or none.
func anySource(d *sample.Dice) api.Source {
	var s api.Source
	sometimes := func() bool { return d.To(20) == 0 }
	for i := range d.To(9) {
		r := d.Rule()
		r.Name = sample.Pick(d, "A", "B", "C")
		// Turns are near one another now and then.
		r.Spot = day(1+(i*5+d.To(2))%12, 1, hour*d.To(30), d.To(3))
		if r.To < r.From && !sometimes() {
			r.To = r.From
		}
		s.Rules = append(s.Rules, r)
	}
	for i := range d.To(5) {
		if sometimes() {
			i = d.To(i + 1)
		}
		z := api.Zone{Name: fmt.Sprint("Z", i)}
		n := d.To(4)
		for k := range n + 1 {
			x := era(sample.Pick(d, 0, hour, -5*hour, 43200, -43199, 1), d.To(3), sample.Pick(d, 0, hour, -hour, 43200))
			if x.Kind == api.SaveRules {
				x.Rules = sample.Pick(d, "A", "B", "C")
				if !slices.ContainsFunc(s.Rules, func(r api.Rule) bool { return r.Name == x.Rules }) && !sometimes() {
					x.Kind, x.Rules = api.SaveNone, ""
				}
			}
			if k < n {
				x.Until, x.Year, x.Spot = true, 1996+k, d.Spot()
				if sometimes() {
					x.Year = 1996
				}
			}
			z.Eras = append(z.Eras, x)
		}
		s.Zones = append(s.Zones, z)
	}
	for i := range d.To(5) {
		x := api.Link{Target: fmt.Sprint("Z", d.To(len(s.Zones)+1)), Name: fmt.Sprint("L", i)}
		if !sometimes() {
			x.Target = fmt.Sprint("Z", d.To(max(len(s.Zones), 1)))
		}
		if d.To(3) == 0 {
			x.Target = fmt.Sprint("L", d.To(i+2))
		}
		if sometimes() {
			x.Name = sample.Pick(d, "Z0", "L0", "L1")
		}
		s.Links = append(s.Links, x)
	}
	return s
}

// P13.1 to P13.4: sources by a fixed rule, of which many have each kind of flaw, and many none.
func TestSourcesByARule(t *testing.T) {
	d := sample.Rolled(1 << 18)
	told := map[api.Flaw]int{}
	for range 6000 {
		s := anySource(d)
		if !source.Right(s) {
			t.Fatalf("%v isn't right", s)
		}
		f := tries(t, s)
		told[api.Flaw{Err: f.Err, Kind: f.Kind}]++
	}
	for _, f := range []api.Flaw{
		none, ofRule(api.ErrOrder, 0), ofRule(api.ErrMore, 0), ofRule(api.ErrNear, 0),
		ofEra(api.ErrTwice, 0, 0), ofEra(api.ErrUnknown, 0, 0), ofEra(api.ErrOffset, 0, 0), ofEra(api.ErrOrder, 0, 0),
		ofLink(api.ErrTwice, 0), ofLink(api.ErrUnknown, 0), ofLink(api.ErrOrder, 0),
	} {
		if told[f] < 20 {
			t.Errorf("%v: told %d times", f, told[f])
		}
	}
}

// The chapter's examples, and the document's.
func TestExamples(t *testing.T) {
	for _, x := range []struct {
		text string
		want api.Flaw
	}{
		{"Link B A\nLink A B", ofLink(api.ErrOrder, 0)},
		{"Link A B\nLink B A", ofLink(api.ErrOrder, 0)},
		{"Rule R 1990 1980 - Jan 1 0 0 -", ofRule(api.ErrOrder, 0)},
		{"Rule US 2007 max - Mar Sun>=8 2:00 1:00 D\nRule US 2007 max - Nov Sun>=1 2:00 0 S\nZone NY -5:00 US E%sT\nLink NY Old", none},
	} {
		s := parsed(x.text)
		if got := tries(t, s); got != x.want {
			t.Errorf("%q: %v; must be %v", x.text, got, x.want)
		}
		if z, ok := sound.Resolve(s, "Old"); z != 0 || ok != (x.want == none) {
			t.Errorf("%q: %d, %v", x.text, z, ok)
		}
	}
}

// Rule 4: what is handed in is neither changed nor kept, its spare room neither, and an answer is new memory.
func TestMemory(t *testing.T) {
	s := parsed(whole)
	n := len(s.Rules)
	s.Rules = append(s.Rules, api.Rule{Name: "spare"})[:n]
	s.Zones = append(s.Zones, api.Zone{Name: "spare"}, api.Zone{})[:3]
	s.Zones[1].Eras = append(s.Zones[1].Eras, api.Era{Format: "spare"})[:2]
	s.Links = append(s.Links, api.Link{Name: "spare"})[:4]
	tries(t, s)
	if !sample.Same(s, parsed(whole)) || s.Rules[:n+1][n].Name != "spare" || s.Zones[:4][3].Name != "spare" || s.Zones[1].Eras[:3][2].Format != "spare" || s.Links[:5][4].Name != "spare" {
		t.Error(s)
	}
	first, again := sound.Names(s), sound.Names(s)
	for _, name := range first {
		for _, z := range s.Zones {
			if shared(name, z.Name) {
				t.Errorf("%q stands in the source's memory", name)
			}
		}
		for _, x := range s.Links {
			if shared(name, x.Name) {
				t.Errorf("%q stands in the source's memory", name)
			}
		}
	}
	clear(first[:cap(first)])
	clear(s.Zones)
	clear(s.Links)
	if want := []string{"4", "Europe/One", "Four", "Old", "Older", "Oldest", "Two"}; !slices.Equal(again, want) {
		t.Errorf("%q", again)
	}
}

// shared tells whether two texts stand in one memory.
func shared(a, b string) bool {
	from, at := uintptr(unsafe.Pointer(unsafe.StringData(a))), uintptr(unsafe.Pointer(unsafe.StringData(b)))
	return a != "" && b != "" && from < at+uintptr(len(b)) && at < from+uintptr(len(a))
}

// Rule 6: an answer doesn't hang on what was asked ahead of it.
func TestAskedAgain(t *testing.T) {
	s := parsed(whole)
	for range 3 {
		if got := tries(t, s); got != none {
			t.Error(got)
		}
		for _, x := range pieces() {
			other, at := put(x)
			if got := tries(t, other); got != at[0] {
				t.Errorf("%s: %v; must be %v", x.what, got, at[0])
			}
		}
		tries(t, api.Source{Zones: []api.Zone{{}}})
	}
}
