package sound_test

import (
	"bytes"
	"fmt"
	"slices"
	"testing"

	"analemma/api"
	"analemma/eras"
	"analemma/rules"
	"analemma/sound"
	"analemma/source"
)

const (
	hour     = 3600
	wholeDay = 86400
)

// none is the flaw of what has none.
var none = api.Flaw{}

// ofRule, ofEra and ofLink are flaws of what stands at a place.
func ofRule(e api.Errno, at int) api.Flaw {
	return api.Flaw{Err: e, Kind: api.FlawRule, At: at}
}

func ofEra(e api.Errno, at, era int) api.Flaw {
	return api.Flaw{Err: e, Kind: api.FlawZone, At: at, Era: era}
}

func ofLink(e api.Errno, at int) api.Flaw {
	return api.Flaw{Err: e, Kind: api.FlawLink, At: at}
}

// parsed is the tree of a right text.
func parsed(text string) api.Source {
	s, f := source.Parse(text)
	if f != (api.Fault{}) {
		panic(fmt.Sprintf("%v: %q", f, text))
	}
	return s
}

// found is a flaw with what tells when it is told: the step of the chapter's list, the place, the era, and which of its errors.
type found struct {
	when [4]int
	flaw api.Flaw
}

// flaws are all flaws of a right source, by the words, however they come.
func flaws(s api.Source) []found {
	var l []found
	add := func(yes bool, f api.Flaw, when ...int) {
		if yes {
			l = append(l, found{[4]int(append(when, 0, 0, 0)[:4]), f})
		}
	}
	for at, r := range s.Rules {
		add(r.To < r.From, ofRule(api.ErrOrder, at), 1, at)
		set := eras.Set(s, r.Name)
		ever := slices.DeleteFunc(slices.Clone(set), func(r api.Rule) bool { return r.To != api.Ever })
		add(rules.Crowded(set), ofRule(api.ErrMany, at), 2, at, 0, 0)
		add(len(ever) >= 3, ofRule(api.ErrMore, at), 2, at, 0, 1)
		add(rules.Near(set), ofRule(api.ErrNear, at), 2, at, 0, 2)
	}
	for at, z := range s.Zones {
		add(slices.Contains(zoneNames(s)[:at], z.Name), ofEra(api.ErrTwice, at, 0), 3, at, -1)
		for i, x := range z.Eras {
			add(x.Kind == api.SaveRules && len(eras.Set(s, x.Rules)) == 0, ofEra(api.ErrUnknown, at, i), 3, at, i, 0)
			for _, save := range savings(s, x) {
				add(x.Offset+save <= -86400 || x.Offset+save >= 86400, ofEra(api.ErrOffset, at, i), 3, at, i, 1)
			}
			if i > 0 && x.Until {
				before, _ := eras.End(s, at, i-1)
				end, _ := eras.End(s, at, i)
				add(end <= before, ofEra(api.ErrOrder, at, i), 3, at, i, 2)
			}
		}
	}
	for at, x := range s.Links {
		add(slices.Contains(append(zoneNames(s), linkNames(s)[:at]...), x.Name), ofLink(api.ErrTwice, at), 4, at)
		unknown := !slices.Contains(append(zoneNames(s), linkNames(s)...), x.Target)
		add(unknown, ofLink(api.ErrUnknown, at), 5, at)
		_, how := followed(s, at, nil)
		add(how == around, ofLink(api.ErrOrder, at), 6, at)
	}
	return l
}

// savings are all that an era may save, by the words.
func savings(s api.Source, x api.Era) []int {
	if x.Kind != api.SaveRules {
		return []int{x.Save}
	}
	var l []int
	for _, r := range eras.Set(s, x.Rules) {
		l = append(l, r.Save)
	}
	return l
}

// zoneNames are the names of all zones.
func zoneNames(s api.Source) []string {
	var l []string
	for _, z := range s.Zones {
		l = append(l, z.Name)
	}
	return l
}

// linkNames are the names of all links.
func linkNames(s api.Source) []string {
	var l []string
	for _, x := range s.Links {
		l = append(l, x.Name)
	}
	return l
}

// How following a link may end.
const (
	atZone = iota
	nowhere
	around
)

// followed is the zone to which a link leads that was reached by others, by the words.
func followed(s api.Source, link int, by []int) (int, int) {
	if slices.Contains(by, link) {
		return 0, around
	}
	target := s.Links[link].Target
	if z := slices.Index(zoneNames(s), target); z >= 0 {
		return z, atZone
	}
	if next := slices.Index(linkNames(s), target); next >= 0 {
		return followed(s, next, append(by, link))
	}
	return 0, nowhere
}

// checked is a source's first flaw, by the words.
func checked(s api.Source) api.Flaw {
	if !source.Right(s) {
		return api.Flaw{Err: api.ErrArg}
	}
	l := flaws(s)
	if len(l) == 0 {
		return none
	}
	return slices.MinFunc(l, func(a, b found) int { return slices.Compare(a.when[:], b.when[:]) }).flaw
}

// resolved is the zone of a name, by the words.
func resolved(s api.Source, name string) (int, bool) {
	if z := slices.Index(zoneNames(s), name); z >= 0 {
		return z, true
	}
	link := slices.Index(linkNames(s), name)
	if link < 0 {
		return 0, false
	}
	z, how := followed(s, link, nil)
	return z, how == atZone
}

// names are all names, by the words.
func names(s api.Source) []string {
	all := append(zoneNames(s), linkNames(s)...)
	slices.SortFunc(all, func(a, b string) int { return bytes.Compare([]byte(a), []byte(b)) })
	return slices.Compact(all)
}

// asked are names to ask of a source: those that something has or names, and others like them.
func asked(s api.Source) []string {
	l := []string{"", "?", "Nowhere", "UTC", "+01:00", "\x00", "\xff"}
	for _, x := range s.Links {
		l = append(l, x.Target)
	}
	for _, name := range names(s) {
		l = append(l, name, name+"x", name+"/", " "+name, name[:len(name)/2])
	}
	for _, r := range s.Rules {
		l = append(l, r.Name)
	}
	slices.Sort(l)
	return slices.Compact(l)
}

// tries tries all calls with a source, and tells its first flaw.
func tries(t *testing.T, s api.Source) api.Flaw {
	t.Helper()
	got, want := sound.Check(s), checked(s)
	if got != want {
		t.Fatalf("Check(%v): %v; must be %v", s, got, want)
	}
	triesNames(t, s)
	if got == none {
		follows(t, s)
	}
	return got
}

// triesNames tries Names and Resolve with a source.
func triesNames(t *testing.T, s api.Source) {
	t.Helper()
	if got, want := sound.Names(s), names(s); !slices.Equal(got, want) {
		t.Fatalf("Names(%v): %q; must be %q", s, got, want)
	}
	for _, name := range asked(s) {
		want, wantOk := resolved(s, name)
		if got, ok := sound.Resolve(s, name); got != want || ok != wantOk {
			t.Fatalf("Resolve(%v, %q): %d, %v; must be %d, %v", s, name, got, ok, want, wantOk)
		}
	}
}

// follows tries what follows of a source without flaws: P13.3 and P13.4.
func follows(t *testing.T, s api.Source) {
	t.Helper()
	all := sound.Names(s)
	for _, name := range asked(s) {
		if z, ok := sound.Resolve(s, name); ok != slices.Contains(all, name) {
			t.Fatalf("Resolve(%v, %q): %d, %v; the names are %q", s, name, z, ok, all)
		}
	}
	for z := range s.Zones {
		for _, part := range parts(s, z) {
			if got := sound.Check(part); got != none {
				t.Fatalf("Check(%v): %v; a part of %v, which has no flaw", part, got, s)
			}
			if got, ok := sound.Resolve(part, s.Zones[z].Name); part.Zones[got].Name != s.Zones[z].Name || !ok {
				t.Fatalf("Resolve(%v, %q): %d, %v", part, s.Zones[z].Name, got, ok)
			}
		}
	}
}

// parts are parts of a source, with the sets that their zones name: a zone alone, one with the links that lead to it, one and all behind it, and one beside other sets.
func parts(s api.Source, z int) []api.Source {
	alone := withSets(s, s.Zones[z:z+1])
	linked := alone
	for at, x := range s.Links {
		if to, how := followed(s, at, nil); how == atZone && to == z {
			linked.Links = append(linked.Links, x)
		}
	}
	all := alone
	all.Rules = s.Rules
	return []api.Source{alone, linked, withSets(s, s.Zones[z:]), all}
}

// withSets is a source of some of another one's zones, with the sets that they name.
func withSets(s api.Source, l []api.Zone) api.Source {
	part := api.Source{Zones: l}
	for _, r := range s.Rules {
		if slices.ContainsFunc(l, func(z api.Zone) bool {
			return slices.ContainsFunc(z.Eras, func(x api.Era) bool { return x.Rules == r.Name })
		}) {
			part.Rules = append(part.Rules, r)
		}
	}
	return part
}
