package sound_test

import (
	"slices"
	"strconv"
	"strings"
	"testing"

	"analemma/api"
)

// piece is a part of a source's text with one flaw: an error of a step of the chapter's list, and its place in the piece. A ~ stands for what makes the names of a piece its own.
type piece struct {
	what string
	step int
	flaw api.Flaw
	text string
}

// sane is a piece without a flaw.
const sane = `
Rule G~ 1990 1999 - Apr 1 2:00 1:00 D
Zone G~ 1:00 G~ G%sT 2000 Jan 1
        2:00 - X
Rule G~ 1990 1999 - Oct 1 2:00 0 S
Link H~ I~
Link G~ H~
`

// months are the lines of so many rules of a set, months from one another: at most 12.
func months(name, to string, n int) string {
	text := ""
	for _, month := range strings.Fields("Jan Feb Mar Apr May Jun Jul Aug Sep Oct Nov Dec")[:n] {
		text += "Rule " + name + " 1990 " + to + " - " + month + " 1 0 0 -\n"
	}
	return text
}

// pieces are pieces of each kind of flaw, at several places of their zones and links.
func pieces() []piece {
	return []piece{
		{"years that fall", 1, ofRule(api.ErrOrder, 0), "Rule A~ 1990 1989 - Jan 1 0 0 -"},
		{"years of a second rule that fall", 1, ofRule(api.ErrOrder, 1), "Rule B~ 1990 1991 - Jan 1 0 0 -\nRule B~ 1999 1 - Jul 1 0 0 -"},
		{"a crowded set", 2, ofRule(api.ErrMany, 0), months("C~", "only", 11)},
		{"three rules for ever", 2, ofRule(api.ErrMore, 0), months("D~", "max", 3)},
		{"turns that are near", 2, ofRule(api.ErrNear, 0), "Rule E~ 1990 1991 - Jan 1 0 0 -\nRule E~ 1990 1991 - Jan 2 0 0 -"},
		{"a zone's name twice", 3, ofEra(api.ErrTwice, 1, 0), "Zone F~ 0 - X 2000\n1:00 - X\nZone F~ 0 - X"},
		{"a set that isn't there", 3, ofEra(api.ErrUnknown, 0, 0), "Zone J~ 0 Nope~ X 2000\n0 - X\nZone JJ~ 0 - X"},
		{"a last era's set that isn't there", 3, ofEra(api.ErrUnknown, 1, 2), "Zone KK~ 0 - X\nZone K~ 0 - X 2000\n0 - X 2001\n0 Nope~ X"},
		{"an offset", 3, ofEra(api.ErrOffset, 0, 0), "Zone L~ 23:00 1:00 X 2000\n0 - X"},
		{"a last era's offset by rules", 3, ofEra(api.ErrOffset, 0, 1), "Rule M~ 1990 only - Jan 1 0 -1:00 -\nZone M~ 0 - X 2000\n-23:00 M~ X"},
		{"ends that fall", 3, ofEra(api.ErrOrder, 0, 1), "Zone N~ 0 - X 2000\n0 - X 1999\n0 - X"},
		{"a link with a zone's name", 4, ofLink(api.ErrTwice, 0), "Link O~ O~\nZone O~ 0 - X"},
		{"a link with a link's name", 4, ofLink(api.ErrTwice, 1), "Link P~ Q~\nLink P~ Q~\nZone P~ 0 - X"},
		{"a link to nothing", 5, ofLink(api.ErrUnknown, 0), "Link Nowhere~ R~"},
		{"a link to a link to nothing", 5, ofLink(api.ErrUnknown, 1), "Link T~ S~\nLink Nowhere~ T~"},
		{"a link to itself", 6, ofLink(api.ErrOrder, 0), "Link U~ U~"},
		{"links around two", 6, ofLink(api.ErrOrder, 0), "Link W~ V~\nLink V~ W~"},
		{"a link behind a sane one that leads into a ring", 6, ofLink(api.ErrOrder, 1), "Zone X~ 0 - X\nLink X~ XX~\nLink Z~ Y~\nLink Z~ Z~"},
	}
}

// put puts pieces behind one another, each with names of its own, and tells where the flaw of each is.
func put(l ...piece) (api.Source, []api.Flaw) {
	text := ""
	var at []api.Flaw
	for i, x := range l {
		ahead := parsed(text)
		f := x.flaw
		f.At += map[int]int{api.FlawRule: len(ahead.Rules), api.FlawZone: len(ahead.Zones), api.FlawLink: len(ahead.Links)}[f.Kind]
		at = append(at, f)
		text += strings.ReplaceAll(x.text, "~", strconv.Itoa(i)) + "\n"
	}
	return parsed(text), at
}

// P13.1: each flaw alone, at the first, a middle and the last rule, zone, era and link.
func TestEachFlawAlone(t *testing.T) {
	good := piece{text: sane}
	if s, _ := put(good, good, good); tries(t, s) != none {
		t.Fatal(s)
	}
	for _, x := range pieces() {
		for i, l := range [][]piece{{x}, {x, good, good}, {good, x, good}, {good, good, x}} {
			s, at := put(l...)
			want := at[[]int{0, 0, 1, 2}[i]]
			if got := tries(t, s); got != want {
				t.Errorf("%s, %d: %v; must be %v", x.what, i, got, want)
			}
		}
	}
}

// P13.1: each flaw beside each other one, in each order of the places that have them.
func TestEachFlawBesideEachOther(t *testing.T) {
	good := piece{text: sane}
	for _, x := range pieces() {
		for _, y := range pieces() {
			s, at := put(good, x, good, y, good)
			want := at[1]
			if y.step < x.step {
				want = at[3]
			}
			if got := tries(t, s); got != want {
				t.Errorf("%s ahead of %s: %v; must be %v", x.what, y.what, got, want)
			}
		}
	}
}

// P13.1: all flaws at once, without those that were told one by one.
func TestAllFlawsAtOnce(t *testing.T) {
	for _, turned := range []bool{false, true} {
		l := pieces()
		if turned {
			slices.Reverse(l)
		}
		for len(l) > 0 {
			s, at := put(l...)
			first := 0
			for i, x := range l {
				if x.step < l[first].step {
					first = i
				}
			}
			if got := tries(t, s); got != at[first] {
				t.Errorf("%d pieces: %v; must be %v (%s)", len(l), got, at[first], l[first].what)
			}
			l = slices.Delete(l, first, first+1)
		}
	}
}

// P13.1, written out: which of two flaws is told.
func TestOrderWrittenOut(t *testing.T) {
	crowd := months("C", "only", 11)
	for _, x := range []struct {
		what, text string
		want       api.Flaw
	}{
		{"a later rule's ErrOrder ahead of an earlier set's ErrMany", crowd + "Rule A 2 1 - Jan 1 0 0 -", ofRule(api.ErrOrder, 11)},
		{"a later rule's ErrOrder ahead of its own set's ErrMany", crowd + "Rule C 2 1 - Jan 1 0 0 -", ofRule(api.ErrOrder, 11)},
		{"the first of two rules' ErrOrder", "Rule A 1 1 - Jan 1 0 0 -\nRule A 3 2 - Jan 1 0 0 -\nRule B 2 1 - Jan 1 0 0 -", ofRule(api.ErrOrder, 1)},
		{"an earlier set's ErrNear ahead of a later one's ErrMany", "Rule A 1 1 - Jan 1 0 0 -\nRule A 1 1 - Jan 1 0 0 -\n" + crowd, ofRule(api.ErrNear, 0)},
		{"the set whose first rule is ahead, though its flaw is behind", "Rule A 1 only - Jan 1 0 0 -\nRule B 1 only - Jan 1 0 0 -\nRule B 1 only - Jan 1 0 0 -\nRule A 1 only - Jan 1 0 0 -", ofRule(api.ErrNear, 0)},
		{"a set's ErrNear ahead of a zone's ErrTwice", "Zone Z 0 - X\nZone Z 0 - X\nRule A 1 1 - Jan 1 0 0 -\nRule A 1 1 - Jan 1 0 0 -", ofRule(api.ErrNear, 0)},
		{"a set that no zone names", "Zone Z 0 No X\nRule A 1 1 - Jan 1 0 0 -\nRule A 1 1 - Jan 1 0 0 -", ofRule(api.ErrNear, 0)},
		{"a zone's era ahead of a later zone's ErrTwice", "Zone Z 0 - X 2000\n0 No X\nZone Z 0 - X", ofEra(api.ErrUnknown, 0, 1)},
		{"a zone's ErrTwice ahead of its first era", "Zone Z 0 - X\nZone Z 0 No X", ofEra(api.ErrTwice, 1, 0)},
		{"a zone's ErrTwice ahead of a later zone's era", "Zone Z 0 - X\nZone Z 0 - X\nZone Y 0 No X", ofEra(api.ErrTwice, 1, 0)},
		{"an era's ErrOrder ahead of a later one's ErrUnknown", "Zone Z 0 - X 2000\n0 - X 2000\n0 No X", ofEra(api.ErrOrder, 0, 1)},
		{"an era's ErrUnknown ahead of its ErrOrder", "Zone Z 0 - X 2000\n0 No X 2000\n0 - X", ofEra(api.ErrUnknown, 0, 1)},
		{"an era's ErrOffset ahead of its ErrOrder", "Zone Z 0 - X 2000\n23:00 1:00 X 1999\n0 - X", ofEra(api.ErrOffset, 0, 1)},
		{"an era's ErrOffset ahead of a later one's ErrUnknown", "Zone Z 23:00 1:00 X 2000\n0 No X", ofEra(api.ErrOffset, 0, 0)},
		{"an era's ErrUnknown ahead of a later one's ErrOffset", "Zone Z 0 No X 2000\n23:00 1:00 X", ofEra(api.ErrUnknown, 0, 0)},
		{"a later zone's era ahead of a link's ErrTwice", "Link Z Z\nZone Z 0 - X\nZone Y 0 No X", ofEra(api.ErrUnknown, 1, 0)},
		{"a link's ErrTwice ahead of an earlier link's ErrUnknown", "Zone Z 0 - X\nLink No A\nLink Z B\nLink Z B", ofLink(api.ErrTwice, 2)},
		{"a link's ErrTwice ahead of its own ErrUnknown", "Zone Z 0 - X\nLink No Z", ofLink(api.ErrTwice, 0)},
		{"a link's ErrTwice ahead of its own ring", "Link A A\nLink A A", ofLink(api.ErrTwice, 1)},
		{"a link's ErrUnknown ahead of an earlier link's ring", "Link A A\nLink No B", ofLink(api.ErrUnknown, 1)},
		{"the first of two links' ErrUnknown", "Zone Z 0 - X\nLink Z C\nLink No A\nLink Nor B", ofLink(api.ErrUnknown, 1)},
		{"the first of two links' rings", "Zone Z 0 - X\nLink Z C\nLink B A\nLink A B\nLink D D", ofLink(api.ErrOrder, 1)},
		{"the first of two links' ErrTwice", "Zone Z 0 - X\nLink Z C\nLink Z C\nLink Z Z", ofLink(api.ErrTwice, 1)},
	} {
		if got := tries(t, parsed(x.text)); got != x.want {
			t.Errorf("%s: %v; must be %v", x.what, got, x.want)
		}
	}
}
