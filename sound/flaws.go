package sound

import (
	"math"

	"analemma/api"
	"analemma/eras"
	"analemma/rules"
)

// wholeDay is a day in seconds.
const wholeDay = 86400

// mostEver is how many rules of a set may go on for ever.
const mostEver = 2

// set is a set, with the place of its first rule.
type set struct {
	first int
	rules []api.Rule
}

// looked is a right source, with its sets and with what its names mean.
type looked struct {
	api.Source
	sets  map[string]set
	names bearers
}

// look looks up a right source's sets and names.
func look(s api.Source) looked {
	x := looked{Source: s, sets: map[string]set{}, names: bearersOf(s)}
	for at, r := range s.Rules {
		if _, ok := x.sets[r.Name]; !ok {
			x.sets[r.Name] = set{first: at, rules: eras.Set(s, r.Name)}
		}
	}
	return x
}

// flaw is the first flaw, if there is one.
func (x looked) flaw() api.Flaw {
	for _, find := range []func() api.Flaw{x.inYears, x.inSets, x.inZones, x.inNames, x.inTargets, x.inRings} {
		if f := find(); f != (api.Flaw{}) {
			return f
		}
	}
	return api.Flaw{}
}

// inYears finds a rule that ends ahead of its beginning.
func (x looked) inYears() api.Flaw {
	for at, r := range x.Rules {
		if r.To < r.From {
			return api.Flaw{Err: api.ErrOrder, Kind: api.FlawRule, At: at}
		}
	}
	return api.Flaw{}
}

// inSets finds the first rule of a set that is wrong.
func (x looked) inSets() api.Flaw {
	for at, r := range x.Rules {
		s := x.sets[r.Name]
		if s.first != at {
			continue
		}
		if e := wrongSet(s.rules); e != api.OK {
			return api.Flaw{Err: e, Kind: api.FlawRule, At: at}
		}
	}
	return api.Flaw{}
}

// wrongSet is what is wrong with a set.
func wrongSet(l []api.Rule) api.Errno {
	switch {
	case rules.Crowded(l):
		return api.ErrMany
	case endless(l) > mostEver:
		return api.ErrMore
	case rules.Near(l):
		return api.ErrNear
	}
	return api.OK
}

// endless is how many rules of a set go on for ever.
func endless(l []api.Rule) int {
	n := 0
	for _, r := range l {
		if r.To == api.Ever {
			n++
		}
	}
	return n
}

// inZones finds a zone whose name an earlier one has, or one with an era that is wrong.
func (x looked) inZones() api.Flaw {
	for at, z := range x.Zones {
		if x.names[z.Name] != (bearer{api.FlawZone, at}) {
			return api.Flaw{Err: api.ErrTwice, Kind: api.FlawZone, At: at}
		}
		if era, e := x.wrongEra(z); e != api.OK {
			return api.Flaw{Err: e, Kind: api.FlawZone, At: at, Era: era}
		}
	}
	return api.Flaw{}
}

// wrongEra is the first era of a zone that is wrong, and what is wrong with it.
func (x looked) wrongEra(z api.Zone) (int, api.Errno) {
	// When a zone's eras end hangs on no other zone, and of one alone it is told sooner.
	alone := api.Source{Rules: x.Rules, Zones: []api.Zone{z}}
	// No era ends as early as this.
	before := int64(math.MinInt64)
	for i, era := range z.Eras {
		end, ends := eras.End(alone, 0, i)
		switch {
		case era.Kind == api.SaveRules && len(x.sets[era.Rules].rules) == 0:
			return i, api.ErrUnknown
		case !x.within(era):
			return i, api.ErrOffset
		case ends && end <= before:
			return i, api.ErrOrder
		}
		before = end
	}
	return 0, api.OK
}

// within tells whether an era's offset and all that it may save, together, are less than a day.
func (x looked) within(era api.Era) bool {
	// A right era names a set only if that tells its saving, and then tells none of its own.
	for _, r := range x.sets[era.Rules].rules {
		if !lessThanDay(era.Offset + r.Save) {
			return false
		}
	}
	return lessThanDay(era.Offset + era.Save)
}

// lessThanDay tells whether so many seconds, either way, are less than a day.
func lessThanDay(n int) bool { return n > -wholeDay && n < wholeDay }

// inNames finds a link whose name a zone or an earlier link has.
func (x looked) inNames() api.Flaw {
	for at, l := range x.Links {
		if x.names[l.Name] != (bearer{api.FlawLink, at}) {
			return api.Flaw{Err: api.ErrTwice, Kind: api.FlawLink, At: at}
		}
	}
	return api.Flaw{}
}

// inTargets finds a link to what is nothing's name.
func (x looked) inTargets() api.Flaw {
	for at, l := range x.Links {
		if !x.names.has(l.Target) {
			return api.Flaw{Err: api.ErrUnknown, Kind: api.FlawLink, At: at}
		}
	}
	return api.Flaw{}
}

// inRings finds a link that is followed for ever, of links that all lead to some name.
func (x looked) inRings() api.Flaw {
	for at, l := range x.Links {
		if _, ok := x.names.zone(x.Links, l.Target); !ok {
			return api.Flaw{Err: api.ErrOrder, Kind: api.FlawLink, At: at}
		}
	}
	return api.Flaw{}
}
