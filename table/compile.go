package table

import (
	"cmp"
	"iter"
	"slices"
	"strings"

	"analemma/api"
	"analemma/civil"
	"analemma/eras"
	"analemma/rules"
)

// longAgo is a second ahead of all at which an era may end or a rule turn clocks.
const longAgo = -9000000000000

// Until lies so many years behind the last one that is named, or behind this one: by then all turns, and those ahead of them, are of rules that go on for ever.
const (
	yearsBehind = 3
	leastYear   = 2037
)

// place is a zone of a source without flaws, and the source of it alone, of which all is told sooner.
type place struct {
	api.Zone
	alone api.Source
}

// stretch is an era with its set: it holds from start to end, and all turns in that time are of the years from one to another.
type stretch struct {
	api.Era
	set        []api.Rule
	start, end int64
	from, to   int
}

// placeOf is the place of a zone.
func placeOf(s api.Source, zone int) place {
	z := s.Zones[zone]
	return place{Zone: z, alone: api.Source{Rules: s.Rules, Zones: []api.Zone{z}}}
}

// table is a place's table with all its shifts, be they too many.
func (p place) table() api.Table {
	l := p.stretches()
	last := l[len(l)-1]
	first, _ := eras.At(p.alone, 0, longAgo)
	x := api.Table{Name: strings.Clone(p.Name), First: first, Shifts: p.shifts(l, first), Until: last.end}
	if tail := endless(last.set); len(tail) > 0 {
		x.Tail, x.Offset, x.Format = tail, last.Offset, strings.Clone(last.Format)
	}
	return x
}

// stretches are a place's eras, the last one up to the table's Until.
func (p place) stretches() []stretch {
	year := p.lastYear() + yearsBehind
	l := make([]stretch, 0, len(p.Eras))
	start, from := int64(longAgo), 1
	for i, era := range p.Eras {
		end, to := midnight(year), year
		if era.Until {
			end, _ = eras.End(p.alone, 0, i)
			// A spot lies some weeks beside its year at most.
			to = era.Year + 1
		}
		l = append(l, stretch{Era: era, set: eras.Set(p.alone, era.Rules), start: start, end: end, from: from, to: to})
		start, from = end, era.Year-1
	}
	return l
}

// lastYear is the last year that a place's eras and their sets name, if it isn't too early.
func (p place) lastYear() int {
	year := leastYear
	for _, era := range p.Eras {
		// Without an Until the Year is 0.
		year = max(year, era.Year)
		for _, r := range eras.Set(p.alone, era.Rules) {
			year = max(year, r.From)
			if r.To != api.Ever {
				year = max(year, r.To)
			}
		}
	}
	return year
}

// shifts are all seconds ahead of Until at which clocks stand otherwise than a second ahead.
func (p place) shifts(l []stretch, first api.Phase) []api.Shift {
	var shifts []api.Shift
	now := first
	stand := func(t int64, x api.Phase) {
		if x != now {
			shifts = append(shifts, api.Shift{At: t, Phase: x})
			now = x
		}
	}
	for i, x := range l {
		begins, _ := eras.Phase(p.alone, 0, i, x.start)
		stand(x.start, begins)
		for t, turn := range x.turned() {
			stand(t, phase(x.Offset, x.Format, turn.Save, turn.Letter))
		}
	}
	return shifts
}

// turned goes over the turns whose universal times lie behind the start of a stretch and ahead of its end, with these times: none are near, and their universal times lie less than a day from their own ones, so that they rise, and each turn is in force from its own on.
func (x stretch) turned() iter.Seq2[int64, api.Turn] {
	return func(yield func(t int64, turn api.Turn) bool) {
		// Where there is no turn ahead, the zero turn saves nothing.
		ahead, _ := rules.Ahead(x.set, x.start-wholeDay)
		for _, turn := range x.late() {
			t := universal(turn, x.Offset, ahead.Save)
			ahead = turn
			if t > x.start && t < x.end && !yield(t, turn) {
				return
			}
		}
	}
}

// late are the turns of a stretch's years, rising, without those that are over a day ahead of its start. They must be sorted, as turns of a year may lie in the next one, behind turns of that, or in the one ahead.
func (x stretch) late() []api.Turn {
	var l []api.Turn
	for turn := range yearly(x.set, x.from, x.to) {
		if turn.At >= x.start-wholeDay {
			l = append(l, turn)
		}
	}
	slices.SortFunc(l, func(a, b api.Turn) int { return cmp.Compare(a.At, b.At) })
	return l
}

// yearly goes over a set's turns, year by year.
func yearly(set []api.Rule, from, to int) iter.Seq[api.Turn] {
	return func(yield func(turn api.Turn) bool) {
		for year := from; year <= to; year++ {
			for _, turn := range rules.Turns(set, year) {
				if !yield(turn) {
					return
				}
			}
		}
	}
}

// universal is a turn's universal time, where the turn ahead of it saves so much.
func universal(x api.Turn, offset, save int) int64 {
	switch x.Ref {
	case api.Universal:
		return x.At
	case api.Standard:
		return x.At - int64(offset)
	}
	return x.At - int64(offset) - int64(save)
}

// endless are the rules of a set that go on for ever.
func endless(set []api.Rule) []api.Rule {
	var l []api.Rule
	for _, r := range set {
		if r.To == api.Ever {
			l = append(l, r)
		}
	}
	return l
}

// midnight is the second at which a year begins.
func midnight(year int) int64 {
	n, _ := civil.Days(api.Date{Year: year, Month: 1, Day: 1})
	return int64(n) * wholeDay
}
