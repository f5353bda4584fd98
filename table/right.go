package table

import (
	"analemma/api"
	"analemma/rules"
	"analemma/source"
)

// wholeDay is a day in seconds.
const wholeDay = 86400

// mostTail is how many rules a tail may have.
const mostTail = 2

// The bytes of which an abbreviation may be made: from the first one to the last.
const (
	firstByte = 0x21
	lastByte  = 0x7E
)

// rightPhase tells whether clocks may stand so.
func rightPhase(x api.Phase) bool {
	return lessThanDay(x.Offset) && x.Save >= -api.MaxSave && x.Save <= api.MaxSave && rightAbbr(x.Abbr)
}

// rightAbbr tells whether a text may be an abbreviation; it may be empty.
func rightAbbr(text string) bool {
	if len(text) > api.MaxAbbr {
		return false
	}
	for i := range len(text) {
		if text[i] < firstByte || text[i] > lastByte {
			return false
		}
	}
	return true
}

// rightShifts tells whether a table's shifts may be, behind its first phase and ahead of its Until.
func rightShifts(x api.Table) bool {
	if len(x.Shifts) > api.MaxShifts {
		return false
	}
	ahead := x.First
	for i, shift := range x.Shifts {
		if !rightPhase(shift.Phase) || shift.Phase == ahead || shift.At >= x.Until {
			return false
		}
		if i > 0 && shift.At <= x.Shifts[i-1].At {
			return false
		}
		ahead = shift.Phase
	}
	return true
}

// rightTail tells whether a table's tail may be, with its Offset and Format.
func rightTail(x api.Table) bool {
	if len(x.Tail) == 0 {
		return x.Offset == 0 && x.Format == ""
	}
	if len(x.Tail) > mostTail || !inSource(x) || rules.Near(x.Tail) {
		return false
	}
	for _, r := range x.Tail {
		if r.To != api.Ever || !lessThanDay(x.Offset+r.Save) {
			return false
		}
	}
	return true
}

// inSource tells whether a table's tail, Offset and Format, and its Name, may stand in a source: of an era's format layer 10 tells only there. What layer 11 asks of rules it asks, too.
func inSource(x api.Table) bool {
	era := api.Era{Offset: x.Offset, Format: x.Format}
	return source.Right(api.Source{Rules: x.Tail, Zones: []api.Zone{{Name: x.Name, Eras: []api.Era{era}}}})
}

// lessThanDay tells whether so many seconds, either way, are less than a day.
func lessThanDay(n int) bool { return n > -wholeDay && n < wholeDay }
