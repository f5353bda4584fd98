package table

import (
	"sort"
	"strings"

	"analemma/api"
	"analemma/eras"
	"analemma/rules"
)

// byShifts is how clocks stand by a right table's shifts.
func byShifts(x api.Table, t int64) api.Phase {
	p := x.First
	if n := sort.Search(len(x.Shifts), func(i int) bool { return x.Shifts[i].At > t }); n > 0 {
		p = x.Shifts[n-1].Phase
	}
	// The table's own text would share its memory.
	p.Abbr = strings.Clone(p.Abbr)
	return p
}

// byTail is how clocks stand by a right table's tail.
func byTail(x api.Table, t int64) api.Phase {
	save, letter := rules.Force(x.Tail, x.Offset, t)
	return phase(x.Offset, x.Format, save, letter)
}

// phase is how clocks stand where so much is saved beside an offset.
func phase(offset int, format string, save int, letter string) api.Phase {
	offset += save
	return api.Phase{Offset: offset, Save: save, Abbr: eras.Abbr(format, letter, offset, save)}
}
