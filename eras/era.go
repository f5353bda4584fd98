package eras

import (
	"analemma/api"
	"analemma/moment"
	"analemma/rules"
)

// era is an era of a right source, with the set that it names.
type era struct {
	api.Era
	set []api.Rule
}

// question asks a set how much is saved at some time, and which letter tells it.
type question func(set []api.Rule) (int, string)

// withSet is an era with its set.
func withSet(s api.Source, x api.Era) era {
	return era{Era: x, set: named(s, x.Rules)}
}

// end is when an era that has an Until ends.
func (x era) end() int64 {
	// In the years that an era may tell all spots are told.
	at, _ := moment.Local(x.Spot, x.Year)
	switch x.Spot.Ref {
	case api.Universal:
		return at
	case api.Standard:
		return at - int64(x.Offset)
	}
	save, _ := x.saving(func(set []api.Rule) (int, string) {
		// Where there is no turn ahead, the zero turn saves nothing.
		turn, _ := rules.Ahead(set, at)
		return turn.Save, turn.Letter
	})
	return at - int64(x.Offset) - int64(save)
}

// phase is how clocks stand at a time, by an era.
func (x era) phase(t int64) api.Phase {
	save, letter := x.saving(func(set []api.Rule) (int, string) {
		return rules.Force(set, x.Offset, t)
	})
	offset := x.Offset + save
	return api.Phase{Offset: offset, Save: save, Abbr: Abbr(x.Format, letter, offset, save)}
}

// saving is how much an era saves, and its letter: an era whose saving is told by rules asks its set.
func (x era) saving(asked question) (int, string) {
	kinds := [3]func(era, question) (int, string){
		api.SaveNone:  era.none,
		api.SaveFixed: era.fixed,
		api.SaveRules: era.byRules,
	}
	return kinds[x.Kind](x, asked)
}

// none saves nothing.
func (x era) none(question) (int, string) { return 0, "" }

// fixed saves what the era itself tells, whenever that is.
func (x era) fixed(question) (int, string) { return x.Save, "" }

// byRules saves what the set answers.
func (x era) byRules(asked question) (int, string) { return asked(x.set) }
