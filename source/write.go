package source

import (
	"cmp"
	"strconv"
	"strings"

	"analemma/api"
	"analemma/fields"
	"analemma/moment"
)

// written is a right source's text.
func written(s api.Source) string {
	var text strings.Builder
	for _, x := range s.Rules {
		writeLine(&text, writtenRule(x))
	}
	for _, x := range s.Zones {
		ahead := []string{wordZone, x.Name}
		for _, era := range x.Eras {
			writeLine(&text, append(ahead, writtenEra(era)...))
			ahead = nil
		}
	}
	for _, x := range s.Links {
		writeLine(&text, []string{wordLink, x.Target, x.Name})
	}
	return text.String()
}

// writeLine writes a line with fields of these texts.
func writeLine(text *strings.Builder, l []string) {
	// What may stand in a right source may stand in a field, and is short.
	line, _ := fields.Join(l)
	text.WriteString(line)
	text.WriteByte('\n')
}

// writtenRule are the fields of a right rule.
func writtenRule(x api.Rule) []string {
	l := []string{wordRule, x.Name, strconv.Itoa(x.From), writtenLast(x), nothing}
	l = append(l, writtenSpot(x.Spot)...)
	return append(l, moment.Time(x.Save), cmp.Or(x.Letter, nothing))
}

// writtenLast is a right rule's last year.
func writtenLast(x api.Rule) string {
	switch x.To {
	case x.From:
		return only
	case api.Ever:
		return ever
	}
	return strconv.Itoa(x.To)
}

// writtenEra are the fields of a right era.
func writtenEra(x api.Era) []string {
	l := []string{moment.Time(x.Offset), writtenSaving(x), x.Format}
	if x.Until {
		l = append(append(l, strconv.Itoa(x.Year)), writtenSpot(x.Spot)...)
	}
	return l
}

// writtenSaving is by what a right era's saving is told.
func writtenSaving(x api.Era) string {
	switch x.Kind {
	case api.SaveFixed:
		return moment.Time(x.Save)
	case api.SaveRules:
		return x.Rules
	}
	return nothing
}

// writtenSpot are the fields of a right spot.
func writtenSpot(x api.Spot) []string {
	l, _ := moment.Print(x)
	return l
}
