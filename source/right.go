package source

import (
	"strings"

	"analemma/api"
	"analemma/moment"
)

// wholeDay is a day in seconds.
const wholeDay = 86400

// rightList tells whether a list has neither too few nor too many items, and each may be.
func rightList[T any](l []T, fewest, most int, right func(x T) bool) bool {
	if len(l) < fewest || len(l) > most {
		return false
	}
	for _, x := range l {
		if !right(x) {
			return false
		}
	}
	return true
}

// rightRule tells whether a rule may be.
func rightRule(x api.Rule) bool {
	return Set(x.Name) && rightYear(x.From) && (rightYear(x.To) || x.To == api.Ever) &&
		moment.Right(x.Spot) && rightSave(x.Save) && (x.Letter == "" || rightLetter(x.Letter))
}

// rightZone tells whether a zone may be: all its eras but the last one have an end.
func rightZone(x api.Zone) bool {
	if !Place(x.Name) || !rightList(x.Eras, 1, api.MaxEras, rightEra) {
		return false
	}
	for i, era := range x.Eras {
		if era.Until != (i < len(x.Eras)-1) {
			return false
		}
	}
	return true
}

// rightLink tells whether a link may be.
func rightLink(x api.Link) bool { return Place(x.Target) && Place(x.Name) }

// rightEra tells whether an era may be, wherever it stands.
func rightEra(x api.Era) bool {
	return x.Offset > -wholeDay && x.Offset < wholeDay && hasRightSaving(x) && rightFormat(x.Format) && hasRightEnd(x)
}

// hasRightSaving tells whether an era's Kind may be, and Save and Rules beside it.
func hasRightSaving(x api.Era) bool {
	switch x.Kind {
	case api.SaveNone:
		return x.Save == 0 && x.Rules == ""
	case api.SaveFixed:
		return rightSave(x.Save) && x.Rules == ""
	case api.SaveRules:
		return x.Save == 0 && Set(x.Rules)
	}
	return false
}

// hasRightEnd tells whether an era's Year and Spot may be beside its Until.
func hasRightEnd(x api.Era) bool {
	if !x.Until {
		return x.Year == 0 && x.Spot == (api.Spot{})
	}
	return rightYear(x.Year) && moment.Right(x.Spot)
}

// rightYear tells whether a number may be a year.
func rightYear(n int) bool { return n >= 1 && n <= api.MaxYear }

// rightSave tells whether so many seconds may be a saving.
func rightSave(n int) bool { return n >= -api.MaxSave && n <= api.MaxSave }

// rightLetter tells whether a text may be a rule's letter; what stands for none is none.
func rightLetter(text string) bool { return text != nothing && made(text, 8, "+-") }

// rightFormat tells whether a text may be an era's format.
func rightFormat(text string) bool {
	if !made(text, 20, "+-%/") {
		return false
	}
	if _, behind, ok := strings.Cut(text, "%"); ok {
		return !strings.Contains(text, "/") && !strings.Contains(behind, "%") &&
			(strings.HasPrefix(behind, "s") || strings.HasPrefix(behind, "z"))
	}
	ahead, behind, ok := strings.Cut(text, "/")
	return !ok || ahead != "" && behind != "" && !strings.Contains(behind, "/")
}

// made tells whether a text is one or more bytes, and at most so many: letters, digits and some marks.
func made(text string, most int, marks string) bool {
	if text == "" || len(text) > most {
		return false
	}
	for i := range len(text) {
		if c := text[i]; !letter(c) && !digit(c) && strings.IndexByte(marks, c) < 0 {
			return false
		}
	}
	return true
}

// begun tells whether a text begins as a set's name does.
func begun(text string) bool { return text != "" && (letter(text[0]) || text[0] == '_') }

// letter tells whether a byte is a letter.
func letter(c byte) bool { return c >= 'A' && c <= 'Z' || c >= 'a' && c <= 'z' }

// digit tells whether a byte is a digit.
func digit(c byte) bool { return c >= '0' && c <= '9' }
