package source

import (
	"strconv"

	"analemma/api"
	"analemma/fields"
	"analemma/moment"
)

// How many fields there are behind a line's first one, and how many an era has.
const (
	ruleFields = 9
	linkFields = 2
	spotFields = 3
	fewestEra  = 3
	mostEra    = fewestEra + 1 + spotFields
)

// reader reads a source line by line.
type reader struct {
	tree       api.Source
	line       int        // the number of the line that is read
	start, end int        // the byte at which its first field begins, and its length
	words      []api.Word // its fields that aren't read yet
}

// read reads a text of no more bytes than may be.
func read(text string) (tree api.Source, fault api.Fault) {
	defer func() {
		if wrong := recover(); wrong != nil {
			tree, fault = api.Source{}, wrong.(api.Fault)
		}
	}()
	var r reader
	for _, line := range fields.Lines(text) {
		r.line++
		r.readLine(line)
	}
	if r.due() {
		r.line++
		r.fail(api.ErrFew, 0)
	}
	return r.tree, api.Fault{}
}

// fail ends the reading: a byte of the line is wrong.
func (r *reader) fail(e api.Errno, at int) {
	panic(api.Fault{Err: e, Line: r.line, At: at})
}

// readLine reads a line.
func (r *reader) readLine(line string) {
	words, at, e := fields.Split(line)
	if e != api.OK {
		r.fail(e, at)
	}
	if len(words) == 0 {
		return
	}
	r.start, r.end, r.words = words[0].At, len(line), words
	if r.due() {
		r.further()
		return
	}
	means, ok := meaning(words[0].Text)
	if !ok {
		r.fail(api.ErrWord, r.start)
	}
	r.words = words[1:]
	means(r)
}

// due tells whether the last zone's next era isn't there yet.
func (r *reader) due() bool {
	if len(r.tree.Zones) == 0 {
		return false
	}
	eras := r.tree.Zones[len(r.tree.Zones)-1].Eras
	return eras[len(eras)-1].Until
}

// meaning is what a line's first word means.
func meaning(word string) (func(r *reader), bool) {
	means, ok := map[string]func(r *reader){
		wordRule: (*reader).rule,
		wordZone: (*reader).zone,
		wordLink: (*reader).link,
	}[word]
	return means, ok
}

// rule reads a rule.
func (r *reader) rule() {
	r.room(len(r.tree.Rules), api.MaxRules)
	r.sized(ruleFields, ruleFields)
	var x api.Rule
	x.Name = take(r, name(Set))
	x.From = take(r, year)
	x.To = take(r, last(x.From))
	take(r, name(func(text string) bool { return text == nothing }))
	x.Spot = r.spot(spotFields)
	x.Save = take(r, saving)
	x.Letter = take(r, ruleLetter)
	r.tree.Rules = append(r.tree.Rules, x)
}

// zone reads a zone with its first era.
func (r *reader) zone() {
	r.room(len(r.tree.Zones), api.MaxZones)
	r.sized(1+fewestEra, 1+mostEra)
	var x api.Zone
	x.Name = take(r, name(Place))
	x.Eras = []api.Era{r.era()}
	r.tree.Zones = append(r.tree.Zones, x)
}

// further reads the last zone's next era.
func (r *reader) further() {
	x := &r.tree.Zones[len(r.tree.Zones)-1]
	r.room(len(x.Eras), api.MaxEras)
	r.sized(fewestEra, mostEra)
	x.Eras = append(x.Eras, r.era())
}

// link reads a link.
func (r *reader) link() {
	r.room(len(r.tree.Links), api.MaxLinks)
	r.sized(linkFields, linkFields)
	var x api.Link
	x.Target = take(r, name(Place))
	x.Name = take(r, name(Place))
	r.tree.Links = append(r.tree.Links, x)
}

// era reads all fields that aren't read yet as an era.
func (r *reader) era() api.Era {
	offset := take(r, moment.Offset)
	x := take(r, eraSaving)
	x.Offset = offset
	x.Format = take(r, name(rightFormat))
	if len(r.words) > 0 {
		x.Until = true
		x.Year = take(r, year)
		x.Spot = r.spot(len(r.words))
	}
	return x
}

// room refuses a line of a kind of which there are as many already as may be.
func (r *reader) room(n, most int) {
	if n >= most {
		r.fail(api.ErrMany, r.start)
	}
}

// sized refuses a line with too few or too many fields.
func (r *reader) sized(fewest, most int) {
	if len(r.words) < fewest {
		r.fail(api.ErrFew, r.end)
	}
	if len(r.words) > most {
		r.fail(api.ErrMore, r.words[most].At)
	}
}

// take reads the next field.
func take[T any](r *reader, read func(text string) (T, api.Errno)) T {
	word := r.words[0]
	r.words = r.words[1:]
	x, e := read(word.Text)
	if e != api.OK {
		r.fail(e, word.At)
	}
	return x
}

// spot reads the next so many fields as a spot.
func (r *reader) spot(n int) api.Spot {
	var l []string
	for _, word := range r.words[:n] {
		l = append(l, word.Text)
	}
	x, i, e := moment.Parse(l)
	if e != api.OK {
		r.fail(e, r.words[i].At)
	}
	r.words = r.words[n:]
	return x
}

// name reads a text as itself, if it is of a kind.
func name(kind func(text string) bool) func(text string) (string, api.Errno) {
	return func(text string) (string, api.Errno) {
		if !kind(text) {
			return "", api.ErrForm
		}
		return text, api.OK
	}
}

// year reads a year.
func year(text string) (int, api.Errno) {
	const most = 4
	n, err := strconv.ParseUint(text, 10, 64)
	if err != nil || len(text) > most || !rightYear(int(n)) {
		return 0, api.ErrForm
	}
	return int(n), api.OK
}

// last reads the last year of a rule, whose first one is known.
func last(from int) func(text string) (int, api.Errno) {
	return func(text string) (int, api.Errno) {
		switch text {
		case only:
			return from, api.OK
		case ever:
			return api.Ever, api.OK
		}
		return year(text)
	}
}

// saving reads a saving.
func saving(text string) (int, api.Errno) {
	n, e := moment.Offset(text)
	if !rightSave(n) {
		return 0, api.ErrOffset
	}
	return n, e
}

// ruleLetter reads a rule's letter.
func ruleLetter(text string) (string, api.Errno) {
	if text == nothing {
		return "", api.OK
	}
	return name(rightLetter)(text)
}

// eraSaving reads by what an era's saving is told: the era's Kind, Save and Rules.
func eraSaving(text string) (api.Era, api.Errno) {
	switch {
	case text == nothing:
		return api.Era{Kind: api.SaveNone}, api.OK
	case begun(text):
		rules, e := name(Set)(text)
		return api.Era{Kind: api.SaveRules, Rules: rules}, e
	}
	save, e := saving(text)
	return api.Era{Kind: api.SaveFixed, Save: save}, e
}
