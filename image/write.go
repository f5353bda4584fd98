package image

import "analemma/api"

// writer writes an image from its first byte on.
type writer struct{ bytes []byte }

// write is a right table's image.
func write(x api.Table) string {
	p := partsOf(x)
	var w writer
	w.text(magic)
	w.short(x.Name)
	put(&w, uint32(len(x.Shifts)))
	put(&w, uint32(len(p.kinds)))
	put(&w, uint32(len(p.pool)))
	for _, s := range x.Shifts {
		put(&w, s.At)
	}
	for _, s := range x.Shifts {
		put(&w, p.kindAt[s.Phase])
	}
	for _, k := range p.kinds {
		put(&w, int32(k.Offset))
		put(&w, int32(k.Save))
		put(&w, p.abbrAt[k.Abbr])
	}
	w.text(string(p.pool))
	put(&w, x.Until)
	put(&w, uint8(len(x.Tail)))
	for _, r := range x.Tail {
		w.rule(r)
	}
	put(&w, int32(x.Offset))
	w.short(x.Format)
	put(&w, Sum(string(w.bytes)))
	return string(w.bytes)
}

// rule writes a rule that goes on for ever.
func (w *writer) rule(r api.Rule) {
	w.short(r.Name)
	put(w, uint16(r.From))
	put(w, uint8(r.Spot.Month))
	put(w, uint8(r.Spot.Kind))
	put(w, uint8(r.Spot.Weekday))
	put(w, uint8(r.Spot.Day))
	put(w, int32(r.Spot.Time))
	put(w, uint8(r.Spot.Ref))
	put(w, int32(r.Save))
	w.short(r.Letter)
}

// short writes a short text.
func (w *writer) short(text string) {
	put(w, uint8(len(text)))
	w.text(text)
}

// text writes a text's bytes.
func (w *writer) text(text string) { w.bytes = append(w.bytes, text...) }

// put writes a number.
func put[T number](w *writer, x T) {
	for i := size[T]() - 1; i >= 0; i-- {
		w.bytes = append(w.bytes, byte(uint64(x)>>(8*i)))
	}
}

// parts are what an image has once, in the order in which it comes first in a table.
type parts struct {
	kinds  []api.Phase
	kindAt map[api.Phase]uint32 // the places of kinds
	pool   []byte
	abbrAt map[string]uint32 // the bytes of the pool at which abbreviations begin
}

// partsOf are a table's parts.
func partsOf(x api.Table) parts {
	p := parts{kindAt: map[api.Phase]uint32{}, abbrAt: map[string]uint32{}}
	p.kind(x.First)
	for _, s := range x.Shifts {
		p.kind(s.Phase)
	}
	return p
}

// kind takes a phase among the kinds, if it isn't there.
func (p *parts) kind(x api.Phase) {
	if _, known := p.kindAt[x]; known {
		return
	}
	p.kindAt[x] = uint32(len(p.kinds))
	p.kinds = append(p.kinds, x)
	p.abbr(x.Abbr)
}

// abbr takes an abbreviation into the pool, if it isn't there.
func (p *parts) abbr(text string) {
	if _, known := p.abbrAt[text]; known {
		return
	}
	p.abbrAt[text] = uint32(len(p.pool))
	p.pool = append(append(p.pool, text...), end...)
}
