package image

import (
	"strings"

	"analemma/api"
)

// reader reads an image from its first byte on. It gives up where it can't go on; whether the bytes are the image of what it read, that image tells.
type reader struct{ rest string }

// kind is a kind as it stands in an image: its abbreviation begins at a byte of the pool.
type kind struct {
	offset, save int
	abbr         int
}

// read reads a table from bytes; what stands behind it isn't looked at.
func read(s string) (x api.Table, e api.Errno) {
	defer func() {
		if wrong := recover(); wrong != nil {
			x, e = api.Table{}, wrong.(api.Errno)
		}
	}()
	r := reader{rest: s}
	return r.table(), api.OK
}

// fail ends the reading.
func (r *reader) fail() { panic(api.ErrImage) }

// table reads a table.
func (r *reader) table() api.Table {
	r.bytes(len(magic))
	var x api.Table
	x.Name = r.short()
	n, k, m := r.count(), r.count(), r.count()
	// No table has more: First is a kind, too.
	if n > api.MaxShifts || k == 0 || k > n+1 {
		r.fail()
	}
	ats, places := list(r, n, take[int64]), list(r, n, take[uint32])
	kinds := list(r, k, (*reader).kind)
	phases := r.phases(kinds, r.bytes(m))
	x.First = phases[0]
	for i, at := range ats {
		if int(places[i]) >= len(phases) {
			r.fail()
		}
		x.Shifts = append(x.Shifts, api.Shift{At: at, Phase: phases[places[i]]})
	}
	x.Until = take[int64](r)
	x.Tail = list(r, int(take[uint8](r)), (*reader).rule)
	x.Offset = int(take[int32](r))
	x.Format = r.short()
	return x
}

// kind reads a kind.
func (r *reader) kind() kind {
	var x kind
	x.offset = int(take[int32](r))
	x.save = int(take[int32](r))
	x.abbr = r.count()
	return x
}

// phases are the phases of kinds.
func (r *reader) phases(kinds []kind, pool string) []api.Phase {
	var l []api.Phase
	for _, x := range kinds {
		l = append(l, api.Phase{Offset: x.offset, Save: x.save, Abbr: r.abbr(pool, x.abbr)})
	}
	return l
}

// abbr is the abbreviation that begins at a byte of a pool.
func (r *reader) abbr(pool string, at int) string {
	if at >= len(pool) {
		r.fail()
	}
	// No abbreviation is longer: else all of a great pool would be gone through for each kind.
	near := pool[at:min(len(pool), at+api.MaxAbbr+len(end))]
	text, _, ended := strings.Cut(near, end)
	if !ended {
		r.fail()
	}
	return strings.Clone(text)
}

// rule reads a rule that goes on for ever.
func (r *reader) rule() api.Rule {
	x := api.Rule{To: api.Ever}
	x.Name = r.short()
	x.From = int(take[uint16](r))
	x.Spot.Month = int(take[uint8](r))
	x.Spot.Kind = int(take[uint8](r))
	x.Spot.Weekday = int(take[uint8](r))
	x.Spot.Day = int(take[uint8](r))
	x.Spot.Time = int(take[int32](r))
	x.Spot.Ref = int(take[uint8](r))
	x.Save = int(take[int32](r))
	x.Letter = r.short()
	return x
}

// count reads how many there are of something, or where something begins.
func (r *reader) count() int { return int(take[uint32](r)) }

// short reads a short text.
func (r *reader) short() string {
	// A piece of the image would share its memory.
	return strings.Clone(r.bytes(int(take[uint8](r))))
}

// list reads so many items.
func list[T any](r *reader, n int, item func(r *reader) T) []T {
	var l []T
	for range n {
		l = append(l, item(r))
	}
	return l
}

// take reads a number.
func take[T number](r *reader) T {
	var bits uint64
	for _, b := range []byte(r.bytes(size[T]())) {
		bits = bits<<8 | uint64(b)
	}
	return T(bits)
}

// bytes are the next so many bytes.
func (r *reader) bytes(n int) string {
	if n > len(r.rest) {
		r.fail()
	}
	text := r.rest[:n]
	r.rest = r.rest[n:]
	return text
}
