package sample

import "analemma/api"

// Lengths in seconds.
const (
	hour     = 3600
	wholeDay = 86400
)

// Dice are numbers by a fixed rule, and what is made of them.
type Dice struct {
	bits []uint64
	next int
}

// Rolled are dice that come again behind so many numbers.
func Rolled(n int) *Dice { return &Dice{bits: Bits(n)} }

// To is a number from 0 to one below n.
func (d *Dice) To(n int) int {
	x := d.bits[d.next%len(d.bits)]
	d.next++
	return int(x >> 20 % uint64(n))
}

// From is a number from one to another.
func (d *Dice) From(least, greatest int) int { return least + d.To(greatest-least+1) }

// Pick is one of some items.
func Pick[T any](d *Dice, l ...T) T { return l[d.To(len(l))] }

// Spot is a right spot of few months and days, so that many spots meet, those about the year's end among them.
func (d *Dice) Spot() api.Spot {
	s := api.Spot{
		Month: Pick(d, 1, 1, 2, 3, 6, 10, 12, 12),
		Kind:  d.To(4),
		Time:  Pick(d, 0, 0, 2*hour, 2*hour, 3*hour, wholeDay, -wholeDay, 604799, -604799, 5*hour+123),
		Ref:   d.To(3),
	}
	if s.Kind != api.OnDay {
		s.Weekday = Pick(d, 1, 4, 6, 7, 7)
	}
	if s.Kind != api.OnLast {
		s.Day = Pick(d, 1, 1, 2, 3, 8, 15, 29, 30, 31, 31)
	}
	return s
}

// Rule is a right rule of years that are near one another.
func (d *Dice) Rule() api.Rule {
	from := 1995 + d.To(6)
	return api.Rule{
		Name:   "R",
		From:   from,
		To:     Pick(d, from, from, from+1, from+2, from+4, from-1, api.Ever),
		Spot:   d.Spot(),
		Save:   Pick(d, 0, 0, 0, hour, hour, -hour, 2*hour, hour/2, 43200, -43200),
		Letter: Pick(d, "", "S", "D", "M", "+01", "x"),
	}
}

// Set is a right set of at most so many rules, of which some turn at about the time of one ahead of them, or just then.
func (d *Dice) Set(most int) []api.Rule {
	var l []api.Rule
	for range d.To(most + 1) {
		r := d.Rule()
		if len(l) > 0 && d.To(3) == 0 {
			r.Spot = l[d.To(len(l))].Spot
			r.Spot.Ref = d.To(3)
			r.Spot.Time = Pick(d, r.Spot.Time, r.Spot.Time, r.Spot.Time/2, 0, hour, 12*hour, wholeDay, api.Apart)
		}
		l = append(l, r)
	}
	return l
}
