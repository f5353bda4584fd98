// Package sample has what the layers' tests share: numbers, texts and sets of rules with which they try their calls, and how trees are held against each other. No layer calls it.
package sample

import "analemma/api"

// Bits are bits by a fixed rule, so that each run tests the same.
func Bits(n int) []uint64 {
	l := make([]uint64, 0, n)
	x := uint64(1)
	for range n {
		x = x*6364136223846793005 + 1442695040888963407
		l = append(l, x^x>>29)
	}
	return l
}

// Halves are bits of a half at which something turns: its ends, its middle, and small numbers of each sign.
func Halves() []uint64 {
	const full = 1<<64 - 1
	return []uint64{
		0, 1, 2, 3, 9, 10, 1 << 31, 1<<32 - 1, 1 << 32, 1 << 62,
		1<<63 - 1, 1 << 63, 1<<63 + 1, full - 9, full - 1, full,
	}
}

// Edges are the wide numbers of all pairs of such halves.
func Edges() []api.Wide {
	var l []api.Wide
	for _, hi := range Halves() {
		for _, lo := range Halves() {
			l = append(l, api.Wide{Hi: int64(hi), Lo: lo})
		}
	}
	return l
}

// Spread are wide numbers of all lengths and both signs.
func Spread(n int) []api.Wide {
	l := make([]api.Wide, 0, n)
	b := Bits(2 * n)
	for i := range n {
		w := api.Wide{Hi: int64(b[2*i]), Lo: b[2*i+1]}
		if i%3 != 0 {
			w = shifted(w, i*5%128)
		}
		l = append(l, w)
	}
	return l
}

// Small are the wide numbers from -n to n.
func Small(n int64) []api.Wide {
	var l []api.Wide
	for i := -n; i <= n; i++ {
		l = append(l, api.Wide{Hi: i >> 63, Lo: uint64(i)})
	}
	return l
}

// Every goes through all texts of at most so many bytes that are made of some.
func Every(of string, most int, do func(text string)) {
	var grow func(text []byte)
	grow = func(text []byte) {
		do(string(text))
		if len(text) == most {
			return
		}
		for i := range len(of) {
			grow(append(text, of[i]))
		}
	}
	grow(make([]byte, 0, most))
}

// Spoiled goes through a text with each byte at each place, in the place of one and ahead of it, and without each byte.
func Spoiled(text string, do func(text string)) {
	for i := range len(text) + 1 {
		for c := range 256 {
			b := string([]byte{byte(c)})
			do(text[:i] + b + text[i:])
			if i < len(text) {
				do(text[:i] + b + text[i+1:])
			}
		}
		if i < len(text) {
			do(text[:i] + text[i+1:])
		}
	}
}

// SpotFields are a spot's fields, for changing each alone.
func SpotFields(s *api.Spot) []*int {
	return []*int{&s.Month, &s.Kind, &s.Weekday, &s.Day, &s.Time, &s.Ref}
}

// shifted is a number without its last bits.
func shifted(w api.Wide, by int) api.Wide {
	if by >= 64 {
		return api.Wide{Hi: w.Hi >> 63, Lo: uint64(w.Hi >> (by - 64))}
	}
	return api.Wide{Hi: w.Hi >> by, Lo: w.Lo>>by | uint64(w.Hi)<<(64-by)}
}
