package eras

import (
	"strconv"
	"strings"
)

// What formats have in the place of a letter and of an offset, and between what stands without a saving and with one.
const (
	letterMark = "%s"
	offsetMark = "%z"
	savingMark = "/"
)

// Lengths in seconds.
const (
	minute = 60
	hour   = 3600
)

// filled is a format with what belongs in the place of its mark.
func filled(format, letter string, offset, save int) string {
	if ahead, behind, ok := strings.Cut(format, letterMark); ok {
		return ahead + letter + behind
	}
	if ahead, behind, ok := strings.Cut(format, offsetMark); ok {
		return ahead + writtenOffset(offset) + behind
	}
	ahead, behind, ok := strings.Cut(format, savingMark)
	if ok && save != 0 {
		return behind
	}
	// Where there is no mark, all of the format stands ahead.
	return ahead
}

// writtenOffset writes an offset, its minutes and seconds only as far as they must be told.
func writtenOffset(offset int) string {
	sign, n := "+", uint64(offset)
	if offset < 0 {
		// Here the least number's seconds have room without their sign, too.
		sign, n = "-", -n
	}
	text := sign + twoDigits(n/hour)
	if n%hour != 0 {
		text += twoDigits(n % hour / minute)
	}
	if n%minute != 0 {
		text += twoDigits(n % minute)
	}
	return text
}

// twoDigits writes a number by at least two digits.
func twoDigits(n uint64) string {
	text := strconv.FormatUint(n, 10)
	if len(text) < 2 {
		return "0" + text
	}
	return text
}
