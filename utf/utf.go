// Package utf is layer 1: decoding of UTF-8. See shared/doc/01-utf.md.
package utf

import (
	"oriel/api"
)

const (
	lastRune       = 0x10ffff
	firstSurrogate = 0xd800
	lastSurrogate  = 0xdfff
	substitute     = 0xfffd
	mostBytes      = 4
)

// Rune decodes the rune whose bytes stand from at on, and tells how many they are.
func Rune(s string, at int) (rune, int, api.Errno) {
	if at < 0 || at >= len(s) {
		return 0, 0, api.ErrCut
	}
	r, size := lead(s[at])
	for have := 1; ; have++ {
		// Checked ahead of the text's end: what no byte more can mend isn't cut off.
		if !possible(r, have, size) {
			return 0, 0, api.ErrUtf
		}
		if have == size {
			return r, size, api.OK
		}
		if at+have == len(s) {
			return 0, 0, api.ErrCut
		}
		b := s[at+have]
		if b>>6 != 0x80>>6 {
			return 0, 0, api.ErrUtf
		}
		r = r<<6 | rune(b&0x3f)
	}
}

// All decodes the runes up to the first error, and tells where that stands; without one, how many bytes s has.
func All(s string) ([]rune, int, api.Errno) {
	var l []rune
	at := 0
	for at < len(s) {
		r, n, err := Rune(s, at)
		if err != api.OK {
			return l, at, err
		}
		l = append(l, r)
		at += n
	}
	return l, at, api.OK
}

// Put encodes the runes, one behind the other.
func Put(l ...rune) string {
	b := make([]byte, 0, len(l))
	for _, r := range l {
		b = add(b, r)
	}
	return string(b)
}

// Whole tells how many bytes of s stand ahead of an end that begins a rune.
func Whole(s string) int {
	// At most one of these ends begins a rune: what begins one has its first byte alone in front.
	for n := 1; n < mostBytes && n <= len(s); n++ {
		if _, _, err := Rune(s, len(s)-n); err == api.ErrCut {
			return len(s) - n
		}
	}
	return len(s)
}

// lead splits a rune's first byte: its bits, and how many bytes it says that the rune has (0: it is no first byte).
func lead(b byte) (rune, int) {
	switch {
	case b>>7 == 0:
		return rune(b), 1
	case b>>5 == 0xc0>>5:
		return rune(b & 0x1f), 2
	case b>>4 == 0xe0>>4:
		return rune(b & 0x0f), 3
	case b>>3 == 0xf0>>3:
		return rune(b & 0x07), 4
	}
	return 0, 0
}

// possible tells whether some rune has size bytes, the first of which (as many as have) hold the bits of r.
func possible(r rune, have, size int) bool {
	if size == 0 {
		return false
	}
	missing := 6 * (size - have)
	low := r << missing
	high := low | (1<<missing - 1)
	least, most := span(size)
	if low >= firstSurrogate && high <= lastSurrogate {
		return false
	}
	return low <= most && high >= least
}

// span tells the first and the last rune of so many bytes.
func span(size int) (rune, rune) {
	switch size {
	case 1:
		return 0, 0x7f
	case 2:
		return 0x80, 0x7ff
	case 3:
		return 0x800, 0xffff
	}
	return 0x10000, lastRune
}

// add appends the bytes of r, or, if it has none, those of the rune that stands for it.
func add(b []byte, r rune) []byte {
	if r < 0 || r > lastRune || r >= firstSurrogate && r <= lastSurrogate {
		r = substitute
	}
	switch {
	case r < 0x80:
		return append(b, byte(r))
	case r < 0x800:
		return append(b, 0xc0|byte(r>>6), follow(r, 0))
	case r < 0x10000:
		return append(b, 0xe0|byte(r>>12), follow(r, 6), follow(r, 0))
	}
	return append(b, 0xf0|byte(r>>18), follow(r, 12), follow(r, 6), follow(r, 0))
}

// follow makes a byte behind a rune's first one, of the six bits of r from shift on.
func follow(r rune, shift int) byte {
	return 0x80 | byte(r>>shift)&0x3f
}
