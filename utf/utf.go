// Package utf is layer 1: see shared/doc/01-utf.md.
package utf

import (
	"unicode/utf8"

	"waybill/api"
)

// The kinds of halves, as Half tells them.
const (
	noHalf = iota
	highHalf
	lowHalf
)

// The bounds of characters and of halves.
const (
	lastChar   = 0x10ffff
	firstHigh  = 0xd800
	firstLow   = 0xdc00
	lastLow    = 0xdfff
	firstSplit = 0x10000 // from here on characters have halves
)

// Each half bears so many bits of its character.
const halfBits = 10

// Valid tells whether bytes are UTF-8.
func Valid(b []byte) error {
	for at := 0; at < len(b); {
		_, size, err := Next(b, at)
		if err != nil {
			return err
		}
		at += size
	}
	return nil
}

// Next gives the character at a place, and how many bytes it has.
func Next(b []byte, at int) (char, size int, err error) {
	if at < 0 || at > len(b) {
		return 0, 0, api.Fail(api.ErrArg, at)
	}
	if at == len(b) {
		return 0, 0, api.Fail(api.ErrShort, at)
	}
	r, size := utf8.DecodeRune(b[at:])
	// RuneError is a character, too: only with a size of 1 it means that none stands here.
	if r == utf8.RuneError && size == 1 {
		return 0, 0, api.Fail(api.ErrUTF, at)
	}
	return int(r), size, nil
}

// Put gives a character's bytes.
func Put(char int) ([]byte, error) {
	return Text([]int{char})
}

// Chars gives all characters.
func Chars(b []byte) ([]int, error) {
	if err := Valid(b); err != nil {
		return nil, err
	}
	var list []int
	for _, r := range string(b) {
		list = append(list, int(r))
	}
	return list, nil
}

// Text gives the bytes of characters.
func Text(list []int) ([]byte, error) {
	var b []byte
	for at, char := range list {
		if !isChar(char) {
			return nil, api.Fail(api.ErrRange, at)
		}
		b = utf8.AppendRune(b, rune(char))
	}
	return b, nil
}

// isChar is asked of the int, not of a rune: a great int would be cut off to a rune that is a character.
func isChar(n int) bool {
	return n >= 0 && n <= lastChar && Half(n) == noHalf
}

// Halves gives the two halves of a character above 65535.
func Halves(char int) (high, low int, ok bool) {
	if char < firstSplit || char > lastChar {
		return 0, 0, false
	}
	bits := char - firstSplit
	return firstHigh + bits>>halfBits, firstLow + bits&(1<<halfBits-1), true
}

// Whole gives the character of two halves.
func Whole(high, low int) (char int, ok bool) {
	if Half(high) != highHalf || Half(low) != lowHalf {
		return 0, false
	}
	return firstSplit + (high-firstHigh)<<halfBits + (low - firstLow), true
}

// Half tells whether a number is a half: 1 a high one, 2 a low one, 0 none.
func Half(n int) int {
	switch {
	case n < firstHigh || n > lastLow:
		return noHalf
	case n < firstLow:
		return highHalf
	default:
		return lowHalf
	}
}
