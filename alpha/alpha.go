// Package alpha is layer 1: letters and their numbers. See shared/doc/01-alpha.md.
package alpha

import (
	"strings"

	"helix/api"
)

// minLetters is the fewest that an alphabet has; api names the most alone.
const minLetters = 2

// Right tells whether letters are an alphabet.
func Right(letters string) bool {
	if len(letters) < minLetters || len(letters) > api.MaxLetters {
		return false
	}
	for i := range len(letters) {
		if !isCapital(letters[i]) || strings.IndexByte(letters[:i], letters[i]) >= 0 {
			return false
		}
	}
	return true
}

// Add tells the alphabet of some groups of letters, one behind the other.
func Add(groups ...string) (string, api.Errno) {
	var all []byte
	for _, group := range groups {
		// What is too long is wrong whatever stands in it, so that no more than an alphabet's room is ever filled.
		if len(all)+len(group) > api.MaxLetters {
			return "", api.ErrAlphabet
		}
		for i := range len(group) {
			all = append(all, capital(group[i]))
		}
	}
	letters := string(all)
	if !Right(letters) {
		return "", api.ErrAlphabet
	}
	return letters, api.OK
}

// Code is a letter's number, -1 for what is none.
func Code(letters string, c byte) int {
	if !Right(letters) {
		return -1
	}
	return number(letters, c)
}

// Encode tells the numbers of a text's letters; or the place of the first that is none.
func Encode(letters, s string) ([]int, int, api.Errno) {
	if !Right(letters) {
		return nil, 0, api.ErrAlphabet
	}
	if len(s) > api.MaxBases {
		return nil, 0, api.ErrLong
	}
	l := make([]int, len(s))
	for i := range len(s) {
		n := number(letters, s[i])
		if n < 0 {
			return nil, i, api.ErrSymbol
		}
		l[i] = n
	}
	return l, 0, api.OK
}

// Decode tells the letters of numbers.
func Decode(letters string, l ...int) (string, api.Errno) {
	if !Right(letters) {
		return "", api.ErrAlphabet
	}
	if len(l) > api.MaxBases {
		return "", api.ErrLong
	}
	text := make([]byte, len(l))
	for i, n := range l {
		if n < 0 || n >= len(letters) {
			return "", api.ErrSymbol
		}
		text[i] = letters[n]
	}
	return string(text), api.OK
}

// number is Code for letters that are known to be an alphabet: texts ask it of each byte, and look at the alphabet but once.
func number(letters string, c byte) int {
	return strings.IndexByte(letters, capital(c))
}

// capital leaves what is no small letter as it is: an alphabet has capitals alone, and so refuses it.
func capital(c byte) byte {
	if c >= 'a' && c <= 'z' {
		return c - 'a' + 'A'
	}
	return c
}

func isCapital(c byte) bool { return c >= 'A' && c <= 'Z' }
