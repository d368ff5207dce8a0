// Package lines has what files of sequences, of reads and of records are made of: lines, titles, letters, signs. See shared/doc/02-fasta.md, section Words.
package lines

import (
	"strings"

	"helix/api"
)

// Reader goes through the lines of a text. A reader of a file embeds it.
type Reader struct {
	rest   string
	line   string
	number int
}

// Of is a reader that stands ahead of the first line of text.
func Of(text string) Reader { return Reader{rest: text} }

// Next goes on to the next line; it is false if there is none.
func (r *Reader) Next() bool {
	// What a line feed leaves behind it is a line only if it is not empty: an empty rest has none.
	if r.rest == "" {
		return false
	}
	line, rest, _ := strings.Cut(r.rest, "\n")
	r.line, r.rest = strings.TrimSuffix(line, "\r"), rest
	r.number++
	return true
}

// Line is the line at which the reader stands.
func (r *Reader) Line() string { return r.line }

// Number is that line's number, from 1 on; behind the last line it is how many there are.
func (r *Reader) Number() int { return r.number }

// IsName tells whether s is a name.
func IsName(s string) bool {
	return s != "" && len(s) <= api.MaxTitle && AreSigns(s) && strings.IndexByte("@*=", s[0]) < 0
}

// IsNote tells whether s is a note.
func IsNote(s string) bool {
	return len(s) <= api.MaxTitle && between(s, ' ', '~') && !strings.HasPrefix(s, " ")
}

// Title tells the name and the note of a title; false if s is none.
func Title(s string) (name, note string, ok bool) {
	// A name has no blank, so that the first one ends it.
	name, note, noted := strings.Cut(s, " ")
	if !IsName(name) || !IsNote(note) || noted && note == "" {
		return "", "", false
	}
	return name, note, true
}

// Join tells the title of a name and a note.
func Join(name, note string) string {
	if note == "" {
		return name
	}
	return name + " " + note
}

// AreLetters tells whether each byte of s is a letter.
func AreLetters(s string) bool {
	for i := range len(s) {
		if !isLetter(s[i]) {
			return false
		}
	}
	return true
}

// AreBases tells whether s may be the letters of a sequence or read.
func AreBases(s string) bool {
	return s != "" && len(s) <= api.MaxBases && AreLetters(s)
}

// MayBeWritten tells whether a sequence may.
func MayBeWritten(s api.Seq) bool {
	return IsName(s.Name) && IsNote(s.Note) && AreBases(s.Bases)
}

// AreSigns tells whether each byte of s is a sign that can be seen, such as names and a read's signs are made of.
func AreSigns(s string) bool { return between(s, '!', '~') }

func isLetter(c byte) bool {
	return c >= 'A' && c <= 'Z' || c >= 'a' && c <= 'z'
}

func between(s string, low, high byte) bool {
	for i := range len(s) {
		if s[i] < low || s[i] > high {
			return false
		}
	}
	return true
}
