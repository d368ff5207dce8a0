package seeds_test

import (
	"slices"
	"strings"
	"testing"

	"helix/api"
	"helix/kmer"
	"helix/seeds"
)

// index is one that must be made.
func index(t *testing.T, k int, refs ...string) *kmer.Index {
	t.Helper()
	x, e := kmer.New(k, refs...)
	if x == nil || e != api.OK {
		t.Fatalf("New of %d and %d references: %v, %v", k, len(refs), x, e)
	}
	return x
}

// has holds both calls to the matches that there must be.
func has(t *testing.T, x *kmer.Index, read string, want ...api.Match) {
	t.Helper()
	if l, e := seeds.Matches(x, read); !slices.Equal(l, want) || e != api.OK {
		t.Errorf("E2: Matches of %q: %v, %v, not %v", read, l, e, want)
	}
	counts(t, x, read, len(want))
}

// counts holds Count to what it must be.
func counts(t *testing.T, x *kmer.Index, read string, want int) {
	t.Helper()
	if n, e := seeds.Count(x, read); n != want || e != api.OK {
		t.Errorf("E1: Count of %d bytes: %d, %v, not %d", len(read), n, e, want)
	}
}

// tooMany holds both calls to a read that has more matches than are told.
func tooMany(t *testing.T, x *kmer.Index, read string, want int) {
	t.Helper()
	if l, e := seeds.Matches(x, read); l != nil || e != api.ErrMatches {
		t.Errorf("E2: Matches of %d bytes: %d of them, %v, not %v", len(read), len(l), e, api.ErrMatches)
	}
	counts(t, x, read, want)
}

// tooLong holds both calls to a read that is too long.
func tooLong(t *testing.T, x *kmer.Index, read string) {
	t.Helper()
	if l, e := seeds.Matches(x, read); l != nil || e != api.ErrLong {
		t.Errorf("E2: Matches of %d bytes: %d of them, %v, not %v", len(read), len(l), e, api.ErrLong)
	}
	if n, e := seeds.Count(x, read); n != 0 || e != api.ErrLong {
		t.Errorf("E1: Count of %d bytes: %d, %v, not %v", len(read), n, e, api.ErrLong)
	}
}

// The chapter's examples.
func TestExamples(t *testing.T) {
	x := index(t, 2, "ABAB", "BA")
	has(t, x, "BAB", api.Match{From: 1}, api.Match{At: 1}, api.Match{At: 2, From: 1}, api.Match{Ref: 1})
	has(t, x, "A")
	has(t, x, "")
	has(t, x, "CC")

	x = index(t, 1, strings.Repeat("A", 40))
	tooMany(t, x, strings.Repeat("A", 26), 1040)
	if l, e := seeds.Matches(x, strings.Repeat("A", 25)); len(l) != 1000 || e != api.OK {
		t.Errorf("E2: %d matches, %v, not 1000", len(l), e)
	}
}

// Reads of about a word's length: one that is shorter has no match, though its bytes stand in a reference.
func TestShortReads(t *testing.T) {
	text := "ABCDEFGHIJKLMNOPQRST"
	for k := 1; k <= 16; k++ {
		x := index(t, k, text)
		for n := range k {
			has(t, x, text[:n])
		}
		has(t, x, text[2:2+k], api.Match{At: 2})
		has(t, x, text[:k+1], api.Match{}, api.Match{At: 1, From: 1})
		has(t, x, text[1:k]+"-")
	}
}

// An index that has no word: of no reference, or of such as are too short.
func TestNoWords(t *testing.T) {
	for _, x := range []*kmer.Index{index(t, 3), index(t, 3, ""), index(t, 3, "AB", "", "BA")} {
		has(t, x, "ABABA")
		has(t, x, "AB")
		has(t, x, "")
	}
}

// No match stands half in a reference, half in the next one.
func TestBetweenReferences(t *testing.T) {
	has(t, index(t, 2, "AB", "CD"), "ABCD", api.Match{}, api.Match{Ref: 1, From: 2})
}

// Matches rise by Ref, then by At, then by From, whatever order their words have.
func TestOrder(t *testing.T) {
	has(t, index(t, 1, "ab", "ba", "b"), "bab",
		api.Match{From: 1}, api.Match{At: 1}, api.Match{At: 1, From: 2},
		api.Match{Ref: 1}, api.Match{Ref: 1, From: 2}, api.Match{Ref: 1, At: 1, From: 1},
		api.Match{Ref: 2}, api.Match{Ref: 2, From: 2})
}

// Words may overlap, in a read as in references.
func TestOverlaps(t *testing.T) {
	has(t, index(t, 2, "AAA"), "AAAA",
		api.Match{}, api.Match{From: 1}, api.Match{From: 2},
		api.Match{At: 1}, api.Match{At: 1, From: 1}, api.Match{At: 1, From: 2})
}

// Bytes are what they are: no letters, no runes.
func TestAnyBytes(t *testing.T) {
	x := index(t, 2, "\x00\xff\x80", "ä\n", "Zz")
	has(t, x, "zZ")
	has(t, x, "ZZz", api.Match{Ref: 2, From: 1})
	has(t, x, "ä\xa4\n", api.Match{Ref: 1}, api.Match{Ref: 1, At: 1, From: 2})
	has(t, x, "\xff\x80\x00\xff", api.Match{From: 2}, api.Match{At: 1})
	has(t, x, "ß")
}
