package kmer_test

import (
	"slices"
	"strings"
	"testing"

	"helix/api"
	"helix/kmer"
)

// index is one that must be made.
func index(t *testing.T, k int, refs ...string) *kmer.Index {
	t.Helper()
	x, e := kmer.New(k, refs...)
	if x == nil || e != api.OK {
		t.Fatalf("W1: New of %d and %d references: %v, %v", k, len(refs), x, e)
	}
	return x
}

// found holds what is found to what must be.
func found(t *testing.T, x *kmer.Index, word string, want ...api.Place) {
	t.Helper()
	if l, e := x.Find(word); !slices.Equal(l, want) || e != api.OK {
		t.Errorf("W3: Find(%q): %v, %v, not %v", word, l, e, want)
	}
}

// has holds K, Size and Words to what they must be.
func has(t *testing.T, x *kmer.Index, k, size int, words ...string) {
	t.Helper()
	if x.K() != k || x.Size() != size {
		t.Errorf("W2: %d, %d, not %d, %d", x.K(), x.Size(), k, size)
	}
	if l := x.Words(); !slices.Equal(l, words) {
		t.Errorf("W4: %q, not %q", l, words)
	}
}

// not holds New to an error.
func not(t *testing.T, want api.Errno, k int, refs ...string) {
	t.Helper()
	if x, e := kmer.New(k, refs...); x != nil || e != want {
		t.Errorf("W1: New of %d and %d references: %v, %v, not %v", k, len(refs), x, e, want)
	}
}

// The chapter's examples.
func TestExamples(t *testing.T) {
	x := index(t, 2, "ABAB", "B", "BA")
	has(t, x, 2, 4, "AB", "BA")
	found(t, x, "AB", api.Place{}, api.Place{At: 2})
	found(t, x, "BA", api.Place{At: 1}, api.Place{Ref: 2})
	found(t, x, "BB")
	if l, e := x.Find("A"); len(l) != 0 || e != api.ErrKmer {
		t.Errorf("W3: Find of a word that is too short: %v, %v", l, e)
	}

	not(t, api.ErrKmer, 0)
	not(t, api.ErrKmer, 17)
	x = index(t, 3)
	has(t, x, 3, 0)
	found(t, x, "ABC")

	has(t, index(t, 1, "aA"), 1, 2, "A", "a")
}

// W1: references that have no word, or just one.
func TestShortReferences(t *testing.T) {
	has(t, index(t, 3, "", "AB", "A"), 3, 0)
	has(t, index(t, 3, "", "ABC", "AB"), 3, 1, "ABC")
	has(t, index(t, 1, ""), 1, 0)
	has(t, index(t, 1, "", "A", ""), 1, 1, "A")
	has(t, index(t, 16, "ABCDEFGHIJKLMNO"), 16, 0)
	has(t, index(t, 16, "ABCDEFGHIJKLMNOP"), 16, 1, "ABCDEFGHIJKLMNOP")
	// No word stands half in a reference, half in the next one.
	x := index(t, 2, "AB", "CD")
	has(t, x, 2, 2, "AB", "CD")
	found(t, x, "BC")
}

// Words may overlap.
func TestOverlaps(t *testing.T) {
	x := index(t, 2, "AAAA", "AAA")
	has(t, x, 2, 5, "AA")
	found(t, x, "AA", api.Place{}, api.Place{At: 1}, api.Place{At: 2}, api.Place{Ref: 1}, api.Place{Ref: 1, At: 1})
}

// Bytes are what they are: no letters, no runes, no order but theirs.
func TestAnyBytes(t *testing.T) {
	x := index(t, 2, "\x00\xff\x80", "ä\n", "Zz>")
	has(t, x, 2, 6, "\x00\xff", "Zz", "z>", "\xa4\n", "\xc3\xa4", "\xff\x80")
	found(t, x, "ä", api.Place{Ref: 1})
	found(t, x, "\xff\x80", api.Place{At: 1})
	found(t, x, "\xc3\n")
	if l, e := x.Find("ß\n"); len(l) != 0 || e != api.ErrKmer {
		t.Errorf("W3: three bytes are a word of two: %v, %v", l, e)
	}
}

// W3: words that have not k bytes, of any index.
func TestWrongWords(t *testing.T) {
	for k := 1; k <= 16; k++ {
		for _, x := range []*kmer.Index{index(t, k), index(t, k, strings.Repeat("A", 40))} {
			for n := range 40 {
				l, e := x.Find(strings.Repeat("A", n))
				switch {
				case n != k && (len(l) != 0 || e != api.ErrKmer):
					t.Errorf("W3: a word of %d bytes in an index of %d: %v, %v", n, k, l, e)
				case n == k && (len(l) != x.Size() || e != api.OK):
					t.Errorf("W3: a word of %d bytes: %d places, %v", n, len(l), e)
				}
			}
		}
	}
}

// W1: which lengths a word may have.
func TestSizes(t *testing.T) {
	for _, k := range []int{-1 << 63, -17, -1, 0, 17, 18, 1<<63 - 1} {
		not(t, api.ErrKmer, k)
		not(t, api.ErrKmer, k, "ABCDEFGHIJKLMNOPQRSTUVWXYZ")
	}
	for k := 1; k <= 16; k++ {
		if x := index(t, k, "ABCDEFGHIJKLMNOPQRSTUVWXYZ"); x.K() != k || x.Size() != 27-k {
			t.Errorf("W2: %d, %d of words of %d", x.K(), x.Size(), k)
		}
	}
}
