package seeds_test

import (
	"slices"
	"strings"
	"testing"

	"helix/api"
	"helix/kmer"
	"helix/seeds"
)

// E1, E2: how long a read may be, whether it has matches or not.
func TestLongReads(t *testing.T) {
	for _, x := range []*kmer.Index{index(t, 1), index(t, 16, "A"), index(t, 3, "ACACAC"), index(t, 1, strings.Repeat("C", 2000))} {
		for _, n := range []int{65537, 65538, 200000} {
			tooLong(t, x, strings.Repeat("T", n))
			// E2: what is too long is told ahead of too many matches.
			tooLong(t, x, strings.Repeat("C", n))
		}
		has(t, x, strings.Repeat("T", 65536))
	}
	x := index(t, 3, "ACG")
	has(t, x, strings.Repeat("T", 65533)+"ACG", api.Match{From: 65533})
	has(t, x, "ACG"+strings.Repeat("T", 65533), api.Match{})
	tooLong(t, x, "ACG"+strings.Repeat("T", 65534))
}

// E2: how many matches are told: of a word that stands often in the read, in references, or in both, and of many words.
func TestMostMatches(t *testing.T) {
	many := newMaker(0).text("", 1004, 1004)
	for _, one := range []struct {
		k          int
		refs       []string
		read, more string
		after      int
	}{
		{1, []string{strings.Repeat("A", 10)}, strings.Repeat("A", 100), "A", 1010},
		{1, []string{"A"}, strings.Repeat("A", 1000), "A", 1001},
		{1, []string{strings.Repeat("A", 999), "A", "B"}, "A", "B", 1001},
		{1, slices.Repeat([]string{"-A-"}, 50), strings.Repeat("AC", 20), "A", 1050},
		{2, []string{strings.Repeat("A", 500), "BA"}, "AAABABA", "BA", 1001},
		{5, []string{many}, many, many[:5], 1001},
	} {
		x := index(t, one.k, one.refs...)
		l, e := seeds.Matches(x, one.read)
		if want := plainMatches(one.k, one.refs, one.read); len(want) != 1000 || !slices.Equal(l, want) || e != api.OK {
			t.Errorf("E2: %d matches, %v, of %d", len(l), e, len(want))
		}
		counts(t, x, one.read, 1000)
		tooMany(t, x, one.read+one.more, one.after)
	}
}

// As many matches as can be: far too many to go through them one by one.
func TestGreatest(t *testing.T) {
	long := strings.Repeat("A", 65536)
	refs := slices.Repeat([]string{long}, 16)
	tooMany(t, index(t, 1, refs...), long, 1<<36)
	tooMany(t, index(t, 16, refs...), long, 16*65521*65521)

	// Many words, each of which stands in many places of both.
	turned := strings.Repeat("ACGT", 16384)
	tooMany(t, index(t, 2, slices.Repeat([]string{turned}, 16)...), turned, 16*(3*16384*16384+16383*16383))

	// As many words as can be, all of them once in both.
	m := newMaker(1)
	for i := range refs {
		refs[i] = m.text("", 65536, 65536)
	}
	x := index(t, 16, refs...)
	for _, r := range refs {
		tooMany(t, x, r, 65521)
	}
	has(t, x, refs[7][:16]+refs[3][65520:]+refs[12][60000:60017],
		api.Match{Ref: 3, At: 65520, From: 16}, api.Match{Ref: 7}, api.Match{Ref: 12, At: 60000, From: 32}, api.Match{Ref: 12, At: 60001, From: 33})
}
