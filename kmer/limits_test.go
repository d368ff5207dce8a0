package kmer_test

import (
	"slices"
	"strings"
	"testing"

	"helix/api"
)

// W1: what is at a limit is taken, what is one past it is refused.
func TestLimits(t *testing.T) {
	long := strings.Repeat("A", 65536)
	most := slices.Repeat([]string{long}, 16)

	if x := index(t, 1, make([]string, 64)...); x.Size() != 0 {
		t.Errorf("W2: %d places of nothing", x.Size())
	}
	not(t, api.ErrLong, 1, make([]string, 65)...)
	if x := index(t, 16, slices.Repeat([]string{"ACGTACGTACGTACGT"}, 64)...); x.Size() != 64 {
		t.Errorf("W2: %d places of 64 references", x.Size())
	}
	not(t, api.ErrLong, 16, slices.Repeat([]string{"ACGTACGTACGTACGT"}, 65)...)

	if x := index(t, 16, long); x.Size() != 65521 {
		t.Errorf("W2: %d places of 65536 bytes", x.Size())
	}
	not(t, api.ErrLong, 16, long+"A")
	not(t, api.ErrLong, 16, "", "A", long+"A")

	if x := index(t, 1, most...); x.Size() != 1048576 {
		t.Errorf("W2: %d places of 1048576 bytes", x.Size())
	}
	if x := index(t, 1, append(slices.Clone(most), make([]string, 48)...)...); x.Size() != 1048576 {
		t.Errorf("W2: %d places of 1048576 bytes, and empty references", x.Size())
	}
	not(t, api.ErrLong, 1, append(slices.Clone(most), "A")...)
	not(t, api.ErrLong, 1, append([]string{"A"}, most...)...)
	not(t, api.ErrLong, 1, slices.Repeat([]string{long}, 64)...)
	not(t, api.ErrLong, 1, slices.Repeat([]string{long[:16385]}, 64)...)
}

// R2: a wrong k is told ahead of what is too long.
func TestOrderOfErrors(t *testing.T) {
	long := strings.Repeat("A", 65537)
	for _, k := range []int{-1, 0, 17} {
		not(t, api.ErrKmer, k, make([]string, 65)...)
		not(t, api.ErrKmer, k, long)
		not(t, api.ErrKmer, k, slices.Repeat([]string{long[1:]}, 17)...)
	}
}

// As many places as can be, of one word alone, and of as many words as can be.
func TestGreatest(t *testing.T) {
	x := index(t, 16, slices.Repeat([]string{strings.Repeat("A", 65536)}, 16)...)
	l, e := x.Find(strings.Repeat("A", 16))
	if e != api.OK || len(l) != 16*65521 || x.Size() != len(l) || len(x.Words()) != 1 {
		t.Fatalf("W3: %d places, %v, of %d; %d words", len(l), e, x.Size(), len(x.Words()))
	}
	for n, p := range l {
		if p != (api.Place{Ref: n / 65521, At: n % 65521}) {
			t.Fatalf("W3: at %d stands %v", n, p)
		}
	}

	m := newMaker(0)
	refs := make([]string, 16)
	for i := range refs {
		for len(refs[i]) < 65536 {
			refs[i] += m.text("", 60000)
		}
		refs[i] = refs[i][:65536]
	}
	x = index(t, 16, refs...)
	words := x.Words()
	if x.Size() != 16*65521 || !slices.Equal(words, plainWords(16, refs)) {
		t.Fatalf("W4: %d words, %d places", len(words), x.Size())
	}
	for range 1000 {
		i, at := m.IntN(16), m.IntN(65521)
		if l, e := x.Find(refs[i][at : at+16]); e != api.OK || !slices.Contains(l, api.Place{Ref: i, At: at}) {
			t.Fatalf("W3: %v, %v of what stands at %d in %d", l, e, at, i)
		}
	}
}
