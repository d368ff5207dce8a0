package kmer_test

import (
	"cmp"
	"slices"
	"strings"
	"sync"
	"testing"
	"unsafe"

	"helix/api"
	"helix/kmer"
)

// inOrder is W3's order of places.
func inOrder(a, b api.Place) int {
	return cmp.Or(cmp.Compare(a.Ref, b.Ref), cmp.Compare(a.At, b.At))
}

// enough holds a test to how many of each kind it has seen.
func enough(t *testing.T, count map[string]int, least int, kinds ...string) {
	t.Helper()
	for _, k := range kinds {
		if count[k] < least {
			t.Errorf("of too few kinds: %q in %v", k, count)
		}
	}
}

// W1 to W4: references of many shapes are held to the plain reading.
func TestManyIndexes(t *testing.T) {
	count := map[string]int{}
	for seed := range uint64(6000) {
		m := newMaker(seed)
		refs, few := m.refs()
		k := m.size()
		x := index(t, k, refs...)
		if x.K() != k || x.Size() != len(plainPlaces(k, refs)) {
			t.Fatalf("W2: %d, %d of %d, %q", x.K(), x.Size(), k, refs)
		}
		words := x.Words()
		if !slices.Equal(words, plainWords(k, refs)) {
			t.Fatalf("W4: %q of %d, %q", words, k, refs)
		}
		for range 5 {
			w := m.word(k, refs, few)
			l, e := x.Find(w)
			if want := plainFind(w, refs); !slices.Equal(l, want) || e != api.OK {
				t.Fatalf("W3: %v, %v, not %v: %q in %q", l, e, want, w, refs)
			}
			switch {
			case len(l) == 0:
				count["none"]++
			case l[0].Ref < l[len(l)-1].Ref:
				count["in several"]++
			case len(l) > 1:
				count["several in one"]++
			default:
				count["one"]++
			}
		}
		if len(words) > 20 {
			count["many words"]++
		}
		if x.Size() == 0 {
			count["no word"]++
		}
		count[few]++
	}
	enough(t, count, 500, "none", "one", "several in one", "in several", "many words", "no word", "A", "AC", "ACGT", "", "äß")
}

// W5: the places of all words together, and those of an index with one reference more.
func TestOneMore(t *testing.T) {
	grown := 0
	for seed := range uint64(3000) {
		m := newMaker(seed + 1<<32)
		refs, few := m.refs()
		k := m.size()
		x := index(t, k, refs...)
		var all []api.Place
		for _, w := range x.Words() {
			l, e := x.Find(w)
			if len(l) == 0 || e != api.OK || !slices.IsSortedFunc(l, inOrder) {
				t.Fatalf("W4: %v, %v of the word %q of %q", l, e, w, refs)
			}
			all = append(all, l...)
		}
		slices.SortFunc(all, inOrder)
		if !slices.Equal(all, plainPlaces(k, refs)) {
			t.Fatalf("W5: %v of %d, %q", all, k, refs)
		}

		last := m.text(few, 20)
		alone, more := index(t, k, last), index(t, k, append(slices.Clone(refs), last)...)
		if more.Size() != x.Size()+alone.Size() {
			t.Fatalf("W5: %d places, of %d and %d", more.Size(), x.Size(), alone.Size())
		}
		for _, w := range more.Words() {
			l, _ := more.Find(w)
			want, _ := x.Find(w)
			behind, _ := alone.Find(w)
			if len(want) > 0 && len(behind) > 0 {
				grown++
			}
			for _, p := range behind {
				want = append(want, api.Place{Ref: len(refs), At: p.At})
			}
			if !slices.Equal(l, want) {
				t.Fatalf("W5: %v, not %v: %q in %q and %q", l, want, w, refs, last)
			}
		}
	}
	if grown < 2000 {
		t.Error("of too few kinds", grown)
	}
}

// W1, R1: New of any number and any references.
func TestAnything(t *testing.T) {
	count := map[string]int{}
	long := strings.Repeat("AC", 32769)
	for seed := range uint64(2000) {
		m := newMaker(seed + 1<<33)
		refs, few := m.refs()
		switch m.IntN(8) {
		case 0:
			refs = append(refs, long[:65535+m.IntN(4)])
		case 1:
			refs = slices.Repeat([]string{m.text(few, 5)}, 63+m.IntN(4))
		}
		k := m.IntN(20) - 1
		x, e := kmer.New(k, refs...)
		if want := plainRefused(k, refs); e != want || (x == nil) != (want != api.OK) {
			t.Fatalf("W1: %v, %v, not %v: of %d and %d references", x, e, want, k, len(refs))
		}
		count[e.Error()]++
		if x == nil {
			continue
		}
		w := m.text(few, 20)
		l, e := x.Find(w)
		if len(w) == k && (e != api.OK || !slices.Equal(l, plainFind(w, refs))) || len(w) != k && (e != api.ErrKmer || l != nil) {
			t.Fatalf("W3: %v, %v of %q, of %d", l, e, w, k)
		}
	}
	enough(t, count, 50, api.OK.Error(), api.ErrKmer.Error(), api.ErrLong.Error())
}

// R5: what is handed in is neither changed nor kept.
func TestNothingKept(t *testing.T) {
	bytes := []byte("ACGTACGA")
	refs := append(make([]string, 0, 8), unsafe.String(&bytes[0], len(bytes)), "TTT")
	x := index(t, 3, refs...)
	if string(bytes) != "ACGTACGA" || refs[1] != "TTT" || refs[:3][2] != "" {
		t.Fatalf("R5: changed: %q, %q", bytes, refs[:8])
	}
	copy(bytes, "CCCCCCCC")
	clear(refs)
	has(t, x, 3, 7, "ACG", "CGA", "CGT", "GTA", "TAC", "TTT")
	found(t, x, "ACG", api.Place{}, api.Place{At: 4})
	found(t, x, "TTT", api.Place{Ref: 1})
	found(t, x, "CCC")
}

// R5: what is answered is new memory.
func TestNewMemory(t *testing.T) {
	x := index(t, 2, "ABABAB", "ABBA")
	want := []api.Place{{At: 0}, {At: 2}, {At: 4}, {Ref: 1}}
	l, _ := x.Find("AB")
	clear(l[:cap(l)])
	found(t, x, "AB", want...)

	words := x.Words()
	if unsafe.StringData(words[0]) == unsafe.StringData(x.Words()[0]) {
		t.Error("R5: two answers share a word's bytes")
	}
	for _, w := range words {
		clear(unsafe.Slice(unsafe.StringData(w), len(w)))
	}
	clear(words[:cap(words)])
	has(t, x, 2, 8, "AB", "BA", "BB")
	found(t, x, "AB", want...)
}

// R6: an index tells the same whenever it is asked, by whomever, and whatever others there are.
func TestAskedAtOnce(t *testing.T) {
	refs := []string{"ACGTACGTTACG", "TACGAA"}
	x, other := index(t, 3, refs...), index(t, 3, "GGG", "ACGACG")
	var all sync.WaitGroup
	for range 8 {
		all.Go(func() {
			for range 50 {
				found(t, x, "ACG", plainFind("ACG", refs)...)
				found(t, other, "ACG", api.Place{Ref: 1}, api.Place{Ref: 1, At: 3})
				has(t, x, 3, 14, plainWords(3, refs)...)
				has(t, index(t, 3, refs...), 3, 14, plainWords(3, refs)...)
			}
		})
	}
	all.Wait()
}
