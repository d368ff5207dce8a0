package seeds_test

import (
	"slices"
	"strings"
	"sync"
	"testing"
	"unsafe"

	"helix/api"
	"helix/seeds"
)

// enough holds a test to how many of each kind it has seen.
func enough(t *testing.T, count map[string]int, least int, kinds ...string) {
	t.Helper()
	for _, k := range kinds {
		if count[k] < least {
			t.Errorf("of too few kinds: %q in %v", k, count)
		}
	}
}

// kind is that of a read's matches.
func kind(l []api.Match) string {
	switch {
	case len(l) == 0:
		return "none"
	case len(l) == 1:
		return "one"
	case len(l) > 1000:
		return "too many"
	case l[0].Ref < l[len(l)-1].Ref:
		return "in several"
	}
	return "several in one"
}

// E1, E2: references and reads of many shapes are held to the plain reading.
func TestManyReads(t *testing.T) {
	count := map[string]int{}
	for seed := range uint64(10000) {
		m := newMaker(seed)
		refs, few := m.refs()
		k := m.size()
		x := index(t, k, refs...)
		for range 4 {
			read := m.read(refs, few)
			want := plainMatches(k, refs, read)
			if n, e := seeds.Count(x, read); n != len(want) || e != api.OK {
				t.Fatalf("E1: %d, %v, not %d: of %d, %q in %q", n, e, len(want), k, read, refs)
			}
			told := api.OK
			count[kind(want)]++
			if len(want) > 1000 {
				want, told = nil, api.ErrMatches
			}
			if l, e := seeds.Matches(x, read); !slices.Equal(l, want) || e != told {
				t.Fatalf("E2: %v, %v, not %v: of %d, %q in %q", l, e, want, k, read, refs)
			}
		}
		count[few]++
	}
	enough(t, count, 300, "none", "one", "several in one", "in several", "too many", "A", "AC", "ACGT", "", "äß")
}

// E3: what is told of a part of a read is what is told of the whole, as far as it lies in that part.
func TestParts(t *testing.T) {
	count := map[string]int{}
	for seed := range uint64(15000) {
		m := newMaker(seed + 1<<32)
		refs, few := m.refs()
		k := m.size()
		x := index(t, k, refs...)
		read := m.read(refs, few)
		all, e := seeds.Matches(x, read)
		if e != api.OK {
			continue
		}
		from := m.IntN(len(read) + 1)
		to := from + m.IntN(len(read)-from+1)
		var want []api.Match
		for _, one := range all {
			if one.From -= from; one.From >= 0 && one.From+k <= to-from {
				want = append(want, one)
			}
		}
		has(t, x, read[from:to], want...)
		count[kind(want)]++
		if len(want) > 0 && len(want) < len(all) {
			count["fewer"]++
		}
	}
	enough(t, count, 200, "none", "one", "several in one", "in several", "fewer")
}

// R1: reads of any length and bytes, of any index.
func TestAnything(t *testing.T) {
	count := map[string]int{}
	for seed := range uint64(3000) {
		m := newMaker(seed + 1<<33)
		refs, few := m.refs()
		if m.IntN(4) == 0 {
			refs = slices.Repeat([]string{m.text(few, 0, 5)}, m.IntN(65))
		}
		read := m.text("", 0, 60)
		switch m.IntN(8) {
		case 0:
			read = strings.Repeat(read+"A", 65538)[:65535+m.IntN(3)]
		case 1, 2:
			read = m.read(refs, few)
		case 3:
			read = strings.Repeat(m.read(refs, few), 30)
		}
		k := m.size()
		x := index(t, k, refs...)
		n, e := seeds.Count(x, read)
		if (e == api.OK) != (len(read) <= 65536) || e != api.OK && (n != 0 || e != api.ErrLong) {
			t.Fatalf("E1: %d, %v of %d bytes", n, e, len(read))
		}
		l, f := seeds.Matches(x, read)
		switch {
		case e != api.OK && (f != e || l != nil),
			e == api.OK && n > 1000 && (f != api.ErrMatches || l != nil),
			e == api.OK && n <= 1000 && (f != api.OK || len(l) != n):
			t.Fatalf("E2: %d matches, %v, of %d, %v", len(l), f, n, e)
		}
		count[f.Error()]++
	}
	enough(t, count, 50, api.OK.Error(), api.ErrLong.Error(), api.ErrMatches.Error())
}

// R5: a read is neither changed nor kept, and what is answered is new memory.
func TestNewMemory(t *testing.T) {
	x := index(t, 2, "ABAB", "BA")
	want := []api.Match{{From: 1}, {At: 1}, {At: 2, From: 1}, {Ref: 1}}
	bytes := []byte("BABCC")
	read := unsafe.String(&bytes[0], 3)
	for range 3 {
		l, _ := seeds.Matches(x, read)
		counts(t, x, read, 4)
		if string(bytes) != "BABCC" {
			t.Fatalf("R5: changed: %q", bytes)
		}
		copy(bytes, "ABBAB")
		if !slices.Equal(l, want) {
			t.Fatalf("R5: %v, not %v", l, want)
		}
		clear(l[:cap(l)])
		copy(bytes, "BABCC")
		has(t, x, read, want...)
	}
	for _, w := range x.Words() {
		if l, e := x.Find(w); e != api.OK || !slices.Equal(l, map[string][]api.Place{"AB": {{}, {At: 2}}, "BA": {{At: 1}, {Ref: 1}}}[w]) {
			t.Errorf("R5: the index is changed: %v, %v", l, e)
		}
	}
}

// R6: a read's matches are the same whenever they are asked, by whomever, and whatever others there are.
func TestAskedAtOnce(t *testing.T) {
	refs := []string{"ACGTACGTTACG", "TACGAA"}
	x, other := index(t, 3, refs...), index(t, 3, "GGG", "ACGACG")
	var all sync.WaitGroup
	for range 8 {
		all.Go(func() {
			for range 50 {
				has(t, x, "TACGAC", plainMatches(3, refs, "TACGAC")...)
				has(t, other, "ACGG", api.Match{Ref: 1}, api.Match{Ref: 1, At: 3})
				tooMany(t, other, strings.Repeat("GGG", 400), 1198)
			}
		})
	}
	all.Wait()
}
