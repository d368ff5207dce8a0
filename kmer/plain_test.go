package kmer_test

import (
	"math/rand/v2"
	"slices"

	"helix/api"
)

// A plain reading of the chapter, with which the package is held: references are gone through for each word anew.

// plainRefused is W1's error.
func plainRefused(k int, refs []string) api.Errno {
	all, longest := 0, 0
	for _, r := range refs {
		all += len(r)
		longest = max(longest, len(r))
	}
	if k < 1 || k > 16 {
		return api.ErrKmer
	}
	if len(refs) > 64 || longest > 65536 || all > 1048576 {
		return api.ErrLong
	}
	return api.OK
}

// plainFind are the places at which a word stands.
func plainFind(word string, refs []string) []api.Place {
	var l []api.Place
	for i, r := range refs {
		for at := range len(r) {
			if at+len(word) <= len(r) && r[at:at+len(word)] == word {
				l = append(l, api.Place{Ref: i, At: at})
			}
		}
	}
	return l
}

// plainPlaces are all places behind which a reference has k bytes, by rising Ref, then At.
func plainPlaces(k int, refs []string) []api.Place {
	var l []api.Place
	for i, r := range refs {
		for at := 0; at+k <= len(r); at++ {
			l = append(l, api.Place{Ref: i, At: at})
		}
	}
	return l
}

// plainWords are all that stand somewhere.
func plainWords(k int, refs []string) []string {
	var l []string
	for _, p := range plainPlaces(k, refs) {
		l = append(l, refs[p.Ref][p.At:p.At+k])
	}
	slices.Sort(l)
	return slices.Compact(l)
}

// maker makes references.
type maker struct{ *rand.Rand }

func newMaker(seed uint64) maker { return maker{rand.New(rand.NewPCG(seed, 21))} }

// text has some bytes out of a few, or out of all.
func (m maker) text(few string, most int) string {
	l := make([]byte, m.IntN(most+1))
	for i := range l {
		if l[i] = byte(m.IntN(256)); few != "" {
			l[i] = few[m.IntN(len(few))]
		}
	}
	return string(l)
}

// refs are some, of which one may be another one once more; and the bytes of which they are made.
func (m maker) refs() ([]string, string) {
	few := []string{"A", "AC", "ACGT", "aA\x00\xff", "", "äß"}[m.IntN(6)]
	refs := make([]string, m.IntN(6))
	for i := range refs {
		refs[i] = m.text(few, []int{2, 10, 40}[m.IntN(3)])
		if i > 0 && m.IntN(6) == 0 {
			refs[i] = refs[m.IntN(i)]
		}
	}
	return refs, few
}

// size is a word's length, mostly a short one.
func (m maker) size() int {
	if m.IntN(4) == 0 {
		return m.IntN(16) + 1
	}
	return m.IntN(3) + 1
}

// word is one of k bytes, which stands somewhere or may not.
func (m maker) word(k int, refs []string, few string) string {
	if l := plainWords(k, refs); len(l) > 0 && m.IntN(2) == 0 {
		return l[m.IntN(len(l))]
	}
	w := ""
	for len(w) < k {
		w += m.text(few, k)
	}
	return w[:k]
}
