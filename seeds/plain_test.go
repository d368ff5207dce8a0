package seeds_test

import (
	"math/rand/v2"

	"helix/api"
)

// A plain reading of the chapter, with which the package is held: each place of each reference is held against each one of the read.

// plainMatches are those of a read in an index of words of k bytes of references.
func plainMatches(k int, refs []string, read string) []api.Match {
	var l []api.Match
	for i, r := range refs {
		for at := 0; at+k <= len(r); at++ {
			for from := 0; from+k <= len(read); from++ {
				if r[at:at+k] == read[from:from+k] {
					l = append(l, api.Match{Ref: i, At: at, From: from})
				}
			}
		}
	}
	return l
}

// maker makes references and reads.
type maker struct{ *rand.Rand }

func newMaker(seed uint64) maker { return maker{rand.New(rand.NewPCG(seed, 22))} }

// text has some bytes out of a few, or out of all.
func (m maker) text(few string, least, most int) string {
	l := make([]byte, least+m.IntN(most-least+1))
	for i := range l {
		if l[i] = byte(m.IntN(256)); few != "" {
			l[i] = few[m.IntN(len(few))]
		}
	}
	return string(l)
}

// refs are some, of which one may be another one once more; and the bytes of which they are made.
func (m maker) refs() ([]string, string) {
	few := []string{"A", "AC", "ACGT", "aA\x00\xff", "", "äß"}[m.IntN(6)]
	refs := make([]string, (m.IntN(13)+1)/2)
	for i := range refs {
		refs[i] = m.text(few, 0, []int{2, 10, 40}[m.IntN(3)])
		if i > 0 && m.IntN(6) == 0 {
			refs[i] = refs[m.IntN(i)]
		}
	}
	return refs, few
}

// size is a word's length, mostly a short one.
func (m maker) size() int {
	if m.IntN(4) == 0 {
		return m.IntN(16) + 1
	}
	return m.IntN(3) + 1
}

// read is put together of pieces of references, and of others.
func (m maker) read(refs []string, few string) string {
	read := ""
	for range m.IntN(6) {
		if len(refs) > 0 && m.IntN(3) > 0 {
			r := refs[m.IntN(len(refs))]
			from := m.IntN(len(r) + 1)
			read += r[from : from+m.IntN(len(r)-from+1)]
		} else {
			read += m.text(few, 0, []int{2, 20}[m.IntN(2)])
		}
	}
	return read
}
