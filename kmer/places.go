package kmer

import (
	"slices"
	"strings"

	"helix/api"
)

// places are those at which words stand: of each word by rising Ref, then by rising At.
type places struct {
	of   map[string][]api.Place
	size int
}

func noPlaces() places { return places{of: map[string][]api.Place{}} }

// addAll adds the places of all words of k bytes of a reference, which must come behind those that were added ahead of it.
func (p *places) addAll(k, number int, ref string) {
	// Words are pieces of the copy, so that what is handed in is not kept.
	own := strings.Clone(ref)
	for at := range len(own) - k + 1 {
		word := own[at : at+k]
		p.of[word] = append(p.of[word], api.Place{Ref: number, At: at})
		p.size++
	}
}

// standing are the places of a word.
func (p *places) standing(word string) []api.Place { return slices.Clone(p.of[word]) }

// Size is how many places there are.
func (p *places) Size() int { return p.size }

// Words are all that stand somewhere, rising.
func (p *places) Words() []string {
	words := make([]string, 0, len(p.of))
	for word := range p.of {
		// What is answered shares no memory with what is kept.
		words = append(words, strings.Clone(word))
	}
	slices.Sort(words)
	return words
}
