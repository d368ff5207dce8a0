package seeds

import (
	"helix/api"
	"helix/kmer"
)

// word is one of a read: the places at which it stands in references (perhaps none), and those at which it stands in the read.
type word struct {
	places []api.Place
	froms  []int
}

// readWords are the words of a read, each once.
func readWords(x *kmer.Index, read string) []word {
	var words []word
	// A word may stand in a read often, and in references a million times: it is looked for just once.
	numbers := map[string]int{}
	for from := range len(read) - x.K() + 1 {
		text := read[from : from+x.K()]
		n, known := numbers[text]
		if !known {
			n = len(words)
			numbers[text] = n
			places, _ := x.Find(text)
			words = append(words, word{places: places})
		}
		words[n].froms = append(words[n].froms, from)
	}
	return words
}

// count is how many matches words make. It goes through words, not through matches, which can be too many for that.
func count(words []word) int {
	n := 0
	for _, w := range words {
		n += len(w.places) * len(w.froms)
	}
	return n
}

// goThrough does with each match that words make what it is handed to do.
func goThrough(words []word, do func(api.Match)) {
	for _, w := range words {
		for _, p := range w.places {
			for _, from := range w.froms {
				do(api.Match{Ref: p.Ref, At: p.At, From: from})
			}
		}
	}
}
