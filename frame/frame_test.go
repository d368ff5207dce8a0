// Package frame holds the layers' listed calls against the chapters: it does not build if one is missing, or has another signature.
package frame

import (
	"testing"

	"helix/align"
	"helix/alpha"
	"helix/api"
	"helix/bound"
	"helix/chain"
	"helix/check"
	"helix/cigar"
	"helix/code"
	"helix/eval"
	"helix/fasta"
	"helix/fastq"
	"helix/gen"
	"helix/kmer"
	"helix/lex"
	"helix/machine"
	"helix/passes"
	"helix/path"
	"helix/pipe"
	"helix/pretty"
	"helix/recur"
	"helix/sam"
	"helix/seeds"
	"helix/syntax"
	"helix/trace"
	"helix/verify"
	"helix/window"
)

// Layers 1 to 5.
var (
	_ func(string) bool                                            = alpha.Right
	_ func(...string) (string, api.Errno)                          = alpha.Add
	_ func(string, byte) int                                       = alpha.Code
	_ func(string, string) ([]int, int, api.Errno)                 = alpha.Encode
	_ func(string, ...int) (string, api.Errno)                     = alpha.Decode
	_ func(string) ([]api.Seq, int, api.Errno)                     = fasta.Parse
	_ func(int, ...api.Seq) (string, api.Errno)                    = fasta.Print
	_ func(string) ([]api.Read, int, api.Errno)                    = fastq.Parse
	_ func(...api.Read) (string, api.Errno)                        = fastq.Print
	_ func(string) ([]api.Run, api.Errno)                          = cigar.Of
	_ func(...api.Run) (string, api.Errno)                         = cigar.Columns
	_ func(...api.Run) (string, api.Errno)                         = cigar.Print
	_ func(string) ([]api.Run, api.Errno)                          = cigar.Parse
	_ func(...api.Run) (int, int, api.Errno)                       = cigar.Spans
	_ func(api.Record) (string, api.Errno)                         = sam.Line
	_ func(string) (api.Record, api.Errno)                         = sam.Record
	_ func([]api.Seq, ...api.Record) (string, api.Errno)           = sam.Print
	_ func(string) ([]string, []int, []api.Record, int, api.Errno) = sam.Parse
)

// Layers 6 to 11.
var (
	_ func(string) ([]api.Token, int, api.Errno)                = lex.Scan
	_ func(string) bool                                         = lex.IsName
	_ func(string) bool                                         = lex.IsWord
	_ func(string) (api.Tree, api.Fault)                        = syntax.Parse
	_ func(api.Tree) bool                                       = syntax.Right
	_ func(api.Tree, api.Tree) bool                             = syntax.Same
	_ func(api.Expr) int                                        = syntax.Depth
	_ func(api.Tree) (string, api.Errno)                        = pretty.Print
	_ func(api.Expr) (string, api.Errno)                        = pretty.Expr
	_ func(api.Tree) (api.Scheme, api.Fault)                    = check.Check
	_ func(...api.Def) ([]int, api.Errno)                       = check.Values
	_ func(api.Scheme) bool                                     = check.Right
	_ func(api.Scheme) (api.Model, api.Errno)                   = check.Numbers
	_ func(api.Model) bool                                      = bound.Right
	_ func(api.Model) (int, api.Errno)                          = bound.Widest
	_ func(api.Model) (int, api.Errno)                          = bound.Most
	_ func(api.Model, int, int) (int, int, api.Errno)           = bound.Range
	_ func(int, ...api.Gap) (int, api.Errno)                    = path.Cost
	_ func(api.Model, []int, []int, api.Path) (bool, api.Errno) = path.Legal
	_ func(api.Model, []int, []int, api.Path) (int, api.Errno)  = path.Score
	_ func(api.Path, api.Path) bool                             = path.Less
	_ func(api.Model, []int, []int) ([]api.Path, api.Errno)     = path.All
	_ func(api.Model, []int, []int) (api.Found, api.Errno)      = path.Best
)

// Layers 12 to 20.
var (
	_ func(api.Scheme) (api.Recur, api.Errno)                             = recur.Lower
	_ func(api.Recur) bool                                                = recur.Right
	_ func(api.Recur) bool                                                = recur.Folded
	_ func(api.Recur, []int, []int) (api.Found, api.Errno)                = eval.Eval
	_ func(api.Recur, []int, []int) (int, api.Errno)                      = eval.Score
	_ func(api.Recur, []int, []int, int, int, int) (int, bool, api.Errno) = eval.Value
	_ func(api.Recur) (api.Recur, api.Errno)                              = passes.Fold
	_ func(api.Recur) (api.Recur, api.Errno)                              = passes.Prune
	_ func(api.Recur) (api.Recur, api.Errno)                              = passes.Drop
	_ func(api.Recur) (api.Recur, api.Errno)                              = passes.Clamp
	_ func(api.Recur) (api.Recur, api.Errno)                              = passes.All
	_ func(api.Code) bool                                                 = code.Right
	_ func(api.Code) (string, api.Errno)                                  = code.Encode
	_ func(string) (api.Code, api.Errno)                                  = code.Decode
	_ func(api.Code) (string, api.Errno)                                  = code.List
	_ func(api.Code) (int, api.Errno)                                     = verify.Check
	_ func(api.Code, int) ([]int, api.Errno)                              = verify.Used
	_ func(api.Code, []int, []int) (*machine.Table, api.Errno)            = machine.Run
	_ func(*machine.Table) (int, int)                                     = (*machine.Table).Size
	_ func(*machine.Table) int                                            = (*machine.Table).Planes
	_ func(*machine.Table) []api.Arrow                                    = (*machine.Table).Arrows
	_ func(*machine.Table, int, int, int) (int, bool)                     = (*machine.Table).Value
	_ func(*machine.Table, int, int, int) int                             = (*machine.Table).Mask
	_ func(*machine.Table) (int, int, int, []int, bool)                   = (*machine.Table).Best
	_ func(*machine.Table) int                                            = (*machine.Table).Steps
	_ func(*machine.Table) (api.Found, api.Errno)                         = trace.Walk
	_ func(api.Path) (int, int)                                           = trace.End
	_ func(api.Recur, int) (api.Code, api.Errno)                          = gen.Generate
	_ func(string) (api.Built, api.Fault)                                 = align.Compile
	_ func(api.Built, string, string) (api.Found, api.Errno)              = align.Align
	_ func(string) (string, api.Fault)                                    = align.Format
)

// Layers 21 to 25.
var (
	_ func(int, ...string) (*kmer.Index, api.Errno)                          = kmer.New
	_ func(*kmer.Index) int                                                  = (*kmer.Index).K
	_ func(*kmer.Index) int                                                  = (*kmer.Index).Size
	_ func(*kmer.Index, string) ([]api.Place, api.Errno)                     = (*kmer.Index).Find
	_ func(*kmer.Index) []string                                             = (*kmer.Index).Words
	_ func(*kmer.Index, string) ([]api.Match, api.Errno)                     = seeds.Matches
	_ func(*kmer.Index, string) (int, api.Errno)                             = seeds.Count
	_ func(int, ...api.Match) bool                                           = chain.Right
	_ func(int, ...api.Match) (int, api.Errno)                               = chain.Score
	_ func(int, ...api.Match) (int, []api.Span, api.Errno)                   = chain.Best
	_ func(api.Span, int, int, int, int) (api.Window, api.Errno)             = window.Of
	_ func(int, int, int, []int, ...api.Span) ([]api.Window, api.Errno)      = window.All
	_ func(api.Built, int, int, []api.Seq, api.Read) (api.Record, api.Errno) = pipe.Map
	_ func(api.Job) (string, []api.Record, api.Errno)                        = pipe.Run
)

// TestGiven looks at what later layers count on in package api: the error's words, and the limits of DOC.md that an alphabet has.
func TestGiven(t *testing.T) {
	if s := api.ErrSymbol.Error(); s != "helix: error 11" {
		t.Errorf("ErrSymbol tells %q", s)
	}
	if api.OK != 0 || api.ErrLong != 2 || api.ErrAlphabet != 10 || api.ErrSymbol != 11 {
		t.Error("the errors' numbers are not the document's")
	}
	if api.MaxLetters != 20 || api.MaxBases != 65536 {
		t.Error("the limits are not the document's")
	}
}
