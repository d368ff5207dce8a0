package sam

import (
	"strconv"
	"strings"

	"helix/api"
	"helix/lines"
)

// What the lines ahead of the records are made of.
const (
	head       = "@HD\tVN:1.6\tSO:unsorted"
	refMark    = "@SQ\tSN:"
	lengthMark = "\tLN:"
)

// reference is what a file says of one: its name, and how many letters it has.
type reference struct {
	name   string
	length int
}

// file is what a file says, as far as it is read.
type file struct {
	refs    []reference
	records []api.Record
}

// Print writes a file: the references, the records.
func Print(refs []api.Seq, l ...api.Record) (string, api.Errno) {
	if len(refs) > api.MaxSeqs || len(l) > api.MaxReads {
		return "", api.ErrLong
	}
	known, ok := know(refs)
	if !ok {
		return "", api.ErrSam
	}
	for _, r := range l {
		if !isRight(r) || !fits(known, r) {
			return "", api.ErrRecord
		}
	}
	return lay(known, l...)
}

// know tells names and lengths of references; false if one may not be written, or two have one name.
func know(refs []api.Seq) ([]reference, bool) {
	var known []reference
	for _, s := range refs {
		if _, twice := find(known, s.Name); twice || !lines.MayBeWritten(s) {
			return nil, false
		}
		known = append(known, reference{s.Name, len(s.Bases)})
	}
	return known, true
}

// lay lays down the lines of a file, of right records that fit its references.
func lay(refs []reference, l ...api.Record) (string, api.Errno) {
	var b strings.Builder
	b.WriteString(head + "\n")
	for _, ref := range refs {
		b.WriteString(ref.line() + "\n")
	}
	for _, r := range l {
		b.WriteString(join(write(r)) + "\n")
		// A text that is too long is not laid down to its end: all records may come to far more.
		if b.Len() > api.MaxFile {
			return "", api.ErrLong
		}
	}
	return b.String(), api.OK
}

// Parse reads one: names and lengths of references, records; or tells the line that is wrong.
func Parse(text string) (names []string, lengths []int, l []api.Record, line int, e api.Errno) {
	if len(text) > api.MaxFile {
		return nil, nil, nil, 0, api.ErrLong
	}
	var f file
	number := 0
	for more := true; more; more = text != "" {
		now, rest, ended := strings.Cut(text, "\n")
		number++
		// A line without its line feed can but be the last one: it is told just if none ahead of it is wrong.
		if !f.take(now, number) || !ended {
			return nil, nil, nil, number, api.ErrSam
		}
		text = rest
	}
	for _, ref := range f.refs {
		names, lengths = append(names, ref.name), append(lengths, ref.length)
	}
	return names, lengths, f.records, 0, api.OK
}

// take takes in the line of that number; it is false if the line is wrong there.
func (f *file) take(line string, number int) bool {
	if number == 1 {
		return line == head
	}
	// No name begins so, and with it no record.
	if strings.HasPrefix(line, "@") {
		return f.takeReference(line)
	}
	return f.takeRecord(line)
}

func (f *file) takeReference(line string) bool {
	if len(f.records) > 0 || len(f.refs) == api.MaxSeqs {
		return false
	}
	ref, ok := readReference(line)
	if _, twice := find(f.refs, ref.name); twice || !ok {
		return false
	}
	f.refs = append(f.refs, ref)
	return true
}

func (f *file) takeRecord(line string) bool {
	if len(f.records) == api.MaxReads {
		return false
	}
	r, e := Record(line)
	if e != api.OK || !fits(f.refs, r) {
		return false
	}
	f.records = append(f.records, r)
	return true
}

// line tells a reference as a line.
func (r reference) line() string {
	return refMark + r.name + lengthMark + strconv.Itoa(r.length)
}

// readReference reads one; false if line is none of any reference that may be written.
func readReference(line string) (reference, bool) {
	name, length, _ := strings.Cut(strings.TrimPrefix(line, refMark), lengthMark)
	n, err := strconv.Atoi(length)
	r := reference{strings.Clone(name), n}
	if err != nil || !lines.IsName(name) || n < 1 || n > api.MaxBases || r.line() != line {
		return reference{}, false
	}
	return r, true
}

// fits tells whether a right record lies within one of the references, if it lies anywhere.
func fits(refs []reference, r api.Record) bool {
	if !r.Mapped {
		return true
	}
	ref, ok := find(refs, r.Ref)
	return ok && endsWithin(r, ref.length)
}

// find tells the reference of that name; false if there is none.
func find(refs []reference, name string) (reference, bool) {
	for _, r := range refs {
		if r.name == name {
			return r, true
		}
	}
	return reference{}, false
}
