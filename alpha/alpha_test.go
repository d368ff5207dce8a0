package alpha_test

import (
	"math"
	"slices"
	"strings"
	"testing"

	"helix/alpha"
	"helix/api"
)

const (
	twenty    = "QWERTYUIOPASDFGHJKLZ"
	twentyOne = twenty + "X"
)

// wrongAlphabets are what A1 refuses; the calls that take an alphabet refuse each of them, too.
func wrongAlphabets() []string {
	return []string{
		"", "A", "a", twentyOne, "ABCDEFGHIJKLMNOPQRSTUVWXYZ",
		"AA", "ACA", "AACGT", "ACGTT", twenty[:19] + "Q",
		"ac", "Ac", "aC", "ACGt", "Aa",
		"AC1", "1AC", "A C", " AC", "AC ", "AC\n", "A\x00", "AC-", "AC*", "\xc4C", "AÄ", "\xff\xfe",
		strings.Repeat("AC", 40000),
	}
}

func isSmall(c byte) bool { return c >= 'a' && c <= 'z' }

func isBig(c byte) bool { return c >= 'A' && c <= 'Z' }

func allBytes() []byte {
	var l []byte
	for c := range 256 {
		l = append(l, byte(c))
	}
	return l
}

// rest is a row of numbers of n letters, of a plain rule, so that each letter comes at many places.
func rest(n, length int) []int {
	l := make([]int, length)
	for i := range l {
		l[i] = (i*i + i/7) % n
	}
	return l
}

func TestRightTakesAlphabets(t *testing.T) {
	for _, s := range []string{"AC", "ZA", "ACGT", "TGCA", "AZ", "ACDEFGHIKLMNPQRSTVWY", twenty, twenty[:19]} {
		if !alpha.Right(s) {
			t.Errorf("A1: Right(%q) is false", s)
		}
	}
}

func TestRightRefusesOthers(t *testing.T) {
	for _, s := range wrongAlphabets() {
		if alpha.Right(s) {
			t.Errorf("A1: Right(%.30q) is true", s)
		}
	}
}

func TestRightOfEachLength(t *testing.T) {
	const all = "ABCDEFGHIJKLMNOPQRSTUVWXYZ"
	for n := range len(all) + 1 {
		if got, want := alpha.Right(all[:n]), n >= 2 && n <= 20; got != want {
			t.Errorf("A1: Right of %d letters is %v", n, got)
		}
	}
}

func TestRightOfEachByte(t *testing.T) {
	for _, c := range allBytes() {
		want := isBig(c) && c != 'Q'
		for _, s := range []string{"Q" + string([]byte{c}), string([]byte{c}) + "Q"} {
			if got := alpha.Right(s); got != want {
				t.Errorf("A1: Right(%q) is %v", s, got)
			}
		}
	}
}

func TestRightRefusesLettersTwice(t *testing.T) {
	for i := range len(twenty) {
		for j := range i {
			s := twenty[:i] + twenty[j:j+1] + twenty[i+1:]
			if alpha.Right(s) {
				t.Errorf("A1: Right(%q) is true: %d and %d are alike", s, j, i)
			}
		}
	}
}

func TestAddTakesGroups(t *testing.T) {
	for _, c := range []struct {
		groups []string
		want   string
	}{
		{[]string{"ac", "", "GT"}, "ACGT"},
		{[]string{"ACGT"}, "ACGT"},
		{[]string{"t", "G", "c", "A"}, "TGCA"},
		{[]string{"", "", "zA", ""}, "ZA"},
		{[]string{"aZ"}, "AZ"},
		{[]string{twenty[:7], strings.ToLower(twenty[7:])}, twenty},
		{[]string{"A", "C"}, "AC"},
	} {
		if got, e := alpha.Add(c.groups...); got != c.want || e != api.OK {
			t.Errorf("A2: Add(%q): %q, %d", c.groups, got, e)
		}
	}
}

func TestAddRefusesWhatIsNoAlphabet(t *testing.T) {
	for _, l := range [][]string{
		nil, {}, {""}, {"", "", ""}, {"A"}, {"a"}, {"", "a", ""},
		{"ac", "A"}, {"ac", "gt", "c"}, {"aa"}, {"Aa"}, {"A", "a"}, {"ACGT", "ACGT"},
		{twentyOne}, {twenty, "x"}, {twenty, "", "X"}, {"x", twenty}, {twenty, "q"},
		{"AC", "1"}, {"1", "AC"}, {"AC", " "}, {"A C"}, {"AC", "\x00"}, {"AÄ"}, {"AC", "\xe4"}, {"AC\n"},
		{"AC", strings.Repeat("G", 70000)}, {strings.Repeat("ACGT", 20000)},
	} {
		if got, e := alpha.Add(l...); got != "" || e != api.ErrAlphabet {
			t.Errorf("A2: Add(%.60q): %q, %d", l, got, e)
		}
	}
}

func TestAddOfEachByte(t *testing.T) {
	for _, c := range allBytes() {
		want, wantErr := "", api.ErrAlphabet
		switch {
		case isBig(c) && c != 'Q':
			want, wantErr = "Q"+string([]byte{c}), api.OK
		case isSmall(c) && c != 'q':
			want, wantErr = "Q"+string([]byte{c - 'a' + 'A'}), api.OK
		}
		if got, e := alpha.Add("q", string([]byte{c})); got != want || e != wantErr {
			t.Errorf("A2: Add(q, %q): %q, %d", c, got, e)
		}
	}
}

func TestAddLeavesGroups(t *testing.T) {
	spare := []string{"ac", "gt", "n", "r"}
	if got, e := alpha.Add(spare[:2]...); got != "ACGT" || e != api.OK {
		t.Errorf("A2: Add: %q, %d", got, e)
	}
	if !slices.Equal(spare, []string{"ac", "gt", "n", "r"}) {
		t.Errorf("A2, R5: Add changed what it was handed: %q", spare)
	}
}

func TestCodeOfEachByte(t *testing.T) {
	for _, letters := range []string{"AC", "ZA", "ACGT", "TGCA", twenty} {
		for _, c := range allBytes() {
			want := -1
			for i := range len(letters) {
				if c == letters[i] || c == letters[i]-'A'+'a' {
					want = i
				}
			}
			if got := alpha.Code(letters, c); got != want {
				t.Errorf("A3: Code(%s, %q) is %d, not %d", letters, c, got, want)
			}
		}
	}
}

func TestCodeOfNoAlphabet(t *testing.T) {
	for _, letters := range wrongAlphabets() {
		for _, c := range allBytes() {
			if got := alpha.Code(letters, c); got != -1 {
				t.Errorf("A3: Code(%.30q, %q) is %d", letters, c, got)
			}
		}
	}
}

func checkEncode(t *testing.T, letters, s string, want []int, wantAt int, wantErr api.Errno) {
	t.Helper()
	l, at, e := alpha.Encode(letters, s)
	if !slices.Equal(l, want) || at != wantAt || e != wantErr {
		t.Errorf("A4: Encode(%.30q, %.30q): %d numbers, place %d, error %d; wanted %d, %d, %d",
			letters, s, len(l), at, e, len(want), wantAt, wantErr)
	}
}

func TestEncodeTakesTexts(t *testing.T) {
	checkEncode(t, "ACGT", "gAt", []int{2, 0, 3}, 0, api.OK)
	checkEncode(t, "ACGT", "", nil, 0, api.OK)
	checkEncode(t, "TGCA", "ACGTacgt", []int{3, 2, 1, 0, 3, 2, 1, 0}, 0, api.OK)
	checkEncode(t, "AC", "c", []int{1}, 0, api.OK)
	checkEncode(t, twenty, "qZzQ", []int{0, 19, 19, 0}, 0, api.OK)
}

func TestEncodeTellsTheFirstWrongByte(t *testing.T) {
	checkEncode(t, "ACGT", "ANN", nil, 1, api.ErrSymbol)
	checkEncode(t, "ACGT", "N", nil, 0, api.ErrSymbol)
	checkEncode(t, "ACGT", "NACGT", nil, 0, api.ErrSymbol)
	checkEncode(t, "ACGT", "ACGT\n", nil, 4, api.ErrSymbol)
	checkEncode(t, "ACGT", "AC ü1", nil, 2, api.ErrSymbol)
	checkEncode(t, "ACGT", "ACü", nil, 2, api.ErrSymbol)
	checkEncode(t, "AC", "acb", nil, 2, api.ErrSymbol)
	checkEncode(t, twenty, twenty+"X", nil, 20, api.ErrSymbol)
}

func TestEncodeOfEachByte(t *testing.T) {
	for _, c := range allBytes() {
		s := "A" + string([]byte{c})
		if n := alpha.Code("ACGT", c); n >= 0 {
			checkEncode(t, "ACGT", s, []int{0, n}, 0, api.OK)
		} else {
			checkEncode(t, "ACGT", s, nil, 1, api.ErrSymbol)
		}
	}
}

func TestEncodeAtItsLimit(t *testing.T) {
	most := strings.Repeat("c", 65536)
	ones := make([]int, 65536)
	for i := range ones {
		ones[i] = 1
	}
	checkEncode(t, "AC", most, ones, 0, api.OK)
	checkEncode(t, "AC", most+"c", nil, 0, api.ErrLong)
	checkEncode(t, "AC", most[1:]+"N", nil, 65535, api.ErrSymbol)
	checkEncode(t, "AC", strings.Repeat("c", 1<<20), nil, 0, api.ErrLong)
}

func TestEncodeOrderOfErrors(t *testing.T) {
	long := strings.Repeat("N", 65537)
	for _, letters := range wrongAlphabets() {
		for _, s := range []string{"", "A", "N", long} {
			checkEncode(t, letters, s, nil, 0, api.ErrAlphabet)
		}
	}
	checkEncode(t, "ACGT", long, nil, 0, api.ErrLong)
}

func TestEncodeAnswersNewMemory(t *testing.T) {
	first, _, _ := alpha.Encode("ACGT", "gAt")
	for i := range first {
		first[i] = 9
	}
	_ = append(first, 9)
	checkEncode(t, "ACGT", "gAt", []int{2, 0, 3}, 0, api.OK)
}

func checkDecode(t *testing.T, letters string, l []int, want string, wantErr api.Errno) {
	t.Helper()
	if got, e := alpha.Decode(letters, l...); got != want || e != wantErr {
		t.Errorf("A5: Decode(%.30q, %d numbers): %.30q, error %d; wanted %.30q, %d", letters, len(l), got, e, want, wantErr)
	}
}

func TestDecodeTakesNumbers(t *testing.T) {
	checkDecode(t, "ACGT", []int{2, 0, 3}, "GAT", api.OK)
	checkDecode(t, "ACGT", nil, "", api.OK)
	checkDecode(t, "ACGT", []int{}, "", api.OK)
	checkDecode(t, "TGCA", []int{0, 1, 2, 3, 3}, "TGCAA", api.OK)
	for n := range len(twenty) {
		checkDecode(t, twenty, []int{n}, twenty[n:n+1], api.OK)
	}
}

func TestDecodeRefusesOtherNumbers(t *testing.T) {
	for _, n := range []int{-1, 4, 5, 20, 255, 256, 65536, 1 << 32, -256, -1 << 32, math.MaxInt, math.MinInt} {
		checkDecode(t, "ACGT", []int{n}, "", api.ErrSymbol)
		checkDecode(t, "ACGT", []int{n, 0, 1}, "", api.ErrSymbol)
		checkDecode(t, "ACGT", []int{0, 1, n}, "", api.ErrSymbol)
	}
	checkDecode(t, "AC", []int{2}, "", api.ErrSymbol)
	checkDecode(t, twenty, []int{20}, "", api.ErrSymbol)
}

func TestDecodeAtItsLimit(t *testing.T) {
	most := make([]int, 65536, 65537)
	checkDecode(t, "CA", most, strings.Repeat("C", 65536), api.OK)
	checkDecode(t, "CA", append(most, 0), "", api.ErrLong)
	last := slices.Clone(most)
	last[65535] = 2
	checkDecode(t, "CA", last, "", api.ErrSymbol)
}

func TestDecodeOrderOfErrors(t *testing.T) {
	long := make([]int, 65537)
	long[0] = -1
	for _, letters := range wrongAlphabets() {
		for _, l := range [][]int{nil, {0}, {-1}, long} {
			checkDecode(t, letters, l, "", api.ErrAlphabet)
		}
	}
	checkDecode(t, "ACGT", long, "", api.ErrLong)
}

func TestDecodeLeavesNumbers(t *testing.T) {
	spare := []int{2, 0, 3, 7, -7}
	checkDecode(t, "ACGT", spare[:3], "GAT", api.OK)
	if !slices.Equal(spare, []int{2, 0, 3, 7, -7}) {
		t.Errorf("A5, R5: Decode changed what it was handed: %v", spare)
	}
}

func TestThereAndBack(t *testing.T) {
	for _, letters := range []string{"AC", "ZA", "ACGT", twenty} {
		for _, length := range []int{0, 1, 2, 20, 255, 256, 1000, 65536} {
			numbers := rest(len(letters), length)
			text, e := alpha.Decode(letters, numbers...)
			if len(text) != length || e != api.OK {
				t.Fatalf("A6: Decode(%s) of %d numbers: %d letters, %d", letters, length, len(text), e)
			}
			if back, at, e := alpha.Encode(letters, text); !slices.Equal(back, numbers) || at != 0 || e != api.OK {
				t.Errorf("A6: Encode(%s) of Decode, %d letters: place %d, error %d", letters, length, at, e)
			}
			mixed := strings.ToLower(text[:length/2]) + text[length/2:]
			back, _, _ := alpha.Encode(letters, mixed)
			if again, e := alpha.Decode(letters, back...); again != text || e != api.OK {
				t.Errorf("A6: Decode(%s) of Encode, %d letters: error %d", letters, length, e)
			}
		}
	}
}

func TestOneBehindTheOther(t *testing.T) {
	texts := []string{"", "a", "ACGT", "ttgca", strings.Repeat("gAtc", 16383), strings.Repeat("t", 65536)}
	for _, a := range texts {
		for _, b := range texts {
			first, _, _ := alpha.Encode("ACGT", a)
			second, _, _ := alpha.Encode("ACGT", b)
			if len(a)+len(b) > 65536 {
				checkEncode(t, "ACGT", a+b, nil, 0, api.ErrLong)
				continue
			}
			if len(first) != len(a) || len(second) != len(b) {
				t.Fatalf("A6: %d and %d numbers of %d and %d letters", len(first), len(second), len(a), len(b))
			}
			checkEncode(t, "ACGT", a+b, slices.Concat(first, second), 0, api.OK)
		}
	}
}
