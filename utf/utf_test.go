package utf_test

import (
	"math"
	"slices"
	"strings"
	"testing"
	"unicode/utf8"

	"namedesk/api"
	"namedesk/utf"
)

// sample is a list of scalar values and its encoding, written out by hand.
type sample struct {
	name    string
	scalars []int
	bytes   string
}

// samples contains the least and the greatest scalar value of each length, and ordinary texts.
var samples = []sample{
	{"nothing", nil, ""},
	{"the number 0", []int{0}, "\x00"},
	{"one byte, greatest", []int{0x7F}, "\x7F"},
	{"two bytes, least", []int{0x80}, "\xC2\x80"},
	{"two bytes, greatest", []int{0x7FF}, "\xDF\xBF"},
	{"three bytes, least", []int{0x800}, "\xE0\xA0\x80"},
	{"end of the row E0", []int{0xFFF}, "\xE0\xBF\xBF"},
	{"begin of the row E1", []int{0x1000}, "\xE1\x80\x80"},
	{"before the surrogates", []int{0xD7FF}, "\xED\x9F\xBF"},
	{"after the surrogates", []int{0xE000}, "\xEE\x80\x80"},
	{"replacement character", []int{0xFFFD}, "\xEF\xBF\xBD"},
	{"no character", []int{0xFFFE}, "\xEF\xBF\xBE"},
	{"three bytes, greatest", []int{0xFFFF}, "\xEF\xBF\xBF"},
	{"four bytes, least", []int{0x10000}, "\xF0\x90\x80\x80"},
	{"end of the row F0", []int{0x3FFFF}, "\xF0\xBF\xBF\xBF"},
	{"begin of the row F1", []int{0x40000}, "\xF1\x80\x80\x80"},
	{"begin of the row F4", []int{0x100000}, "\xF4\x80\x80\x80"},
	{"four bytes, greatest", []int{0x10FFFF}, "\xF4\x8F\xBF\xBF"},
	{"byte order mark is kept", []int{0xFEFF, 0x61}, "\xEF\xBB\xBFa"},
	{"a and acute accent", []int{0x61, 0x301}, "\x61\xCC\x81"},
	{"bücher", []int{0x62, 0xFC, 0x63, 0x68, 0x65, 0x72}, "b\xC3\xBCcher"},
	{"each length", []int{0x24, 0xA2, 0x20AC, 0x10348}, "\x24\xC2\xA2\xE2\x82\xAC\xF0\x90\x8D\x88"},
	{"each length, backwards", []int{0x10348, 0x20AC, 0xA2, 0x24}, "\xF0\x90\x8D\x88\xE2\x82\xAC\xC2\xA2\x24"},
}

// flaw is a string that is not the encoding of a list of scalar values, and where that shows.
type flaw struct {
	name  string
	bytes string
	at    int
}

var flaws = []flaw{
	{"two bytes for 0", "\xC0\x80", 0},
	{"two bytes for 0x7F", "\xC1\xBF", 0},
	{"three bytes for 0", "\xE0\x80\x80", 0},
	{"three bytes for 0x7FF", "\xE0\x9F\xBF", 0},
	{"four bytes for 0", "\xF0\x80\x80\x80", 0},
	{"four bytes for 0xFFFF", "\xF0\x8F\xBF\xBF", 0},
	{"first surrogate", "\xED\xA0\x80", 0},
	{"last high surrogate", "\xED\xAF\xBF", 0},
	{"first low surrogate", "\xED\xB0\x80", 0},
	{"last surrogate", "\xED\xBF\xBF", 0},
	{"pair of surrogates", "\xED\xA0\x80\xED\xB0\x80", 0},
	{"MaxRune + 1", "\xF4\x90\x80\x80", 0},
	{"end of the row F4", "\xF4\xBF\xBF\xBF", 0},
	{"row F5", "\xF5\x80\x80\x80", 0},
	{"end of the row F7", "\xF7\xBF\xBF\xBF", 0},
	{"five bytes", "\xF8\x88\x80\x80\x80", 0},
	{"six bytes", "\xFC\x84\x80\x80\x80\x80", 0},
	{"FE", "\xFE", 0},
	{"FF", "\xFF", 0},
	{"first further byte alone", "\x80", 0},
	{"last further byte alone", "\xBF", 0},
	{"one of two bytes", "\xC3", 0},
	{"one of three bytes", "\xE2", 0},
	{"two of three bytes", "\xE2\x82", 0},
	{"one of four bytes", "\xF0", 0},
	{"two of four bytes", "\xF0\x90", 0},
	{"three of four bytes", "\xF0\x90\x8D", 0},
	{"letter instead of second of two", "\xC3a", 0},
	{"letter instead of third of three", "\xE2\x82a", 0},
	{"letter instead of second of three", "\xE2a\xAC", 0},
	{"letter instead of fourth of four", "\xF0\x90\x8Da", 0},
	{"letter instead of second of four", "\xF0a\x8D\x88", 0},
	{"letter instead of third of four", "\xF0\x90a\x88", 0},
	{"first byte instead of second of two", "\xC3\xC3\xA9", 0},
	{"first byte instead of third of three", "\xE2\x82\xE2\x82\xAC", 0},
	{"incomplete before a complete one", "\xE2\x82\xC3\xA9", 0},
	{"after a letter", "a\xC0\x80", 1},
	{"after two bytes", "\xC3\xA9\xFF", 2},
	{"after three bytes", "\xE2\x82\xAC\xED\xA0\x80", 3},
	{"after four bytes", "\xF0\x90\x8D\x88\xF4\x90\x80\x80", 4},
	{"incomplete at the end", "abc\xE2\x82", 3},
	{"one further byte too many", "\xC3\xA9\xA9", 2},
	{"first of several", "ab\xFFcd\xFF", 2},
}

func TestLengthOfEachNumber(t *testing.T) {
	rows := []struct{ from, to, want int }{
		{math.MinInt, math.MinInt, 0},
		{-0x110000, -1, 0},
		{0, 0x7F, 1},
		{0x80, 0x7FF, 2},
		{0x800, 0xD7FF, 3},
		{0xD800, 0xDFFF, 0},
		{0xE000, 0xFFFF, 3},
		{0x10000, api.MaxRune, 4},
		{api.MaxRune + 1, 0x220000, 0},
		{math.MaxInt32, math.MaxInt32, 0},
		{math.MaxInt, math.MaxInt, 0},
	}
	for _, row := range rows {
		// The number of values is counted down, since c <= math.MaxInt would hold forever.
		for c, left := row.from, row.to-row.from; left >= 0; c, left = c+1, left-1 {
			if n := utf.Length(c); n != row.want {
				t.Fatalf("Length(%#x) = %d, want %d", c, n, row.want)
			}
		}
	}
}

func TestDecodeSamples(t *testing.T) {
	for _, s := range samples {
		l, at, e := utf.Decode(s.bytes)
		if e != api.OK || at != 0 || !slices.Equal(l, s.scalars) {
			t.Errorf("%s: Decode(%q) = %x, %d, %d, want %x", s.name, s.bytes, l, at, e, s.scalars)
		}
	}
}

func TestEncodeSamples(t *testing.T) {
	for _, s := range samples {
		if b, e := utf.Encode(s.scalars); e != api.OK || b != s.bytes {
			t.Errorf("%s: Encode(%x) = %q, %d, want %q", s.name, s.scalars, b, e, s.bytes)
		}
	}
}

func TestValidSamples(t *testing.T) {
	for _, s := range samples {
		if !utf.Valid(s.bytes) {
			t.Errorf("%s: %q is not valid", s.name, s.bytes)
		}
	}
	for _, f := range flaws {
		if utf.Valid(f.bytes) {
			t.Errorf("%s: %q is valid", f.name, f.bytes)
		}
	}
}

func TestDecodeRefusesFlaws(t *testing.T) {
	for _, f := range flaws {
		wantUTFError(t, f.name, f.bytes, f.at)
	}
}

// A flaw is found at the same place of the string whatever stands before and after it.
func TestDecodePositionOfFlaw(t *testing.T) {
	for _, s := range samples {
		for _, f := range flaws {
			name := f.name + " after " + s.name
			wantUTFError(t, name, s.bytes+f.bytes, len(s.bytes)+f.at)
			wantUTFError(t, name+" and before a", s.bytes+f.bytes+"a", len(s.bytes)+f.at)
		}
	}
}

func wantUTFError(t *testing.T, name, s string, want int) {
	t.Helper()
	if l, at, e := utf.Decode(s); e != api.ErrUTF || at != want || len(l) != 0 {
		t.Errorf("%s: Decode(%q) = %x, %d, %d, want ErrUTF at %d", name, s, l, at, e, want)
	}
}

func TestDecodeLimit(t *testing.T) {
	full := strings.Repeat("a", api.MaxBytes)
	if l, at, e := utf.Decode(full); e != api.OK || at != 0 || len(l) != api.MaxBytes {
		t.Errorf("MaxBytes letters: %d scalar values, %d, %d", len(l), at, e)
	}
	wide := strings.Repeat("\xF0\x90\x8D\x88", api.MaxBytes/4)
	if l, at, e := utf.Decode(wide); e != api.OK || at != 0 || len(l) != api.MaxBytes/4 {
		t.Errorf("MaxBytes bytes of four each: %d scalar values, %d, %d", len(l), at, e)
	}
	wantUTFError(t, "last of MaxBytes bytes", full[1:]+"\xFF", api.MaxBytes-1)
	for _, long := range []string{
		full + "a",
		wide + "a",
		"\xFF" + full, // ErrFull comes before ErrUTF
		full + "\xFF",
		strings.Repeat("\xFF", 3*api.MaxBytes),
	} {
		if l, at, e := utf.Decode(long); e != api.ErrFull || at != 0 || len(l) != 0 {
			t.Errorf("%d bytes: %d scalar values, %d, %d, want ErrFull at 0", len(long), len(l), at, e)
		}
	}
}

func TestValidHasNoLimit(t *testing.T) {
	long := strings.Repeat("\xE2\x82\xAC", api.MaxBytes)
	if !utf.Valid(long) {
		t.Error("a long string is not valid")
	}
	for _, s := range []string{long + "\xFF", "\xFF" + long, long[:len(long)-1], long[1:]} {
		if utf.Valid(s) {
			t.Errorf("a long string with a flaw is valid: %q .. %q", s[:3], s[len(s)-3:])
		}
	}
}

func TestEncodeRefusesWhatIsNoScalarValue(t *testing.T) {
	for _, c := range []int{-1, math.MinInt, 0xD800, 0xDBFF, 0xDC00, 0xDFFF, api.MaxRune + 1, math.MaxInt32, math.MaxInt} {
		for _, l := range [][]int{{c}, {c, 0x61}, {0x61, c}, {0x61, c, 0x20AC}} {
			if b, e := utf.Encode(l); e != api.ErrRange || b != "" {
				t.Errorf("Encode(%x) = %q, %d, want ErrRange", l, b, e)
			}
		}
	}
}

func TestEncodeLimit(t *testing.T) {
	l := slices.Repeat([]int{0x10FFFF}, api.MaxRunes)
	if b, e := utf.Encode(l); e != api.OK || b != strings.Repeat("\xF4\x8F\xBF\xBF", api.MaxRunes) {
		t.Errorf("MaxRunes elements: %d bytes, %d", len(b), e)
	}
	l[api.MaxRunes-1] = -1
	if b, e := utf.Encode(l); e != api.ErrRange || b != "" {
		t.Errorf("the last of MaxRunes elements is no scalar value: %d bytes, %d", len(b), e)
	}
	for _, last := range []int{0x61, -1} { // ErrFull comes before ErrRange
		if b, e := utf.Encode(append(l, last)); e != api.ErrFull || b != "" {
			t.Errorf("more than MaxRunes elements: %d bytes, %d, want ErrFull", len(b), e)
		}
	}
}

func TestEachScalarValueComesBack(t *testing.T) {
	for c := range api.MaxRune + 1 {
		b, e := utf.Encode([]int{c})
		if c >= 0xD800 && c <= 0xDFFF {
			if e != api.ErrRange || b != "" {
				t.Fatalf("Encode of the surrogate %#x = %q, %d", c, b, e)
			}
			continue
		}
		if e != api.OK || b != string(rune(c)) || len(b) != utf.Length(c) {
			t.Fatalf("Encode(%#x) = %q, %d", c, b, e)
		}
		if l, at, e := utf.Decode(b); e != api.OK || at != 0 || !slices.Equal(l, []int{c}) {
			t.Fatalf("Decode(%q) = %x, %d, %d", b, l, at, e)
		}
	}
}

// The short strings are compared with the library, whose decoder was written independently: all
// strings of up to two bytes, and those of three and four bytes at the edges of the classes.
func TestShortStringsAgainstLibrary(t *testing.T) {
	var all []byte
	for b := range 0x100 {
		all = append(all, byte(b))
	}
	edges := []byte("\x00\x61\x7F\x80\x8F\x90\x9F\xA0\xBF\xC0\xC1\xC2\xDF\xE0\xE1\xEC\xED\xEE\xEF\xF0\xF1\xF3\xF4\xF5\xF7\xF8\xFF")
	forEachString(all, 1, func(s string) { compareWithLibrary(t, s) })
	forEachString(all, 2, func(s string) { compareWithLibrary(t, s) })
	forEachString(edges, 3, func(s string) { compareWithLibrary(t, s) })
	forEachString(edges, 4, func(s string) { compareWithLibrary(t, s) })
}

// forEachString calls visit with each string of n bytes of the alphabet.
func forEachString(alphabet []byte, n int, visit func(string)) {
	word := make([]byte, n)
	var fill func(int)
	fill = func(at int) {
		if at == n {
			visit(string(word))
			return
		}
		for _, b := range alphabet {
			word[at] = b
			fill(at + 1)
		}
	}
	fill(0)
}

func compareWithLibrary(t *testing.T, s string) {
	t.Helper()
	var want []int
	wantAt, wantErr := 0, api.OK
	for at := 0; at < len(s); {
		r, size := utf8.DecodeRuneInString(s[at:])
		if r == utf8.RuneError && size == 1 {
			want, wantAt, wantErr = nil, at, api.ErrUTF
			break
		}
		want = append(want, int(r))
		at += size
	}
	l, at, e := utf.Decode(s)
	if e != wantErr || at != wantAt || !slices.Equal(l, want) {
		t.Fatalf("Decode(%q) = %x, %d, %d, want %x, %d, %d", s, l, at, e, want, wantAt, wantErr)
	}
	if valid := utf.Valid(s); valid != (wantErr == api.OK) {
		t.Fatalf("Valid(%q) = %t", s, valid)
	}
}

// Rule R2: the argument is unchanged, with its unused capacity, and no result shares memory.
func TestEncodeLeavesItsArgument(t *testing.T) {
	backing := []int{0x61, 0x20AC, 0x10348, -7, -8}
	before := slices.Clone(backing)
	b, e := utf.Encode(backing[:3])
	if e != api.OK || !slices.Equal(backing, before) {
		t.Fatalf("the argument became %x, %d", backing, e)
	}
	backing[0] = 0x62
	if b != "a\xE2\x82\xAC\xF0\x90\x8D\x88" {
		t.Errorf("the result became %q", b)
	}
}

func TestDecodeReturnsNewMemory(t *testing.T) {
	first, _, _ := utf.Decode("ab")
	second, _, _ := utf.Decode("ab")
	first[0] = -1
	third, _, _ := utf.Decode("ab")
	if want := []int{0x61, 0x62}; !slices.Equal(second, want) || !slices.Equal(third, want) {
		t.Errorf("a change of one result changed another: %x, %x", second, third)
	}
}
