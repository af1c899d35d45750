package hangul_test

import (
	"math"
	"slices"
	"testing"

	"namedesk/api"
	"namedesk/hangul"
)

// syllable is a syllable and its parts, written out by hand.
type syllable struct {
	c       int
	i, j, k int
	jamo    []int
}

// samples contains the first and the last syllable, both kinds, and the places where the number of one
// part starts again and that of the one before it grows.
var samples = []syllable{
	{0xAC00, 0, 0, 0, []int{0x1100, 0x1161}},
	{0xAC01, 0, 0, 1, []int{0x1100, 0x1161, 0x11A8}},
	{0xAC02, 0, 0, 2, []int{0x1100, 0x1161, 0x11A9}},
	{0xAC1B, 0, 0, 27, []int{0x1100, 0x1161, 0x11C2}},
	{0xAC1C, 0, 1, 0, []int{0x1100, 0x1162}},
	{0xAC1D, 0, 1, 1, []int{0x1100, 0x1162, 0x11A8}},
	{0xAE00, 0, 18, 8, []int{0x1100, 0x1173, 0x11AF}},
	{0xAE30, 0, 20, 0, []int{0x1100, 0x1175}},
	{0xAE4B, 0, 20, 27, []int{0x1100, 0x1175, 0x11C2}},
	{0xAE4C, 1, 0, 0, []int{0x1101, 0x1161}},
	{0xB098, 2, 0, 0, []int{0x1102, 0x1161}},
	{0xD4DB, 17, 16, 15, []int{0x1111, 0x1171, 0x11B6}},
	{0xD558, 18, 0, 0, []int{0x1112, 0x1161}},
	{0xD55C, 18, 0, 4, []int{0x1112, 0x1161, 0x11AB}},
	{0xD788, 18, 20, 0, []int{0x1112, 0x1175}},
	{0xD789, 18, 20, 1, []int{0x1112, 0x1175, 0x11A8}},
	{0xD7A3, 18, 20, 27, []int{0x1112, 0x1175, 0x11C2}},
}

// others are numbers that have nothing to do with Hangul syllables: the neighbours of each range,
// letters of Hangul that are not composed, and what is not even a scalar value.
var others = []int{
	0x10FF, 0x1113, 0x115F, 0x1160, 0x1176, 0x11A2, 0x11A7, 0x11C3, 0x11FF,
	0x3131, 0x314F, 0xA960, 0xABFF, 0xD7A4, 0xD7B0, 0xD7CB, 0xFFA1, 0xFFC2,
	0, 'a', 0xD7FF, 0xD800, 0xDFFF, 0xE000, 0xFFFF, 0x10000, api.MaxRune,
	api.MaxRune + 1, 0x110000 + 0x1100, 0x110000 + 0xAC00, -1, -0x1100, -0x1161, -0x11A8, -0xAC00, -0xD7A3,
	0x1100 + 1<<16, 0x1161 + 1<<16, 0x11A8 + 1<<16, 0xAC00 + 1<<16, 0xAC01 - 1<<16, 0x1100 - 1<<16,
	0x1100 + 1<<32, 0x1161 + 1<<32, 0x11A8 + 1<<32, 0xAC00 + 1<<32, 0xAC01 - 1<<32, 0x1100 - 1<<32,
	math.MaxInt32, math.MinInt32, math.MaxInt32 + 1, math.MaxUint32,
	math.MaxInt, math.MaxInt - 1, math.MinInt, math.MinInt + 1,
	math.MinInt + 0x1100, math.MinInt + 0x1161, math.MinInt + 0x11A7, math.MinInt + 0x11A8,
	math.MinInt + 0xAC00, math.MinInt + 0xAC01, math.MaxInt - 0x11A7, math.MaxInt - 0xAC00,
}

// all returns every syllable, in ascending order. It counts the syllables instead of computing them.
func all() []syllable {
	var l []syllable
	c := 0xAC00
	for i, leading := 0, 0x1100; leading <= 0x1112; i, leading = i+1, leading+1 {
		for j, vowel := 0, 0x1161; vowel <= 0x1175; j, vowel = j+1, vowel+1 {
			l = append(l, syllable{c, i, j, 0, []int{leading, vowel}})
			c++
			for k, trailing := 1, 0x11A8; trailing <= 0x11C2; k, trailing = k+1, trailing+1 {
				l = append(l, syllable{c, i, j, k, []int{leading, vowel, trailing}})
				c++
			}
		}
	}
	return l
}

// kindOf returns the kind of a syllable.
func kindOf(s syllable) int {
	if len(s.jamo) == 2 {
		return api.HangulLV
	}
	return api.HangulLVT
}

// wantSyllable compares what Kind, Decompose and Parts say about a syllable.
func wantSyllable(t *testing.T, s syllable) {
	t.Helper()
	if kind := hangul.Kind(s.c); kind != kindOf(s) {
		t.Errorf("Kind(%#x) = %d, want %d", s.c, kind, kindOf(s))
	}
	if l := hangul.Decompose(s.c); !slices.Equal(l, s.jamo) {
		t.Errorf("Decompose(%#x) = %#x, want %#x", s.c, l, s.jamo)
	}
	if i, j, k, found := hangul.Parts(s.c); i != s.i || j != s.j || k != s.k || !found {
		t.Errorf("Parts(%#x) = %d, %d, %d, %t, want %d, %d, %d, true", s.c, i, j, k, found, s.i, s.j, s.k)
	}
}

// wantNoSyllable compares what Kind, Decompose and Parts say about any other number.
func wantNoSyllable(t *testing.T, c, want int) {
	t.Helper()
	if kind := hangul.Kind(c); kind != want {
		t.Errorf("Kind(%#x) = %d, want %d", c, kind, want)
	}
	if l := hangul.Decompose(c); len(l) != 0 {
		t.Errorf("Decompose(%#x) = %#x, want no elements", c, l)
	}
	if i, j, k, found := hangul.Parts(c); i != 0 || j != 0 || k != 0 || found {
		t.Errorf("Parts(%#x) = %d, %d, %d, %t, want 0, 0, 0, false", c, i, j, k, found)
	}
}

// wantComposed compares the result of Compose for a pair that has one.
func wantComposed(t *testing.T, a, b, want int) {
	t.Helper()
	if c, found := hangul.Compose(a, b); c != want || !found {
		t.Errorf("Compose(%#x, %#x) = %#x, %t, want %#x, true", a, b, c, found, want)
	}
}

// wantNotComposed compares the result of Compose for any other pair.
func wantNotComposed(t *testing.T, a, b int) {
	t.Helper()
	if c, found := hangul.Compose(a, b); c != 0 || found {
		t.Errorf("Compose(%#x, %#x) = %#x, %t, want 0, false", a, b, c, found)
	}
}

func TestSamples(t *testing.T) {
	for _, s := range samples {
		wantSyllable(t, s)
	}
}

func TestEverySyllable(t *testing.T) {
	l := all()
	if len(l) != 11172 || l[len(l)-1].c != 0xD7A3 {
		t.Fatalf("%d syllables up to %#x", len(l), l[len(l)-1].c)
	}
	for _, s := range l {
		wantSyllable(t, s)
	}
}

func TestKindOfTheEndsOfEachRange(t *testing.T) {
	rows := []struct{ c, want int }{
		{0x10FF, api.HangulNone}, {0x1100, api.HangulL}, {0x1101, api.HangulL}, {0x1111, api.HangulL}, {0x1112, api.HangulL}, {0x1113, api.HangulNone},
		{0x1160, api.HangulNone}, {0x1161, api.HangulV}, {0x1162, api.HangulV}, {0x1174, api.HangulV}, {0x1175, api.HangulV}, {0x1176, api.HangulNone},
		{0x11A7, api.HangulNone}, {0x11A8, api.HangulT}, {0x11A9, api.HangulT}, {0x11C1, api.HangulT}, {0x11C2, api.HangulT}, {0x11C3, api.HangulNone},
		{0xABFF, api.HangulNone}, {0xAC00, api.HangulLV}, {0xAC01, api.HangulLVT}, {0xAC1B, api.HangulLVT}, {0xAC1C, api.HangulLV},
		{0xD787, api.HangulLVT}, {0xD788, api.HangulLV}, {0xD789, api.HangulLVT}, {0xD7A3, api.HangulLVT}, {0xD7A4, api.HangulNone},
	}
	for _, row := range rows {
		if kind := hangul.Kind(row.c); kind != row.want {
			t.Errorf("Kind(%#x) = %d, want %d", row.c, kind, row.want)
		}
	}
}

func TestEveryNumberThatIsNoSyllable(t *testing.T) {
	rows := []struct{ from, to, want int }{
		{-0x20000, 0x10FF, api.HangulNone},
		{0x1100, 0x1112, api.HangulL},
		{0x1113, 0x1160, api.HangulNone},
		{0x1161, 0x1175, api.HangulV},
		{0x1176, 0x11A7, api.HangulNone},
		{0x11A8, 0x11C2, api.HangulT},
		{0x11C3, 0xABFF, api.HangulNone},
		{0xD7A4, 0x120000, api.HangulNone},
	}
	for _, row := range rows {
		for c := row.from; c <= row.to; c++ {
			wantNoSyllable(t, c, row.want)
		}
	}
	for _, c := range others {
		wantNoSyllable(t, c, api.HangulNone)
	}
}

func TestComposeSamples(t *testing.T) {
	wantComposed(t, 0x1100, 0x1161, 0xAC00)
	wantComposed(t, 0x1100, 0x1162, 0xAC1C)
	wantComposed(t, 0x1100, 0x1175, 0xAE30)
	wantComposed(t, 0x1101, 0x1161, 0xAE4C)
	wantComposed(t, 0x1112, 0x1161, 0xD558)
	wantComposed(t, 0x1112, 0x1175, 0xD788)
	wantComposed(t, 0xAC00, 0x11A8, 0xAC01)
	wantComposed(t, 0xAC00, 0x11C2, 0xAC1B)
	wantComposed(t, 0xAC1C, 0x11A8, 0xAC1D)
	wantComposed(t, 0xD558, 0x11AB, 0xD55C)
	wantComposed(t, 0xD788, 0x11A8, 0xD789)
	wantComposed(t, 0xD788, 0x11C2, 0xD7A3)
}

func TestComposeRefusesOtherPairs(t *testing.T) {
	rows := []struct {
		name string
		a, b int
	}{
		{"vowel before leading consonant", 0x1161, 0x1100},
		{"trailing consonant before syllable", 0x11A8, 0xAC00},
		{"trailing consonant before vowel", 0x11A8, 0x1161},
		{"second trailing consonant, the first one", 0xAC01, 0x11A8},
		{"second trailing consonant, the last one", 0xAC01, 0x11C2},
		{"second trailing consonant after the last one", 0xAC1B, 0x11A8},
		{"second trailing consonant after the last syllable", 0xD7A3, 0x11A8},
		{"0x11A7 after a syllable", 0xAC00, 0x11A7},
		{"0x11A7 after the last syllable without a trailing consonant", 0xD788, 0x11A7},
		{"after the last trailing consonant", 0xAC00, 0x11C3},
		{"before the first vowel", 0x1100, 0x1160},
		{"after the last vowel", 0x1100, 0x1176},
		{"before the first leading consonant", 0x10FF, 0x1161},
		{"after the last leading consonant", 0x1113, 0x1161},
		{"before the first syllable", 0xABFF, 0x11A8},
		{"28 before the first syllable", 0xABE4, 0x11A8},
		{"after the last syllable", 0xD7A4, 0x11A8},
		{"two leading consonants", 0x1100, 0x1100},
		{"two vowels", 0x1161, 0x1161},
		{"two trailing consonants", 0x11A8, 0x11A8},
		{"two syllables", 0xAC00, 0xAC00},
		{"leading and trailing consonant", 0x1100, 0x11A8},
		{"vowel and trailing consonant", 0x1161, 0x11A8},
		{"leading consonant and syllable", 0x1100, 0xAC00},
		{"syllable and vowel", 0xAC00, 0x1161},
		{"syllable and leading consonant", 0xAC00, 0x1100},
		{"Latin letters", 'a', 'e'},
	}
	for _, row := range rows {
		if c, found := hangul.Compose(row.a, row.b); c != 0 || found {
			t.Errorf("%s: Compose(%#x, %#x) = %#x, %t, want 0, false", row.name, row.a, row.b, c, found)
		}
	}
}

// TestComposeEveryPair compares the result for each number in the blocks of jamo and of syllables, and
// one before and behind them, with each one in the block of jamo, in both orders.
func TestComposeEveryPair(t *testing.T) {
	// The pairs that are composed, by the elements of the decompositions.
	composed := map[[2]int]int{}
	for _, s := range all() {
		if len(s.jamo) == 2 {
			composed[[2]int{s.jamo[0], s.jamo[1]}] = s.c
		} else {
			composed[[2]int{s.c - s.k, s.jamo[2]}] = s.c
		}
	}
	if len(composed) != 11172 {
		t.Fatalf("%d pairs", len(composed))
	}
	compare := func(a, b int) {
		if want, found := composed[[2]int{a, b}]; found {
			wantComposed(t, a, b, want)
		} else {
			wantNotComposed(t, a, b)
		}
	}
	for b := 0x10FF; b <= 0x1200; b++ {
		for a := 0x10FF; a <= 0x1200; a++ {
			compare(a, b)
		}
		for a := 0xABE4; a <= 0xD7BF; a++ {
			compare(a, b)
			compare(b, a)
		}
	}
}

func TestComposeWithOtherNumbers(t *testing.T) {
	partners := append([]int{0x1100, 0x1112, 0x1161, 0x1175, 0x11A8, 0x11C2, 0xAC00, 0xAC01, 0xD788, 0xD7A3}, others...)
	for _, a := range others {
		for _, b := range partners {
			wantNotComposed(t, a, b)
			wantNotComposed(t, b, a)
		}
	}
}

func TestComposedAgain(t *testing.T) {
	for c := 0xAC00; c <= 0xD7A3; c++ {
		l := hangul.Decompose(c)
		if len(l) < 2 {
			t.Fatalf("Decompose(%#x) = %#x", c, l)
		}
		result := l[0]
		for _, next := range l[1:] {
			var found bool
			if result, found = hangul.Compose(result, next); !found {
				t.Errorf("the elements %#x of %#x are not composed", l, c)
			}
		}
		if result != c {
			t.Errorf("the elements %#x of %#x are composed to %#x", l, c, result)
		}
	}
}

func TestDecomposeReturnsNewMemory(t *testing.T) {
	for _, s := range []syllable{samples[0], samples[1]} {
		changed, kept := hangul.Decompose(s.c), hangul.Decompose(s.c)
		for i := range changed {
			changed[i] = -1
		}
		// Unused capacity belongs to the result as well.
		changed = append(changed, -1)
		kept = append(kept, -2)
		if len(changed) != len(kept) || changed[len(changed)-1] != -1 || !slices.Equal(kept[:len(kept)-1], s.jamo) {
			t.Errorf("%#x: after a change of one result, the other one is %#x, want %#x", s.c, kept, s.jamo)
		}
		if l := hangul.Decompose(s.c); !slices.Equal(l, s.jamo) {
			t.Errorf("after a change of a result, Decompose(%#x) = %#x, want %#x", s.c, l, s.jamo)
		}
	}
}
