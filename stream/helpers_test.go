package stream_test

import (
	"math"
	"slices"
	"testing"

	"namedesk/api"
	"namedesk/compose"
	"namedesk/decompose"
	"namedesk/stream"
	"namedesk/table"
)

type (
	spans    = []api.Span
	mappings = []api.Mapping
)

// mapping keeps the tables of the tests short.
func mapping(from int, to ...int) api.Mapping { return api.Mapping{From: from, To: to} }

// The marks of the sample; their names end with the class.
const (
	cover1     = 0x334
	nukta7     = 0x93C
	below220   = 0x323
	below220b  = 0x324
	grave230   = 0x300
	acute230   = 0x301
	hat230     = 0x302
	lonelyMark = 0x305 // class 230, the second element of nothing
	diaer230   = 0x308
	ring230    = 0x30A
	iota240    = 0x345
)

// The code points of the sample whose decompositions are not as usual. What begins these ones is a
// boundary, and so are they.
const (
	twoLetters    = 0xF0000 // the second element has class 0
	threeLetters  = 0xF0001 // the second element follows another one of class 0
	markOnLetters = 0xF0002 // a mark behind it
	withZeroTrail = 0xF0003 // the second element is the code point before the first trailing consonant
	twinOf220     = 0xF0004 // has a class, but what begins it has none
	excludedPair  = 0xF0005 // excluded, the second element is 'h'
	singlePair    = 0xF0006 // the second element has a decomposition, to 0x3A9
	onExcluded    = 0xF0007 // the first element is excluded, the second one is 'j'
	onTwin        = 0xF0008 // the first element has a class, the second one is 'q'
	nearlyHangul  = 0xABFF  // the code point before the first Hangul syllable
	afterHangul   = 0xD7A4  // the code point after the last one
	afterTrailing = 0x11C3  // the code point after the last trailing consonant
)

// What begins these ones has a class, or composes with something before it.
const (
	markOf0      = 0xF0020 // has no class, a mark takes its place
	markFirst    = 0xF0021 // begins with a mark
	markFirst2   = 0xF0022 // begins with a mark after two steps
	marksOf0     = 0xF0023 // two marks take its place
	secondAlone  = 0xF0024 // a second element of class 0 takes its place
	secondFirst  = 0xF0025 // begins with a second element, composable
	secondFirst2 = 0xF0026 // begins with a second element after two steps, composable
	secondFirst3 = 0xF0027 // begins with a second element, excluded
	twice        = 0xF0028 // the same code point twice: it composes with itself
	fourTimes    = 0xF0029 // begins with that
)

// notBoundaries are the code points of the sample that are no boundaries, written out by hand.
var notBoundaries = []struct{ from, to int }{
	{'b', 'b'}, {'d', 'd'}, {'f', 'f'}, {'l', 'l'},
	{0x300, 0x30A}, {0x323, 0x324}, {0x334, 0x334}, {0x340, 0x340}, {0x344, 0x344}, {0x345, 0x345},
	{0x93C, 0x93C}, {0x9BE, 0x9BE},
	{0x1161, 0x1175}, {0x11A7, 0x11A7}, {0x11A8, 0x11C2},
	{markOf0, fourTimes},
}

// isBoundary reports whether a number is a boundary of the sample.
func isBoundary(c int) bool {
	if c < 0 || c > api.MaxRune || c >= 0xD800 && c <= 0xDFFF {
		return false
	}
	for _, s := range notBoundaries {
		if c >= s.from && c <= s.to {
			return false
		}
	}
	return true
}

// decomps are the decompositions of the sample.
func decomps() mappings {
	return mappings{
		mapping(0xC5, 'A', ring230), mapping(0xE8, 'e', grave230), mapping(0xE9, 'e', acute230), mapping(0xEA, 'e', hat230),
		mapping(0x340, grave230), mapping(0x344, diaer230, acute230), mapping(0x374, 0x2B9), mapping(0x3AC, 0x3B1, acute230),
		mapping(0x958, 0x915, nukta7), mapping(0x9CB, 0x9C7, 0x9BE), mapping(afterTrailing, 'k', 'l'),
		mapping(0x1EB9, 'e', below220), mapping(0x1EBF, 0xEA, acute230), mapping(0x1EC7, 0x1EB9, hat230),
		mapping(0x1FB3, 0x3B1, iota240), mapping(0x1FB4, 0x3AC, iota240), mapping(0x2126, 0x3A9), mapping(0x212B, 0xC5),
		mapping(nearlyHangul, 'w', acute230), mapping(afterHangul, 'w', grave230),
		mapping(twoLetters, 'c', 'b'), mapping(threeLetters, twoLetters, 'b'), mapping(markOnLetters, threeLetters, below220),
		mapping(withZeroTrail, 'k', 0x11A7), mapping(twinOf220, 'e', acute230), mapping(excludedPair, 'g', 'h'),
		mapping(singlePair, 'a', 0x2126), mapping(onExcluded, 0x958, 'j'), mapping(onTwin, twinOf220, 'q'),
		mapping(markOf0, below220), mapping(markFirst, below220, 'a'), mapping(markFirst2, markFirst, 'a'),
		mapping(marksOf0, below220, acute230), mapping(secondAlone, 'b'), mapping(secondFirst, 'b', diaer230),
		mapping(secondFirst2, secondFirst, hat230), mapping(secondFirst3, 'b', ring230), mapping(twice, 'd', 'd'),
		mapping(fourTimes, twice, 'f'), mapping(0x10FFFE, 0x10FFFF, iota240),
	}
}

// sample returns well-formed tables, which also say much that has nothing to do with normalization.
func sample() api.Tables {
	return api.Tables{
		Category: spans{{From: 0xC0, To: 0xFF, Value: api.Letter}, {From: 0x300, To: 0x36F, Value: api.Mark}},
		Class: spans{
			{From: 0x300, To: 0x30A, Value: 230}, {From: 0x323, To: 0x324, Value: 220}, {From: 0x334, To: 0x334, Value: 1},
			{From: 0x340, To: 0x340, Value: 230}, {From: 0x344, To: 0x344, Value: 230}, {From: 0x345, To: 0x345, Value: 240},
			{From: 0x93C, To: 0x93C, Value: 7}, {From: twinOf220, To: twinOf220, Value: 220},
		},
		Joining:    spans{{From: 0x300, To: 0x36F, Value: api.Transparent}},
		Bidi:       spans{{From: 0x300, To: 0x36F, Value: api.BidiNSM}},
		Script:     spans{{From: 0x300, To: 0x36F, Value: api.Inherited}},
		Status:     spans{{From: 0xAD, To: 0xAD, Value: api.Ignored}, {From: 0xC9, To: 0xC9, Value: api.Mapped}, {From: 0xE0, To: 0xFF, Value: api.Valid}},
		Ignorable:  spans{{From: 0xAD, To: 0xAD, Value: 1}, {From: 0x200B, To: 0x200F, Value: 1}},
		Extensions: mappings{mapping(0xB7, api.Latin, api.Greek)},
		Maps:       mappings{mapping(0xC9, 0xE9)},
		Decomps:    decomps(),
		Excluded:   []int{0x958, 0x212B, excludedPair, secondFirst3},
		Prototypes: mappings{mapping('m', 'r', 'n'), mapping(0x430, 'a')},
	}
}

// violating returns tables that violate a rule of chapter 4, and none before it.
func violating(rule int) api.Tables {
	t := sample()
	switch rule {
	case 1:
		t.Class = nil
		for i := range api.MaxRows + 1 {
			t.Class = append(t.Class, api.Span{From: 0xE0000 + i, To: 0xE0000 + i, Value: 230})
		}
	case 2:
		t.Decomps = slices.Insert(t.Decomps, 0, mapping('a', 'b'))
	case 3:
		t.Class[0].Value = 255
	case 4:
		t.Decomps[0].To = nil
	case 5:
		t.Maps = nil
	case 6:
		t.Decomps = mappings{mapping(0xE8, 0xE9), mapping(0xE9, 0xE8)}
		t.Excluded = nil
	case 7:
		t.Excluded = []int{0x959}
	case 8:
		t.Decomps = append(t.Decomps, mapping(api.MaxRune, 'e', acute230))
	case 9:
		t.Prototypes[0].To[0] = 0xE9
	}
	return t
}

// The number of the last rule, and the greatest number of code points that a stream may hold.
const (
	lastRule = 9
	mostHeld = 32
)

// notScalar are numbers that are no scalar values.
var notScalar = []int{
	0xD800, 0xD801, 0xDBFF, 0xDC00, 0xDFFE, 0xDFFF, api.MaxRune + 1, api.MaxRune + 2, 0x110000 + 'a', 0x110000 + acute230,
	-1, -2, -'a', -acute230, -0x1161, 'a' + 1<<32, acute230 + 1<<32, acute230 - 1<<32, 0x1161 + 1<<32, math.MaxInt32, math.MinInt32,
	math.MaxInt, math.MinInt, math.MinInt + 'a', math.MinInt + acute230,
}

// repeat returns c as often as count says.
func repeat(c, count int) []int { return slices.Repeat([]int{c}, count) }

// join returns lists one after the other.
func join(lists ...[]int) []int { return slices.Concat(lists...) }

// newStream returns a stream that must exist.
func newStream(t *testing.T, tables api.Tables, most int) *stream.Stream {
	t.Helper()
	s, e := stream.New(tables, most)
	if s == nil || e != api.OK {
		t.Fatalf("New with most %d: %v, %d", most, s, e)
	}
	return s
}

// wantBoundary compares the answer of Boundary.
func wantBoundary(t *testing.T, name string, tables api.Tables, c int, want bool) {
	t.Helper()
	if got := stream.Boundary(tables, c); got != want {
		t.Errorf("%s: Boundary(%#x) = %t", name, c, got)
	}
}

// wantPush compares the results of one Push, and of Held after it.
func wantPush(t *testing.T, name string, s *stream.Stream, c int, want []int, held int) {
	t.Helper()
	if got, e := s.Push(c); !slices.Equal(got, want) || e != api.OK {
		t.Errorf("%s: Push(%#x) = %#x, %d, want %#x", name, c, got, e, want)
	}
	wantHeld(t, name, s, held)
}

// wantPushes pushes code points that are held, and compares that nothing is returned.
func wantPushes(t *testing.T, name string, s *stream.Stream, l ...int) {
	t.Helper()
	before := s.Held()
	for i, c := range l {
		wantPush(t, name, s, c, nil, before+i+1)
	}
}

// wantRefused compares the results of one Push with an error, and that the stream holds as much as before.
func wantRefused(t *testing.T, name string, s *stream.Stream, c int, want api.Errno) {
	t.Helper()
	before := s.Held()
	if got, e := s.Push(c); len(got) != 0 || e != want {
		t.Errorf("%s: Push(%#x) = %#x, %d, want none, %d", name, c, got, e, want)
	}
	wantHeld(t, name, s, before)
}

// wantEnd compares the result of End, and that nothing is held after it.
func wantEnd(t *testing.T, name string, s *stream.Stream, want ...int) {
	t.Helper()
	if got := s.End(); !slices.Equal(got, want) {
		t.Errorf("%s: End = %#x, want %#x", name, got, want)
	}
	wantHeld(t, name, s, 0)
}

// wantHeld compares the number of code points that are held.
func wantHeld(t *testing.T, name string, s *stream.Stream, want int) {
	t.Helper()
	if got := s.Held(); got != want {
		t.Errorf("%s: Held = %d, want %d", name, got, want)
	}
}

func TestTablesOfTheTests(t *testing.T) {
	if rule := table.Check(sample()); rule != 0 {
		t.Errorf("Check = %d", rule)
	}
	for rule := 1; rule <= lastRule; rule++ {
		if got := table.Check(violating(rule)); got != rule {
			t.Errorf("Check of the tables that violate rule %d = %d", rule, got)
		}
	}
	// What the names of the code points say is so.
	for _, c := range []int{'b', 'd', 'f', 'l', 0x9BE, 0x11A7, diaer230, ring230, below220, acute230} {
		if !compose.Second(sample(), c) {
			t.Errorf("Second(%#x) = false", c)
		}
	}
	for _, c := range []int{cover1, nukta7, below220b, lonelyMark, 'h', 'j', 'q', 0x3A9} {
		if compose.Second(sample(), c) {
			t.Errorf("Second(%#x) = true", c)
		}
	}
	if got := decompose.One(sample(), secondFirst2); !slices.Equal(got, []int{'b', diaer230, hat230}) {
		t.Errorf("One = %#x", got)
	}
}
