package decompose_test

import (
	"slices"
	"testing"

	"namedesk/api"
	"namedesk/decompose"
	"namedesk/table"
)

type (
	spans    = []api.Span
	mappings = []api.Mapping
)

// mapping keeps the tables of the tests short.
func mapping(from int, to ...int) api.Mapping { return api.Mapping{From: from, To: to} }

// The marks of the sample; their names end with the class.
const (
	cover1    = 0x334
	nukta7    = 0x93C
	below220  = 0x323
	below220b = 0x324
	grave230  = 0x300
	acute230  = 0x301
	hat230    = 0x302
	dot230    = 0x307
	diaer230  = 0x308
	ring230   = 0x30A
	iota240   = 0x345
)

// The code points of the sample whose decompositions are not as usual.
const (
	eAndE        = 0xF0010 // both elements have a decomposition
	aMarks       = 0xF0011 // the second element has one
	unordered    = 0xF0012 // the full decomposition is not in order
	markBeforeA  = 0xF0013 // begins with a mark
	eBeforeMark  = 0xF0014 // a mark follows a mark inside
	threeSteps   = 0xF0015 // one code point each time, and then two
	letterOf220  = 0xF0016 // has a class, its decomposition has none
	markOf0      = 0xF0017 // has no class, its decomposition has one
	twoLetters   = 0xF0018 // has no mark at all
	twice        = 0xF0019 // the same code point twice
	nearlyHangul = 0xABFF  // the code point before the first Hangul syllable
	afterHangul  = 0xD7A4
	beforeTrail  = 0x11A7 // the code point before the first trailing consonant
)

// classes are the classes of the sample, written out a second time: the expected results are computed
// with these.
var classes = map[int]int{
	cover1: 1, nukta7: 7, below220: 220, below220b: 220, grave230: 230, acute230: 230, hat230: 230, 0x303: 230, 0x304: 230,
	0x305: 230, 0x306: 230, dot230: 230, diaer230: 230, 0x309: 230, ring230: 230, 0x340: 230, 0x344: 230, iota240: 240,
	letterOf220: 220,
}

// fulls are the full decompositions of all code points of the sample that have a decomposition in it.
var fulls = map[int][]int{
	0x80:         {'x', 'y'},
	0xC5:         {'A', ring230},
	0xE8:         {'e', grave230},
	0xE9:         {'e', acute230},
	0xEA:         {'e', hat230},
	0x340:        {grave230},
	0x344:        {diaer230, acute230},
	0x374:        {0x2B9},
	0x958:        {0x915, nukta7},
	0x10FF:       {'u'},
	0x1113:       {'v'},
	beforeTrail:  {'z'},
	0x1E63:       {'s', below220},
	0x1E69:       {'s', below220, dot230},
	0x1EB9:       {'e', below220},
	0x1EBF:       {'e', hat230, acute230},
	0x1EC7:       {'e', below220, hat230},
	0x2126:       {0x3A9},
	0x212B:       {'A', ring230},
	nearlyHangul: {'w'},
	afterHangul:  {'w', acute230},
	0xD7FF:       {0x5D0, 0x5D1},
	0xE000:       {0x5D1},
	eAndE:        {'e', acute230, 'e', grave230},
	aMarks:       {'a', diaer230, acute230},
	unordered:    {acute230, below220},
	markBeforeA:  {below220, 'a'},
	eBeforeMark:  {'e', acute230, below220, 'a'},
	threeSteps:   {'e', acute230, below220, 'a'},
	letterOf220:  {'b'},
	markOf0:      {below220},
	twoLetters:   {'c', 'b'},
	twice:        {'s', below220, dot230, 's', below220, dot230},
	0xF0020:      {'e', acute230, below220, 'a'},
	0x10FFFE:     {0x10FFFF, iota240},
}

// sample returns well-formed tables, which also say much that has nothing to do with decompositions.
func sample() api.Tables {
	return api.Tables{
		Category: spans{{From: 0xC0, To: 0xFF, Value: api.Letter}, {From: 0x300, To: 0x36F, Value: api.Mark}},
		Class: spans{
			{From: 0x300, To: 0x30A, Value: 230}, {From: 0x323, To: 0x324, Value: 220}, {From: 0x334, To: 0x334, Value: 1},
			{From: 0x340, To: 0x340, Value: 230}, {From: 0x344, To: 0x344, Value: 230}, {From: 0x345, To: 0x345, Value: 240},
			{From: 0x93C, To: 0x93C, Value: 7}, {From: letterOf220, To: letterOf220, Value: 220},
		},
		Joining:    spans{{From: 0x300, To: 0x36F, Value: api.Transparent}},
		Bidi:       spans{{From: 0x300, To: 0x36F, Value: api.BidiNSM}},
		Script:     spans{{From: 0x300, To: 0x36F, Value: api.Inherited}},
		Status:     spans{{From: 0xAD, To: 0xAD, Value: api.Ignored}, {From: 0xC9, To: 0xC9, Value: api.Mapped}, {From: 0xE0, To: 0xFF, Value: api.Valid}},
		Ignorable:  spans{{From: 0xAD, To: 0xAD, Value: 1}, {From: 0x200B, To: 0x200F, Value: 1}},
		Extensions: mappings{mapping(0xB7, api.Latin, api.Greek)},
		Maps:       mappings{mapping(0xC9, 0xE9)},
		Decomps: mappings{
			mapping(0x80, 'x', 'y'), mapping(0xC5, 'A', ring230), mapping(0xE8, 'e', grave230), mapping(0xE9, 'e', acute230),
			mapping(0xEA, 'e', hat230), mapping(0x340, grave230), mapping(0x344, diaer230, acute230), mapping(0x374, 0x2B9),
			mapping(0x958, 0x915, nukta7), mapping(0x10FF, 'u'), mapping(0x1113, 'v'), mapping(beforeTrail, 'z'),
			mapping(0x1E63, 's', below220), mapping(0x1E69, 0x1E63, dot230), mapping(0x1EB9, 'e', below220),
			mapping(0x1EBF, 0xEA, acute230), mapping(0x1EC7, 0x1EB9, hat230), mapping(0x2126, 0x3A9), mapping(0x212B, 0xC5),
			mapping(nearlyHangul, 'w'), mapping(afterHangul, 'w', acute230), mapping(0xD7FF, 0x5D0, 0xE000), mapping(0xE000, 0x5D1),
			mapping(eAndE, 0xE9, 0xE8), mapping(aMarks, 'a', 0x344), mapping(unordered, acute230, below220),
			mapping(markBeforeA, below220, 'a'), mapping(eBeforeMark, 0xE9, markBeforeA), mapping(threeSteps, 0xF0020),
			mapping(letterOf220, 'b'), mapping(markOf0, below220), mapping(twoLetters, 'c', 'b'), mapping(twice, 0x1E69, 0x1E69),
			mapping(0xF0020, eBeforeMark), mapping(0x10FFFE, 0x10FFFF, iota240),
		},
		Excluded:   []int{0x958, 0x212B},
		Prototypes: mappings{mapping('m', 'r', 'n'), mapping(0x430, 'a')},
	}
}

// violating returns tables that violate a rule of chapter 4, and none before it.
func violating(rule int) api.Tables {
	t := sample()
	switch rule {
	case 1:
		t.Class = nil
		for i := range api.MaxRows + 1 {
			t.Class = append(t.Class, api.Span{From: 0xE0000 + i, To: 0xE0000 + i, Value: 230})
		}
	case 2:
		t.Decomps = slices.Insert(t.Decomps, 0, mapping('a', 'b'))
	case 3:
		t.Class[0].Value = 255
	case 4:
		t.Decomps[0].To = nil
	case 5:
		t.Maps = nil
	case 6:
		t.Decomps = mappings{mapping(0xE8, 0xE9), mapping(0xE9, 0xE8)}
		t.Excluded = nil
	case 7:
		t.Excluded = []int{0x959}
	case 8:
		t.Decomps = append(t.Decomps, mapping(api.MaxRune, 'e', acute230))
	case 9:
		t.Prototypes[0].To[0] = 0xE9
	}
	return t
}

// endless returns tables whose decompositions lead back to each other, and grow.
func endless() api.Tables {
	return api.Tables{Decomps: mappings{mapping(0xE8, 0xE9, 'a'), mapping(0xE9, 'b', 0xE8)}}
}

// isHangul reports whether c is a Hangul syllable.
func isHangul(c int) bool { return c >= 0xAC00 && c <= 0xD7A3 }

// jamoOf returns the jamo of a Hangul syllable, counted down from the syllable as chapter 5 counts it up.
func jamoOf(c int) []int {
	n := c - 0xAC00
	l := []int{0x1100 + n/(21*28), 0x1161 + n/28%21}
	if n%28 != 0 {
		l = append(l, 0x11A7+n%28)
	}
	return l
}

// fullOf returns the full decomposition of a scalar value in the sample.
func fullOf(c int) []int {
	if full, found := fulls[c]; found {
		return full
	}
	if isHangul(c) {
		return jamoOf(c)
	}
	return []int{c}
}

// classOf returns the class that the sample gives to c.
func classOf(c int) int { return classes[c] }

// repeat returns c as often as count says.
func repeat(c, count int) []int { return slices.Repeat([]int{c}, count) }

// wantOne compares the full decomposition of c.
func wantOne(t *testing.T, name string, tables api.Tables, c int, want ...int) {
	t.Helper()
	if got := decompose.One(tables, c); !slices.Equal(got, want) {
		t.Errorf("%s: One(%#x) = %#x, want %#x", name, c, got, want)
	}
}

// wantNFD compares the results of all functions for a list without an error.
func wantNFD(t *testing.T, name string, tables api.Tables, l, want []int) {
	t.Helper()
	if got, e := decompose.NFD(tables, l); !slices.Equal(got, want) || e != api.OK {
		t.Errorf("%s: NFD(%#x) = %#x, %d, want %#x", name, l, got, e, want)
	}
	if got := decompose.IsNFD(tables, l); got != slices.Equal(l, want) {
		t.Errorf("%s: IsNFD(%#x) = %t", name, l, got)
	}
	if got, e := decompose.NFD(tables, want); !slices.Equal(got, want) || e != api.OK || !decompose.IsNFD(tables, want) {
		t.Errorf("%s: NFD(%#x) = %#x, %d, want the same", name, want, got, e)
	}
	wantEquivalent(t, name, tables, l, want, true)
}

// wantEquivalent compares the result of Equivalent, for both orders of its lists.
func wantEquivalent(t *testing.T, name string, tables api.Tables, a, b []int, want bool) {
	t.Helper()
	if got, e := decompose.Equivalent(tables, a, b); got != want || e != api.OK {
		t.Errorf("%s: Equivalent(%#x, %#x) = %t, %d, want %t", name, a, b, got, e, want)
	}
	if got, e := decompose.Equivalent(tables, b, a); got != want || e != api.OK {
		t.Errorf("%s: Equivalent(%#x, %#x) = %t, %d, want %t", name, b, a, got, e, want)
	}
}

// wantError compares the results of all functions for a list with an error.
func wantError(t *testing.T, name string, tables api.Tables, l []int, want api.Errno) {
	t.Helper()
	if got, e := decompose.NFD(tables, l); len(got) != 0 || e != want {
		t.Errorf("%s: NFD = %d elements, %d, want none, %d", name, len(got), e, want)
	}
	if decompose.IsNFD(tables, l) {
		t.Errorf("%s: IsNFD = true", name)
	}
	for _, pair := range [][2][]int{{l, {'a'}}, {{'a'}, l}, {l, nil}, {nil, l}, {l, l}} {
		if got, e := decompose.Equivalent(tables, pair[0], pair[1]); got || e != want {
			t.Errorf("%s: Equivalent = %t, %d, want false, %d", name, got, e, want)
		}
	}
}

func TestTablesOfTheTests(t *testing.T) {
	tables := sample()
	if rule := table.Check(tables); rule != 0 {
		t.Errorf("Check = %d", rule)
	}
	for rule := 1; rule <= 9; rule++ {
		if got := table.Check(violating(rule)); got != rule {
			t.Errorf("Check of the tables that violate rule %d = %d", rule, got)
		}
	}
	if rule := table.Check(endless()); rule != 6 {
		t.Errorf("Check of the endless tables = %d", rule)
	}
	for c := range api.MaxRune + 1 {
		if got := table.Class(tables, c); got != classOf(c) {
			t.Errorf("Class(%#x) = %d, want %d", c, got, classOf(c))
		}
	}
	if len(fulls) != len(tables.Decomps) {
		t.Errorf("%d full decompositions, %d decompositions", len(fulls), len(tables.Decomps))
	}
	for _, m := range tables.Decomps {
		if fulls[m.From] == nil {
			t.Errorf("the full decomposition of %#x is missing", m.From)
		}
	}
}
