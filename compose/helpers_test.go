package compose_test

import (
	"slices"
	"testing"

	"namedesk/api"
	"namedesk/compose"
	"namedesk/decompose"
	"namedesk/table"
)

type (
	spans    = []api.Span
	mappings = []api.Mapping
)

// mapping keeps the tables of the tests short.
func mapping(from int, to ...int) api.Mapping { return api.Mapping{From: from, To: to} }

// The marks of the sample; their names end with the class.
const (
	cover1    = 0x334
	nukta7    = 0x93C
	virama9   = 0xDCA
	below220  = 0x323
	below220b = 0x324
	grave230  = 0x300
	acute230  = 0x301
	hat230    = 0x302
	dot230    = 0x307
	diaer230  = 0x308
	ring230   = 0x30A
	iota240   = 0x345
)

// The code points of the sample whose decompositions are not as usual. These ones are composable.
const (
	twoLetters    = 0xF0000 // both elements have class 0
	threeLetters  = 0xF0001 // the second element follows another one of class 0
	twice         = 0xF0002 // the same code point twice
	fourTimes     = 0xF0003 // the first element is the same code point twice; the second one has class 0
	letterOnMark  = 0xF0004 // a second element of class 0 behind a mark
	markOnLetter  = 0xF0005 // a lesser mark than before, but behind a second element of class 0
	secondFirst   = 0xF0006 // the first element is a second one elsewhere
	secondFirst2  = 0xF0007 // the first element of the full decomposition is
	nearlyHangul  = 0xABFF  // the code point before the first Hangul syllable
	afterHangul   = 0xD7A4  // the code point after the last one
	withZeroTrail = 0xF0008 // the second element is the code point before the first trailing consonant
	afterTrailing = 0x11C3  // the code point after the last trailing consonant
)

// These ones are not composable, or not all of their decomposition.
const (
	excludedTwin = 0xF0020 // has the elements of a composable one, but is excluded
	twinOf220    = 0xF0021 // has the elements of a composable one, but a class
	aMarks       = 0xF0022 // the second element has a decomposition
	markBeforeA  = 0xF0023 // the first element has a class
	lesserMark   = 0xF0024 // the second mark has a class below that of the first one
	onExcluded   = 0xF0025 // the first element is excluded
	onOne        = 0xF0026 // the decomposition of the first element has one element
	onLesser     = 0xF0027 // the first element is not composable; the second one has class 0
	onOnExcluded = 0xF0028 // the first element of the first one is excluded
	onOf220      = 0xF0029 // the first element has a class
	secondAlone  = 0xF002A // one element, which is a second one elsewhere
	markOf0      = 0xF002B // has no class, its decomposition has one
	onlyExcluded = 0xF002C // the only one with its second element, excluded
	excludedTop  = 0xF002D // excluded, the first element is composable
	marksOf0     = 0xF002E // no class, both elements have one
	lonelyMark   = 0x305   // the second element of onlyExcluded
)

// classes are the classes of the sample, written out a second time: the expected results are computed
// with these.
var classes = map[int]int{
	cover1: 1, nukta7: 7, virama9: 9, below220: 220, below220b: 220, grave230: 230, acute230: 230, hat230: 230, 0x303: 230,
	0x304: 230, lonelyMark: 230, 0x306: 230, dot230: 230, diaer230: 230, 0x309: 230, ring230: 230, 0x340: 230, 0x344: 230,
	iota240: 240, twinOf220: 220,
}

// wholes are the compositions of the sample: the code points with a composable decomposition, by its
// two elements.
var wholes = map[[2]int]int{
	{'A', ring230}:           0xC5,
	{'e', grave230}:          0xE8,
	{'e', acute230}:          0xE9,
	{'e', hat230}:            0xEA,
	{0x3B1, acute230}:        0x3AC,
	{0x9C7, 0x9BE}:           0x9CB,
	{0xDD9, 0xDCF}:           0xDDC,
	{0xDDC, virama9}:         0xDDD,
	{'s', dot230}:            0x1E61,
	{'s', below220}:          0x1E63,
	{0x1E63, dot230}:         0x1E69,
	{'e', below220}:          0x1EB9,
	{0xEA, acute230}:         0x1EBF,
	{0x1EB9, hat230}:         0x1EC7,
	{0x3B1, iota240}:         0x1FB3,
	{0x3AC, iota240}:         0x1FB4,
	{'w', acute230}:          nearlyHangul,
	{'w', grave230}:          afterHangul,
	{'c', 'b'}:               twoLetters,
	{twoLetters, 'b'}:        threeLetters,
	{'d', 'd'}:               twice,
	{twice, 'f'}:             fourTimes,
	{0xE9, 'b'}:              letterOnMark,
	{letterOnMark, below220}: markOnLetter,
	{'b', dot230}:            secondFirst,
	{secondFirst, hat230}:    secondFirst2,
	{'k', 0x11A7}:            withZeroTrail,
	{'k', 'l'}:               afterTrailing,
	{0x10FFFF, iota240}:      0x10FFFE,
}

// fulls are the full decompositions of all code points of the sample that have a decomposition in it.
var fulls = map[int][]int{
	0xC5:          {'A', ring230},
	0xE8:          {'e', grave230},
	0xE9:          {'e', acute230},
	0xEA:          {'e', hat230},
	0x340:         {grave230},
	0x344:         {diaer230, acute230},
	0x374:         {0x2B9},
	0x3AC:         {0x3B1, acute230},
	0x958:         {0x915, nukta7},
	0x9CB:         {0x9C7, 0x9BE},
	0xDDC:         {0xDD9, 0xDCF},
	0xDDD:         {0xDD9, 0xDCF, virama9},
	afterTrailing: {'k', 'l'},
	0x1E61:        {'s', dot230},
	0x1E63:        {'s', below220},
	0x1E69:        {'s', below220, dot230},
	0x1EB9:        {'e', below220},
	0x1EBF:        {'e', hat230, acute230},
	0x1EC7:        {'e', below220, hat230},
	0x1FB3:        {0x3B1, iota240},
	0x1FB4:        {0x3B1, acute230, iota240},
	0x2126:        {0x3A9},
	0x212B:        {'A', ring230},
	nearlyHangul:  {'w', acute230},
	afterHangul:   {'w', grave230},
	twoLetters:    {'c', 'b'},
	threeLetters:  {'c', 'b', 'b'},
	twice:         {'d', 'd'},
	fourTimes:     {'d', 'd', 'f'},
	letterOnMark:  {'e', acute230, 'b'},
	markOnLetter:  {'e', acute230, 'b', below220},
	secondFirst:   {'b', dot230},
	secondFirst2:  {'b', dot230, hat230},
	withZeroTrail: {'k', 0x11A7},
	excludedTwin:  {'e', acute230},
	twinOf220:     {'e', acute230},
	aMarks:        {'a', grave230},
	markBeforeA:   {below220, 'a'},
	lesserMark:    {'e', acute230, below220},
	onExcluded:    {0x915, nukta7, acute230},
	onOne:         {0x3A9, acute230},
	onLesser:      {'e', acute230, below220, 'b'},
	onOnExcluded:  {0x915, nukta7, acute230, acute230},
	onOf220:       {'e', acute230, acute230},
	secondAlone:   {'b'},
	markOf0:       {below220},
	onlyExcluded:  {'g', lonelyMark},
	excludedTop:   {'s', below220, iota240},
	marksOf0:      {below220, acute230},
	0x10FFFE:      {0x10FFFF, iota240},
}

// decomps are the decompositions of the sample.
func decomps() mappings {
	return mappings{
		mapping(0xC5, 'A', ring230), mapping(0xE8, 'e', grave230), mapping(0xE9, 'e', acute230), mapping(0xEA, 'e', hat230),
		mapping(0x340, grave230), mapping(0x344, diaer230, acute230), mapping(0x374, 0x2B9), mapping(0x3AC, 0x3B1, acute230),
		mapping(0x958, 0x915, nukta7), mapping(0x9CB, 0x9C7, 0x9BE), mapping(0xDDC, 0xDD9, 0xDCF), mapping(0xDDD, 0xDDC, virama9),
		mapping(afterTrailing, 'k', 'l'),
		mapping(0x1E61, 's', dot230), mapping(0x1E63, 's', below220), mapping(0x1E69, 0x1E63, dot230),
		mapping(0x1EB9, 'e', below220), mapping(0x1EBF, 0xEA, acute230), mapping(0x1EC7, 0x1EB9, hat230),
		mapping(0x1FB3, 0x3B1, iota240), mapping(0x1FB4, 0x3AC, iota240), mapping(0x2126, 0x3A9), mapping(0x212B, 0xC5),
		mapping(nearlyHangul, 'w', acute230), mapping(afterHangul, 'w', grave230),
		mapping(twoLetters, 'c', 'b'), mapping(threeLetters, twoLetters, 'b'), mapping(twice, 'd', 'd'), mapping(fourTimes, twice, 'f'),
		mapping(letterOnMark, 0xE9, 'b'), mapping(markOnLetter, letterOnMark, below220),
		mapping(secondFirst, 'b', dot230), mapping(secondFirst2, secondFirst, hat230), mapping(withZeroTrail, 'k', 0x11A7),
		mapping(excludedTwin, 'e', acute230), mapping(twinOf220, 'e', acute230), mapping(aMarks, 'a', 0x340),
		mapping(markBeforeA, below220, 'a'), mapping(lesserMark, 0xE9, below220), mapping(onExcluded, 0x958, acute230),
		mapping(onOne, 0x2126, acute230), mapping(onLesser, lesserMark, 'b'), mapping(onOnExcluded, onExcluded, acute230),
		mapping(onOf220, twinOf220, acute230), mapping(secondAlone, 'b'), mapping(markOf0, below220),
		mapping(onlyExcluded, 'g', lonelyMark), mapping(excludedTop, 0x1E63, iota240), mapping(marksOf0, below220, acute230),
		mapping(0x10FFFE, 0x10FFFF, iota240),
	}
}

// sample returns well-formed tables, which also say much that has nothing to do with compositions.
func sample() api.Tables {
	return api.Tables{
		Category: spans{{From: 0xC0, To: 0xFF, Value: api.Letter}, {From: 0x300, To: 0x36F, Value: api.Mark}},
		Class: spans{
			{From: 0x300, To: 0x30A, Value: 230}, {From: 0x323, To: 0x324, Value: 220}, {From: 0x334, To: 0x334, Value: 1},
			{From: 0x340, To: 0x340, Value: 230}, {From: 0x344, To: 0x344, Value: 230}, {From: 0x345, To: 0x345, Value: 240},
			{From: 0x93C, To: 0x93C, Value: 7}, {From: virama9, To: virama9, Value: 9}, {From: twinOf220, To: twinOf220, Value: 220},
		},
		Joining:    spans{{From: 0x300, To: 0x36F, Value: api.Transparent}},
		Bidi:       spans{{From: 0x300, To: 0x36F, Value: api.BidiNSM}},
		Script:     spans{{From: 0x300, To: 0x36F, Value: api.Inherited}},
		Status:     spans{{From: 0xAD, To: 0xAD, Value: api.Ignored}, {From: 0xC9, To: 0xC9, Value: api.Mapped}, {From: 0xE0, To: 0xFF, Value: api.Valid}},
		Ignorable:  spans{{From: 0xAD, To: 0xAD, Value: 1}, {From: 0x200B, To: 0x200F, Value: 1}},
		Extensions: mappings{mapping(0xB7, api.Latin, api.Greek)},
		Maps:       mappings{mapping(0xC9, 0xE9)},
		Decomps:    decomps(),
		Excluded:   []int{0x958, 0x212B, excludedTwin, onlyExcluded, excludedTop},
		Prototypes: mappings{mapping('m', 'r', 'n'), mapping(0x430, 'a')},
	}
}

// violating returns tables that violate a rule of chapter 4, and none before it.
func violating(rule int) api.Tables {
	t := sample()
	switch rule {
	case 1:
		t.Class = nil
		for i := range api.MaxRows + 1 {
			t.Class = append(t.Class, api.Span{From: 0xE0000 + i, To: 0xE0000 + i, Value: 230})
		}
	case 2:
		t.Decomps = slices.Insert(t.Decomps, 0, mapping('a', 'b'))
	case 3:
		t.Class[0].Value = 255
	case 4:
		t.Decomps[0].To = nil
	case 5:
		t.Maps = nil
	case 6:
		t.Decomps = mappings{mapping(0xE8, 0xE9), mapping(0xE9, 0xE8)}
		t.Excluded = nil
	case 7:
		t.Excluded = []int{0x959}
	case 8:
		t.Decomps = append(t.Decomps, mapping(api.MaxRune, 'e', acute230))
	case 9:
		t.Prototypes[0].To[0] = 0xE9
	}
	return t
}

// endless returns tables whose decompositions lead back to each other, and grow.
func endless() api.Tables {
	return api.Tables{Decomps: mappings{mapping(0xE8, 0xE9, 'a'), mapping(0xE9, 0xE8, 'b')}}
}

// isHangul reports whether c is a Hangul syllable.
func isHangul(c int) bool { return c >= 0xAC00 && c <= 0xD7A3 }

// jamoOf returns the jamo of a Hangul syllable, counted down from the syllable as chapter 5 counts it up.
func jamoOf(c int) []int {
	n := c - 0xAC00
	l := []int{0x1100 + n/(21*28), 0x1161 + n/28%21}
	if n%28 != 0 {
		l = append(l, 0x11A7+n%28)
	}
	return l
}

// pairsOfHangul are the compositions of Hangul: those of which jamoOf is the decomposition.
var pairsOfHangul = func() map[[2]int]int {
	pairs := map[[2]int]int{}
	for c := 0xAC00; c <= 0xD7A3; c++ {
		switch jamo := jamoOf(c); len(jamo) {
		case 2:
			pairs[[2]int(jamo)] = c
		case 3:
			pairs[[2]int{pairs[[2]int(jamo[:2])], jamo[2]}] = c
		}
	}
	return pairs
}()

// wholeOf returns the composition of two code points in the sample, and whether there is one.
func wholeOf(a, b int) (int, bool) {
	c, found := wholes[[2]int{a, b}]
	if !found {
		c, found = pairsOfHangul[[2]int{a, b}]
	}
	return c, found
}

// fullOf returns the full decomposition of a scalar value in the sample.
func fullOf(c int) []int {
	if full, found := fulls[c]; found {
		return full
	}
	if isHangul(c) {
		return jamoOf(c)
	}
	return []int{c}
}

// classOf returns the class that the sample gives to c.
func classOf(c int) int { return classes[c] }

// repeat returns c as often as count says.
func repeat(c, count int) []int { return slices.Repeat([]int{c}, count) }

// join returns lists one after the other.
func join(lists ...[]int) []int { return slices.Concat(lists...) }

// wantPair compares the composition of a and b. The want 0 stands for none.
func wantPair(t *testing.T, name string, tables api.Tables, a, b, want int) {
	t.Helper()
	if got, found := compose.Pair(tables, a, b); got != want || found != (want != 0) {
		t.Errorf("%s: Pair(%#x, %#x) = %#x, %t, want %#x", name, a, b, got, found, want)
	}
}

// wantNFC compares the results for a list without an error, and those for its NFD and its NFC.
func wantNFC(t *testing.T, name string, tables api.Tables, l, want []int) {
	t.Helper()
	if got, e := compose.NFC(tables, l); !slices.Equal(got, want) || e != api.OK {
		t.Errorf("%s: NFC(%#x) = %#x, %d, want %#x", name, l, got, e, want)
	}
	normal := slices.Equal(l, want)
	if got := compose.IsNFC(tables, l); got != normal {
		t.Errorf("%s: IsNFC(%#x) = %t", name, l, got)
	}
	if got := compose.Quick(tables, l); got == api.Yes && !normal || got == api.No && normal {
		t.Errorf("%s: Quick(%#x) = %d, but IsNFC is %t", name, l, got, normal)
	}
	if got, e := compose.NFC(tables, want); !slices.Equal(got, want) || e != api.OK || !compose.IsNFC(tables, want) {
		t.Errorf("%s: NFC(%#x) = %#x, %d, want the same", name, want, got, e)
	}
	nfd, _ := decompose.NFD(tables, l)
	if got, e := compose.NFC(tables, nfd); !slices.Equal(got, want) || e != api.OK {
		t.Errorf("%s: NFC(%#x) = %#x, %d, want %#x", name, nfd, got, e, want)
	}
	if got, e := decompose.NFD(tables, want); !slices.Equal(got, nfd) || e != api.OK {
		t.Errorf("%s: NFD(%#x) = %#x, %d, want %#x", name, want, got, e, nfd)
	}
}

// wantQuick compares the answer of the quick check.
func wantQuick(t *testing.T, name string, tables api.Tables, l []int, want int) {
	t.Helper()
	if got := compose.Quick(tables, l); got != want {
		t.Errorf("%s: Quick(%#x) = %d, want %d", name, l, got, want)
	}
}

// wantError compares the results of NFC and IsNFC for a list with an error.
func wantError(t *testing.T, name string, tables api.Tables, l []int, want api.Errno) {
	t.Helper()
	if got, e := compose.NFC(tables, l); len(got) != 0 || e != want {
		t.Errorf("%s: NFC = %d elements, %d, want none, %d", name, len(got), e, want)
	}
	if compose.IsNFC(tables, l) {
		t.Errorf("%s: IsNFC = true", name)
	}
}

// wantRefused compares the results of all functions for a list that is not acceptable, or with tables
// that are not well-formed.
func wantRefused(t *testing.T, name string, tables api.Tables, l []int, want api.Errno) {
	t.Helper()
	wantError(t, name, tables, l, want)
	if got := compose.Quick(tables, l); got != api.No {
		t.Errorf("%s: Quick = %d", name, got)
	}
}

func TestTablesOfTheTests(t *testing.T) {
	tables := sample()
	if rule := table.Check(tables); rule != 0 {
		t.Errorf("Check = %d", rule)
	}
	for rule := 1; rule <= 9; rule++ {
		if got := table.Check(violating(rule)); got != rule {
			t.Errorf("Check of the tables that violate rule %d = %d", rule, got)
		}
	}
	if rule := table.Check(endless()); rule != 6 {
		t.Errorf("Check of the endless tables = %d", rule)
	}
	for c := range api.MaxRune + 1 {
		if got := table.Class(tables, c); got != classOf(c) {
			t.Errorf("Class(%#x) = %d, want %d", c, got, classOf(c))
		}
	}
	if len(fulls) != len(tables.Decomps) || len(pairsOfHangul) != 11172 {
		t.Errorf("%d full decompositions, %d decompositions, %d pairs", len(fulls), len(tables.Decomps), len(pairsOfHangul))
	}
	for _, m := range tables.Decomps {
		if got := decompose.One(tables, m.From); !slices.Equal(got, fulls[m.From]) {
			t.Errorf("the full decomposition of %#x is %#x, want %#x", m.From, got, fulls[m.From])
		}
	}
	for pair, c := range wholes {
		if got := table.Decomp(tables, c); !slices.Equal(got, pair[:]) {
			t.Errorf("the decomposition of %#x is %#x, want %#x", c, got, pair)
		}
	}
}
