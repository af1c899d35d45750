package decompose_test

import (
	"math"
	"slices"
	"testing"

	"namedesk/api"
	"namedesk/decompose"
)

// notScalar are numbers that are no scalar values.
var notScalar = []int{
	0xD800, 0xD801, 0xDBFF, 0xDC00, 0xDFFE, 0xDFFF, api.MaxRune + 1, api.MaxRune + 2, 0x110000 + 0xE9, 0x110000 + 0xAC01,
	-1, -2, -0xE9, -0xAC01, 0xE9 + 1<<32, 0xE9 - 1<<32, 0xAC01 + 1<<32, math.MaxInt32, math.MinInt32,
	math.MaxInt, math.MinInt, math.MinInt + 0xE9, math.MinInt + 0xAC01,
}

func TestOneOfDecompositions(t *testing.T) {
	for c, want := range fulls {
		wantOne(t, "sample", sample(), c, want...)
	}
}

func TestOneWithoutDecomposition(t *testing.T) {
	for _, c := range []int{
		0, '-', '.', '1', 'A', 'a', 'e', 'm', 0x7F, 0x81, 0xAD, 0xB7, 0xC9, 0xE7, 0xEB, acute230, below220, iota240, 0x430, 0x915, 0x959,
		0x1100, 0x1112, 0x1161, 0x1175, 0x1176, 0x11A8, 0x11C2, 0x11C3, 0x1E62, api.ZWNJ, api.ZWJ, 0xABFE, 0xD7A5, 0xD7FE, 0xE001,
		0xFFFF, 0x10000, 0xF000F, 0xF001A, 0x10FFFD, api.MaxRune,
	} {
		wantOne(t, "sample", sample(), c, c)
		wantOne(t, "no tables", api.Tables{}, c, c)
	}
	for c := range fulls {
		wantOne(t, "no tables", api.Tables{}, c, c)
	}
}

func TestOneOfHangul(t *testing.T) {
	for _, tables := range []api.Tables{{}, sample()} {
		wantOne(t, "first syllable", tables, 0xAC00, 0x1100, 0x1161)
		wantOne(t, "first syllable with a trailing consonant", tables, 0xAC01, 0x1100, 0x1161, 0x11A8)
		wantOne(t, "last trailing consonant", tables, 0xAC1B, 0x1100, 0x1161, 0x11C2)
		wantOne(t, "second vowel", tables, 0xAC1C, 0x1100, 0x1162)
		wantOne(t, "last vowel", tables, 0xAE30, 0x1100, 0x1175)
		wantOne(t, "second leading consonant", tables, 0xAE4C, 0x1101, 0x1161)
		wantOne(t, "in the middle", tables, 0xD55C, 0x1112, 0x1161, 0x11AB)
		wantOne(t, "last one without a trailing consonant", tables, 0xD788, 0x1112, 0x1175)
		wantOne(t, "last syllable", tables, 0xD7A3, 0x1112, 0x1175, 0x11C2)
	}
}

// Every number from below 0 to above MaxRune is looked at once.
func TestOneOfEveryNumber(t *testing.T) {
	tables := api.Tables{Decomps: mappings{mapping(0xE9, 'e', acute230), mapping(0x212B, 0x2126), mapping(api.MaxRune, 0xE9, 0xE9)}}
	special := map[int][]int{0xE9: {'e', acute230}, 0x212B: {0x2126}, api.MaxRune: {'e', acute230, 'e', acute230}}
	for c := -0x1000; c < api.MaxRune+0x1000; c++ {
		want := []int{c}
		switch {
		case c < 0 || c >= 0xD800 && c <= 0xDFFF || c > api.MaxRune:
			want = nil
		case isHangul(c):
			want = jamoOf(c)
		case special[c] != nil:
			want = special[c]
		}
		if got := decompose.One(tables, c); !slices.Equal(got, want) {
			t.Fatalf("One(%#x) = %#x, want %#x", c, got, want)
		}
	}
}

func TestOneOfNoScalarValue(t *testing.T) {
	for _, c := range notScalar {
		wantOne(t, "sample", sample(), c)
		wantOne(t, "no tables", api.Tables{}, c)
		wantOne(t, "tables that are not well-formed", violating(2), c)
	}
}

func TestOneWithBadTables(t *testing.T) {
	for rule := 1; rule <= 9; rule++ {
		for _, c := range []int{0, 'a', 'e', 0x80, 0xE8, 0xE9, acute230, 0x1100, 0x212B, 0xAC00, 0xAC01, 0xD7A3, eAndE, api.MaxRune} {
			wantOne(t, "tables that are not well-formed", violating(rule), c)
		}
	}
	for _, c := range []int{0xE8, 0xE9, 'a', 0xAC00} {
		wantOne(t, "endless tables", endless(), c)
	}
}

// A decomposition that is excluded from composition is one all the same.
func TestOneOfExcluded(t *testing.T) {
	tables := api.Tables{Decomps: mappings{mapping(0xE9, 'e', acute230), mapping(0x2126, 0x3A9)}, Excluded: []int{0xE9, 0x2126}}
	wantOne(t, "two code points", tables, 0xE9, 'e', acute230)
	wantOne(t, "one code point", tables, 0x2126, 0x3A9)
	wantNFD(t, "both", tables, []int{0xE9, 0x2126}, []int{'e', acute230, 0x3A9})
}

// rows returns decompositions of consecutive code points from 0xF0000 on.
func rows(tos ...[]int) api.Tables {
	var t api.Tables
	for i, to := range tos {
		t.Decomps = append(t.Decomps, mapping(0xF0000+i, to...))
	}
	return t
}

// letters returns a, b, c and so on.
func letters(count int) []int {
	var l []int
	for i := range count {
		l = append(l, 'a'+i)
	}
	return l
}

// leftTables have a full decomposition of 18 elements, where each decomposition begins with another one.
func leftTables() (api.Tables, int) {
	tos := [][]int{{'a', 'b'}}
	for i := 1; i < api.MaxMap-1; i++ {
		tos = append(tos, []int{0xF0000 + i - 1, 'b' + i})
	}
	return rows(tos...), 0xF0000 + api.MaxMap - 2
}

// rightTables have a full decomposition of 18 elements, where each decomposition ends with another one.
func rightTables() (api.Tables, int) {
	var tos [][]int
	for i := range api.MaxMap - 2 {
		tos = append(tos, []int{'a' + i, 0xF0000 + i + 1})
	}
	return rows(append(tos, []int{'q', 'r'})...), 0xF0000
}

func TestOneOfMaxMap(t *testing.T) {
	for name, build := range map[string]func() (api.Tables, int){"left": leftTables, "right": rightTables} {
		tables, c := build()
		wantOne(t, name, tables, c, letters(api.MaxMap)...)
		wantNFD(t, name, tables, []int{c, c}, slices.Repeat(letters(api.MaxMap), 2))
	}
	doubling := rows([]int{'a', 'b'}, []int{0xF0000, 0xF0000}, []int{0xF0001, 0xF0001}, []int{0xF0002, 0xF0002}, []int{0xF0003, 0xF0000})
	wantOne(t, "doubling", doubling, 0xF0003, slices.Repeat([]int{'a', 'b'}, 8)...)
	wantOne(t, "doubling, and two more", doubling, 0xF0004, slices.Repeat([]int{'a', 'b'}, 9)...)
}

// Decompositions of one code point may follow each other as often as there are rows.
func TestOneOfManySteps(t *testing.T) {
	var down, up [][]int
	for i := range api.MaxRows {
		down = append(down, []int{0xF0000 + i - 1})
		up = append(up, []int{0xF0000 + i + 1})
	}
	down[0] = []int{'a', 'b'}
	for i := range api.MaxRows {
		wantOne(t, "down", rows(down...), 0xF0000+i, 'a', 'b')
		wantOne(t, "up", rows(up...), 0xF0000+i, 0xF0000+api.MaxRows)
	}
	wantNFD(t, "up, MaxRunes times", rows(up...), repeat(0xF0000, api.MaxRunes), repeat(0xF0000+api.MaxRows, api.MaxRunes))
}

func TestSamples(t *testing.T) {
	for _, row := range []struct {
		name    string
		l, want []int
	}{
		{"nil", nil, nil},
		{"no elements", []int{}, nil},
		{"example of the chapter", []int{0xE9}, []int{'e', acute230}},
		{"a letter", []int{'a'}, []int{'a'}},
		{"letters", []int{'b', 'a', 'b'}, []int{'b', 'a', 'b'}},
		{"a mark", []int{acute230}, []int{acute230}},
		{"a letter with a mark", []int{'e', acute230}, []int{'e', acute230}},
		{"one for one", []int{0x2126}, []int{0x3A9}},
		{"one for two, in two steps", []int{0x212B}, []int{'A', ring230}},
		{"one for three", []int{0x1EC7}, []int{'e', below220, hat230}},
		{"between letters", []int{'x', 0xE9, 'y', 0xE8, 'z'}, []int{'x', 'e', acute230, 'y', 'e', grave230, 'z'}},
		{"next to each other", []int{0xE9, 0xE8, 0xE9}, []int{'e', acute230, 'e', grave230, 'e', acute230}},
		{"excluded", []int{0x958, 'a'}, []int{0x915, nukta7, 'a'}},
		{"prototypes and maps are something else", []int{'m', 0x430, 'A', 0xC9, 0xAD}, []int{'m', 0x430, 'A', 0xC9, 0xAD}},

		{"out of order", []int{'a', acute230, below220}, []int{'a', below220, acute230}},
		{"equal classes stay", []int{'a', acute230, grave230, acute230}, []int{'a', acute230, grave230, acute230}},
		{"a mark that goes before that of a decomposition", []int{0xE9, below220}, []int{'e', below220, acute230}},
		{"a mark that stays behind that of a decomposition", []int{0x1EB9, acute230}, []int{'e', below220, acute230}},
		{"a mark of the same class behind a decomposition", []int{0xE9, grave230}, []int{'e', acute230, grave230}},
		{"a mark that goes between those of a decomposition", []int{0x1EC7, below220b}, []int{'e', below220, below220b, hat230}},
		{"a mark that goes before all", []int{0x1E69, cover1}, []int{'s', cover1, below220, dot230}},
		{"marks that become marks", []int{0x1EB9, 0x344, cover1}, []int{'e', cover1, below220, diaer230, acute230}},
		{"decompositions that change places", []int{'a', 0x344, markOf0, 0x340}, []int{'a', below220, diaer230, acute230, grave230}},
		{"a mark before a decomposition that begins with one", []int{'e', acute230, markBeforeA}, []int{'e', below220, acute230, 'a'}},
		{"two decompositions that meet", []int{0xE9, markBeforeA}, []int{'e', below220, acute230, 'a'}},
		{"a mark that goes before two decompositions", []int{0xE9, 0x340, markOf0}, []int{'e', below220, acute230, grave230}},
		{"no mark leaves its letter", []int{0xE9, 'b', below220, 0xE8, cover1}, []int{'e', acute230, 'b', below220, 'e', cover1, grave230}},
		{"a decomposition that is not in order", []int{unordered}, []int{below220, acute230}},
		{"decompositions that are not in order", []int{'a', unordered, unordered}, []int{'a', below220, below220, acute230, acute230}},
		{"not in order inside", []int{threeSteps, eBeforeMark}, []int{'e', below220, acute230, 'a', 'e', below220, acute230, 'a'}},

		// The class that counts is that of the decomposition.
		{"a letter that had a class", []int{acute230, letterOf220}, []int{acute230, 'b'}},
		{"a letter that had a class, between marks", []int{acute230, letterOf220, below220}, []int{acute230, 'b', below220}},
		{"a letter that had a class, before a mark", []int{letterOf220, acute230, cover1}, []int{'b', cover1, acute230}},
		{"a mark that had no class", []int{acute230, markOf0}, []int{below220, acute230}},
		{"a mark that had no class, between marks", []int{iota240, markOf0, cover1}, []int{cover1, below220, iota240}},

		{"a syllable", []int{0xAC00}, []int{0x1100, 0x1161}},
		{"a syllable with a trailing consonant", []int{0xAC01}, []int{0x1100, 0x1161, 0x11A8}},
		{"jamo", []int{0x1100, 0x1161, 0x11A8, 0x11A8, 0x1161, 0x1100}, []int{0x1100, 0x1161, 0x11A8, 0x11A8, 0x1161, 0x1100}},
		{"syllables", []int{0xAC00, 0xAC01, 0xD7A3}, []int{0x1100, 0x1161, 0x1100, 0x1161, 0x11A8, 0x1112, 0x1175, 0x11C2}},
		{"a syllable and a trailing consonant", []int{0xAC00, 0x11A8}, []int{0x1100, 0x1161, 0x11A8}},
		{"syllables with marks", []int{0xAC01, acute230, below220, 0xAC00, below220},
			[]int{0x1100, 0x1161, 0x11A8, below220, acute230, 0x1100, 0x1161, below220}},
		{"syllables and other decompositions", []int{0xE9, 0xAC00, 0xE8, 0x11A8}, []int{'e', acute230, 0x1100, 0x1161, 'e', grave230, 0x11A8}},
		{"beside syllables", []int{nearlyHangul, afterHangul, beforeTrail}, []int{'w', 'w', acute230, 'z'}},
		{"beside surrogates", []int{0xD7FF, 0xE000}, []int{0x5D0, 0x5D1, 0x5D1}},
		{"the first and the last code point", []int{0, 0x10FFFE, api.MaxRune}, []int{0, api.MaxRune, iota240, api.MaxRune}},
	} {
		wantNFD(t, row.name, sample(), row.l, row.want)
	}
}

func TestEveryDecompositionAlone(t *testing.T) {
	for c := range fulls {
		if decompose.IsNFD(sample(), []int{c}) || decompose.IsNFD(sample(), []int{'a', c, 'a'}) {
			t.Errorf("IsNFD of %#x", c)
		}
		wantNFD(t, "one", sample(), []int{c}, oracleOrder(fulls[c]))
		wantNFD(t, "no tables", api.Tables{}, []int{c, c}, []int{c, c})
	}
}

func TestEverySyllable(t *testing.T) {
	for first := 0xAC00; first <= 0xD7A3; first += 588 {
		var l, want []int
		for c := first; c < first+588; c++ {
			wantOne(t, "syllable", api.Tables{}, c, jamoOf(c)...)
			l, want = append(l, c), append(want, jamoOf(c)...)
		}
		wantNFD(t, "syllables", api.Tables{}, l, want)
	}
}

// The result depends on the tables of this call, not on those of an earlier one.
func TestOtherTables(t *testing.T) {
	other := api.Tables{
		Class:   spans{{From: below220, To: below220, Value: 2}, {From: 0x330, To: 0x330, Value: 1}},
		Decomps: mappings{mapping(0xE9, below220, 0x330)},
	}
	for range 3 {
		wantOne(t, "sample", sample(), 0xE9, 'e', acute230)
		wantOne(t, "other", other, 0xE9, below220, 0x330)
		wantNFD(t, "sample", sample(), []int{0xE8, 0xE9}, []int{'e', grave230, 'e', acute230})
		wantNFD(t, "other", other, []int{0xE8, 0xE9}, []int{0xE8, 0x330, below220})
		wantError(t, "violating", violating(6), []int{0xE8, 0xE9}, api.ErrTable)
		wantEquivalent(t, "sample", sample(), []int{0xE9}, []int{'e', acute230}, true)
		wantEquivalent(t, "other", other, []int{0xE9}, []int{'e', acute230}, false)
	}
}

func TestEquivalent(t *testing.T) {
	for _, row := range []struct {
		name string
		a, b []int
		want bool
	}{
		{"no elements", nil, []int{}, true},
		{"no elements and one", nil, []int{'a'}, false},
		{"the same letters", []int{'a', 'b'}, []int{'a', 'b'}, true},
		{"other letters", []int{'a', 'b'}, []int{'a', 'c'}, false},
		{"letters in another order", []int{'a', 'b'}, []int{'b', 'a'}, false},
		{"a beginning", []int{'a', 'b'}, []int{'a'}, false},
		{"an end", []int{'a', 'b'}, []int{'b'}, false},
		{"a beginning of a decomposition", []int{0xE9}, []int{'e'}, false},
		{"the same, neither of them in NFD", []int{0xE9, below220}, []int{0xE9, below220}, true},
		{"two decompositions of the same", []int{0xC5}, []int{0x212B}, true},
		{"two decompositions", []int{0xE9}, []int{0xE8}, false},
		{"three ways", []int{0x1EC7}, []int{0xEA, below220}, true},
		{"three ways in the end", []int{0x1EC7}, []int{'e', hat230, below220}, true},
		{"marks of the same class in another order", []int{'e', hat230, acute230}, []int{0xE9, hat230}, false},
		{"marks of the same class in the same order", []int{0x1EBF}, []int{0xEA, acute230}, true},
		{"marks of other classes in another order", []int{'a', iota240, below220, acute230}, []int{'a', acute230, iota240, below220}, true},
		{"marks at other letters", []int{0xE9, 'e'}, []int{'e', 0xE9}, false},
		{"a syllable and its jamo", []int{0xAC01}, []int{0x1100, 0x1161, 0x11A8}, true},
		{"a syllable and its parts", []int{0xAC01}, []int{0xAC00, 0x11A8}, true},
		{"two syllables", []int{0xAC01}, []int{0xAC02}, false},
		{"a syllable and less", []int{0xAC01}, []int{0xAC00}, false},
		{"what is only mapped", []int{0xC9}, []int{0xE9}, false},
		{"what only looks the same", []int{'m'}, []int{'r', 'n'}, false},
	} {
		wantEquivalent(t, row.name, sample(), row.a, row.b, row.want)
	}
}
