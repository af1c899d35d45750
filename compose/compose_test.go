package compose_test

import (
	"math"
	"slices"
	"testing"

	"namedesk/api"
	"namedesk/compose"
)

// notScalar are numbers that are no scalar values.
var notScalar = []int{
	0xD800, 0xD801, 0xDBFF, 0xDC00, 0xDFFE, 0xDFFF, api.MaxRune + 1, api.MaxRune + 2, 0x110000 + 0xE9, 0x110000 + 0x1161,
	-1, -2, -0xE9, -0x1161, 0xE9 + 1<<32, acute230 - 1<<32, 0x1161 + 1<<32, math.MaxInt32, math.MinInt32,
	math.MaxInt, math.MinInt, math.MinInt + 0xE9, math.MinInt + 0x1161,
}

func TestPairOfWholes(t *testing.T) {
	for pair, c := range wholes {
		wantPair(t, "sample", sample(), pair[0], pair[1], c)
		wantPair(t, "no tables", api.Tables{}, pair[0], pair[1], 0)
		if pair[0] != pair[1] {
			wantPair(t, "exchanged", sample(), pair[1], pair[0], 0)
		}
	}
}

func TestPairOfNothing(t *testing.T) {
	for _, row := range []struct {
		name string
		a, b int
	}{
		{"letters", 'a', 'b'},
		{"a letter and a mark that does not belong to it", 'a', iota240},
		{"a mark and a letter", acute230, 'e'},
		{"marks", acute230, acute230},
		{"the elements of a decomposition of two marks", diaer230, acute230},
		{"excluded", 0x915, nukta7},
		{"excluded, on top of a composable one", 0x1E63, iota240},
		{"the second element has a decomposition", 'a', 0x340},
		{"the full decomposition of that", 'a', grave230},
		{"the first element has a class", below220, 'a'},
		{"both elements have a class", below220, acute230},
		{"the second mark has a lesser class", 0xE9, below220},
		{"the first element is excluded", 0x958, acute230},
		{"the first element of the first one is excluded", onExcluded, acute230},
		{"the first element has a decomposition of one element", 0x2126, acute230},
		{"the first element is not composable, the second one has class 0", lesserMark, 'b'},
		{"the first element has a class, and the decomposition of a composable one", twinOf220, acute230},
		{"one element", 0x2B9, 0},
		{"one element, which is composable", 0xC5, 0},
		{"zeros", 0, 0},
		{"a letter of a composable one and another mark", 'e', iota240},
		{"the first element of one and the second of another", 'k', 'f'},
	} {
		wantPair(t, row.name, sample(), row.a, row.b, 0)
	}
}

// Each of the code points alone makes a decomposition composable or not.
func TestPairOfEachReason(t *testing.T) {
	const from, first, mark = 0xF0010, 0xF0000, 0xE0000
	class := func(c, value int) spans { return spans{{From: c, To: c, Value: value}} }
	pair := mapping(from, first, mark)
	for _, row := range []struct {
		name   string
		tables api.Tables
		want   int
	}{
		{"no class at all", api.Tables{Decomps: mappings{pair}}, from},
		{"a mark", api.Tables{Decomps: mappings{pair}, Class: class(mark, 1)}, from},
		{"the greatest class", api.Tables{Decomps: mappings{pair}, Class: class(mark, 254)}, from},
		{"a class of the first element", api.Tables{Decomps: mappings{pair}, Class: class(first, 1)}, 0},
		{"the greatest class of the first element", api.Tables{Decomps: mappings{pair}, Class: class(first, 254)}, 0},
		{"a class of the whole", api.Tables{Decomps: mappings{pair}, Class: class(from, 1)}, 0},
		{"excluded", api.Tables{Decomps: mappings{pair}, Excluded: []int{from}}, 0},
		{"another one is excluded", api.Tables{Decomps: mappings{pair, mapping(from+1, 'a', 'b')}, Excluded: []int{from + 1}}, from},
		{"a second element with a decomposition of one", api.Tables{Decomps: mappings{mapping(mark, 'a'), pair}}, 0},
		{"a second element with a decomposition of two", api.Tables{Decomps: mappings{mapping(mark, 'a', 'b'), pair}}, 0},
		{"a first element with a decomposition of one", api.Tables{Decomps: mappings{mapping(first, 'a'), pair}}, 0},
		{"a first element with a decomposition of two", api.Tables{Decomps: mappings{mapping(first, 'a', 'b'), pair}}, from},
		{"a first element that is excluded", api.Tables{Decomps: mappings{mapping(first, 'a', 'b'), pair}, Excluded: []int{first}}, 0},
	} {
		wantPair(t, row.name, row.tables, first, mark, row.want)
		if got := compose.Second(row.tables, mark); got != (row.want != 0) {
			t.Errorf("%s: Second = %t", row.name, got)
		}
		nfc, e := compose.NFC(row.tables, []int{from})
		if slices.Equal(nfc, []int{from}) != (row.want != 0) || e != api.OK {
			t.Errorf("%s: NFC = %#x, %d", row.name, nfc, e)
		}
		if quick := compose.Quick(row.tables, []int{from}); quick == api.No != (row.want == 0) {
			t.Errorf("%s: Quick = %d", row.name, quick)
		}
	}
}

// Every two classes of the marks of a code point and of the first element of its decomposition.
func TestPairOfClasses(t *testing.T) {
	for _, lower := range []int{0, 1, 2, 9, 219, 220, 221, 253, 254} {
		for _, upper := range []int{0, 1, 2, 9, 219, 220, 221, 253, 254} {
			tables := api.Tables{Decomps: mappings{mapping(0xF0000, 'a', 0xE0000), mapping(0xF0001, 0xF0000, 0xE0001)}}
			for i, value := range []int{lower, upper} {
				if value != 0 {
					tables.Class = append(tables.Class, api.Span{From: 0xE0000 + i, To: 0xE0000 + i, Value: value})
				}
			}
			want := 0
			if upper == 0 || upper >= lower {
				want = 0xF0001
			}
			wantPair(t, "lower", tables, 'a', 0xE0000, 0xF0000)
			wantPair(t, "upper", tables, 0xF0000, 0xE0001, want)
			if want != 0 {
				wantNFC(t, "composable", tables, []int{0xF0001}, []int{0xF0001})
			} else {
				// The marks change places, and what was first comes after the other one.
				wantNFC(t, "not composable", tables, []int{0xF0001}, []int{0xF0000, 0xE0001})
				wantQuick(t, "not composable", tables, []int{0xF0001}, api.No)
			}
		}
	}
}

// The code points of the same two elements are found apart, in whatever order the tables have them.
func TestPairOfTwins(t *testing.T) {
	for composable := range 5 {
		var tables api.Tables
		for i := range 5 {
			tables.Decomps = append(tables.Decomps, mapping(0xF0000+i, 'e', acute230))
			if i != composable {
				tables.Excluded = append(tables.Excluded, 0xF0000+i)
			}
		}
		wantPair(t, "twins", tables, 'e', acute230, 0xF0000+composable)
		wantNFC(t, "twins", tables, []int{0xF0000, 0xF0001, 0xF0002, 0xF0003, 0xF0004}, repeat(0xF0000+composable, 5))
	}
}

func TestPairOfHangul(t *testing.T) {
	for _, tables := range []api.Tables{{}, sample()} {
		for _, row := range []struct {
			name       string
			a, b, want int
		}{
			{"the first consonant and the first vowel", 0x1100, 0x1161, 0xAC00},
			{"the first consonant and the last vowel", 0x1100, 0x1175, 0xAE30},
			{"the last consonant and the first vowel", 0x1112, 0x1161, 0xD558},
			{"the last consonant and the last vowel", 0x1112, 0x1175, 0xD788},
			{"the first syllable and the first trailing consonant", 0xAC00, 0x11A8, 0xAC01},
			{"the first syllable and the last trailing consonant", 0xAC00, 0x11C2, 0xAC1B},
			{"the last syllable and the first trailing consonant", 0xD788, 0x11A8, 0xD789},
			{"the last syllable and the last trailing consonant", 0xD788, 0x11C2, 0xD7A3},
			{"in the middle", 0xD558, 0x11AB, 0xD55C},
			{"a consonant and a trailing consonant", 0x1100, 0x11A8, 0},
			{"a vowel and a trailing consonant", 0x1161, 0x11A8, 0},
			{"a vowel and a consonant", 0x1161, 0x1100, 0},
			{"two consonants", 0x1100, 0x1100, 0},
			{"two vowels", 0x1161, 0x1161, 0},
			{"two trailing consonants", 0x11A8, 0x11A8, 0},
			{"a syllable and a vowel", 0xAC00, 0x1161, 0},
			{"a syllable and a consonant", 0xAC00, 0x1100, 0},
			{"a consonant and a syllable", 0x1100, 0xAC00, 0},
			{"two syllables", 0xAC00, 0xAC00, 0},
			{"a syllable that has a trailing consonant already", 0xAC01, 0x11A8, 0},
			{"the last syllable of all", 0xD7A3, 0x11A8, 0},
			{"before the first trailing consonant", 0xAC00, 0x11A7, 0},
			{"behind the last trailing consonant", 0xAC00, afterTrailing, 0},
			{"behind the last consonant", 0x1113, 0x1161, 0},
			{"before the first consonant", 0x10FF, 0x1161, 0},
			{"before the first vowel", 0x1100, 0x1160, 0},
			{"behind the last vowel", 0x1100, 0x1176, 0},
			{"before the first syllable", nearlyHangul, 0x11A8, 0},
			{"behind the last syllable", afterHangul, 0x11A8, 0},
			{"a letter and a vowel", 'e', 0x1161, 0},
			{"a syllable and a mark", 0xAC00, acute230, 0},
		} {
			wantPair(t, row.name, tables, row.a, row.b, row.want)
		}
	}
}

// everyPart returns what has to do with Hangul, or begins or ends something in the sample.
func everyPart() []int {
	var l []int
	for _, bounds := range [][2]int{{0x10FF, 0x1113}, {0x1160, 0x1176}, {0x11A7, 0x11C3}} {
		for c := bounds[0]; c <= bounds[1]; c++ {
			l = append(l, c)
		}
	}
	for c := range classes {
		l = append(l, c)
	}
	for c, full := range fulls {
		l = append(append(l, c), full...)
	}
	for _, c := range []int{0, 'a', 0xAC00, 0xAC01, 0xAC1B, 0xAC1C, 0xD788, 0xD7A3} {
		l = append(l, c)
	}
	slices.Sort(l)
	return slices.Compact(l)
}

func TestEveryPair(t *testing.T) {
	// Pair looks at the tables each time, and most of the sample has nothing to do with it.
	tables := api.Tables{Class: sample().Class, Decomps: sample().Decomps, Excluded: sample().Excluded}
	parts, count := everyPart(), 0
	for _, a := range parts {
		for _, b := range parts {
			want, found := wholeOf(a, b)
			if found {
				count++
			}
			wantPair(t, "every pair", tables, a, b, want)
		}
	}
	// All of the consonants, vowels, trailing consonants and some of the syllables were looked at.
	if want := len(wholes) + 19*21 + 3*27; count != want {
		t.Errorf("%d pairs have a composition, want %d", count, want)
	}
}

func TestPairOfNoScalarValue(t *testing.T) {
	for _, c := range notScalar {
		for _, tables := range []api.Tables{{}, sample(), violating(2), violating(6)} {
			for _, other := range []int{'a', 'e', acute230, 0x1100, 0x1161, 0xAC00, 0x11A8, c} {
				wantPair(t, "not a scalar value", tables, c, other, 0)
				wantPair(t, "not a scalar value", tables, other, c, 0)
			}
		}
	}
}

func TestPairWithBadTables(t *testing.T) {
	for rule := 1; rule <= 9; rule++ {
		for pair := range wholes {
			wantPair(t, "not well-formed", violating(rule), pair[0], pair[1], 0)
		}
		wantPair(t, "not well-formed", violating(rule), 0x1100, 0x1161, 0)
		wantPair(t, "not well-formed", violating(rule), 0xAC00, 0x11A8, 0)
	}
	wantPair(t, "endless", endless(), 0xE9, 'a', 0)
	wantPair(t, "endless", endless(), 0xE8, 'b', 0)
	wantPair(t, "endless", endless(), 0x1100, 0x1161, 0)
}

// isSecondOf reports whether c is a second element of a composition of the sample.
func isSecondOf(c int) bool {
	for pair := range wholes {
		if pair[1] == c {
			return true
		}
	}
	return c >= 0x1161 && c <= 0x1175 || c >= 0x11A8 && c <= 0x11C2
}

// Every number from below 0 to above the jamo is looked at once, and all that have to do with the sample.
func TestSecond(t *testing.T) {
	tables := api.Tables{Class: sample().Class, Decomps: sample().Decomps, Excluded: sample().Excluded}
	numbers := everyPart()
	for c := -0x100; c <= 0x1200; c++ {
		numbers = append(numbers, c)
	}
	for _, c := range numbers {
		if got := compose.Second(tables, c); got != isSecondOf(c) {
			t.Errorf("Second(%#x) = %t", c, got)
		}
	}
	for _, c := range []int{acute230, grave230, below220, iota240, virama9, 0x9BE, 0xDCF, 'b', 'd', 'f', 'l', 0x11A7} {
		if !compose.Second(sample(), c) || compose.Second(api.Tables{}, c) {
			t.Errorf("Second(%#x) = %t, without tables %t", c, compose.Second(sample(), c), compose.Second(api.Tables{}, c))
		}
	}
	for _, c := range []int{'e', 0xE9, 0x1EB9, 'c', 'k', 0x340, 'a', nukta7, lonelyMark, below220b, 0, 0x1100, 0x1112, 0xAC00, 0xAC01, twice} {
		if compose.Second(sample(), c) {
			t.Errorf("Second(%#x) = true", c)
		}
	}
	for _, c := range []int{0x1161, 0x1175, 0x11A8, 0x11C2} {
		if !compose.Second(api.Tables{}, c) || !compose.Second(sample(), c) {
			t.Errorf("Second(%#x) = false", c)
		}
	}
}

func TestSecondOfOthers(t *testing.T) {
	for _, c := range notScalar {
		if compose.Second(sample(), c) || compose.Second(api.Tables{}, c) {
			t.Errorf("Second(%#x) = true", c)
		}
	}
	for rule := 1; rule <= 9; rule++ {
		for _, c := range []int{acute230, 'b', 'd', 0x1161, 0x11A8, 0x11C2, -1, 'a'} {
			if compose.Second(violating(rule), c) {
				t.Errorf("rule %d: Second(%#x) = true", rule, c)
			}
		}
	}
	if compose.Second(endless(), 'a') || compose.Second(endless(), 0x1161) {
		t.Error("endless: Second = true")
	}
}

func TestSamples(t *testing.T) {
	for _, row := range []struct {
		name    string
		l, want []int
	}{
		{"nil", nil, nil},
		{"no elements", []int{}, nil},
		{"example of the chapter", []int{'e', acute230}, []int{0xE9}},
		{"composed already", []int{0xE9}, []int{0xE9}},
		{"a letter", []int{'a'}, []int{'a'}},
		{"letters", []int{'b', 'a', 'c', 'a'}, []int{'b', 'a', 'c', 'a'}},
		{"a mark", []int{acute230}, []int{acute230}},
		{"marks", []int{below220, acute230, iota240}, []int{below220, acute230, iota240}},
		{"between letters", []int{'x', 'e', acute230, 'y', 'e', grave230, 'z'}, []int{'x', 0xE9, 'y', 0xE8, 'z'}},
		{"next to each other", []int{'e', acute230, 'e', grave230}, []int{0xE9, 0xE8}},
		{"no composition", []int{'a', acute230}, []int{'a', acute230}},
		{"prototypes and maps are something else", []int{'m', 'r', 'n', 0x430, 0xC9}, []int{'m', 'r', 'n', 0x430, 0xC9}},

		{"composed before", []int{'e', below220, hat230}, []int{0x1EC7}},
		{"composed before, out of order", []int{'e', hat230, below220}, []int{0x1EC7}},
		{"a mark comes between a letter and its mark", []int{0xEA, below220}, []int{0x1EC7}},
		{"composed before, marks of the same class", []int{'e', hat230, acute230}, []int{0x1EBF}},
		{"another order of the same class", []int{'e', acute230, hat230}, []int{0xE9, hat230}},
		{"composed before, of three classes", []int{0x3B1, iota240, acute230}, []int{0x1FB4}},
		{"composed before, the second one is not composable", []int{0xE9, below220}, []int{0x1EB9, acute230}},
		{"no composition with what was composed before", []int{'e', acute230, iota240}, []int{0xE9, iota240}},

		{"not blocked by a lesser class", []int{'e', cover1, acute230}, []int{0xE9, cover1}},
		{"not blocked by two lesser classes", []int{'e', cover1, nukta7, acute230}, []int{0xE9, cover1, nukta7}},
		{"not blocked, after one that composed", []int{'e', cover1, below220, below220b, hat230}, []int{0x1EC7, cover1, below220b}},
		{"the second of the same class is blocked", []int{'e', ring230, acute230}, []int{'e', ring230, acute230}},
		{"the second of the same class, below", []int{'e', below220b, below220}, []int{'e', below220b, below220}},
		{"blocked below, but not above", []int{'e', below220b, below220, hat230}, []int{0xEA, below220b, below220}},
		{"the first of the same class is not", []int{'e', acute230, ring230}, []int{0xE9, ring230}},
		{"not blocked by one that composed", []int{'s', below220, dot230, diaer230}, []int{0x1E69, diaer230}},
		{"blocked by the same mark", []int{'a', acute230, acute230}, []int{'a', acute230, acute230}},
		{"composed, and the same mark again", []int{'e', acute230, acute230}, []int{0xE9, acute230}},
		{"a greater class behind", []int{0x3B1, iota240, cover1}, []int{0x1FB3, cover1}},
		{"blocked by a letter", []int{'e', 'x', acute230}, []int{'e', 'x', acute230}},
		{"blocked by a letter that was not composed", []int{'e', 'e', acute230}, []int{'e', 0xE9}},
		{"a letter blocked by a mark", []int{'c', acute230, 'b'}, []int{'c', acute230, 'b'}},
		{"a letter blocked by the least mark", []int{'c', cover1, 'b'}, []int{'c', cover1, 'b'}},
		{"a letter blocked behind one that composed", []int{'e', cover1, acute230, 'b'}, []int{0xE9, cover1, 'b'}},
		{"a letter blocked by a letter", []int{'c', 'x', 'b'}, []int{'c', 'x', 'b'}},

		{"no class 0 in front", []int{acute230, 'e', acute230}, []int{acute230, 0xE9}},
		{"marks that become marks, in front", []int{0x344, 'e', acute230}, []int{diaer230, acute230, 0xE9}},
		{"a second element in front", []int{'b', acute230}, []int{'b', acute230}},
		{"a trailing consonant in front", []int{0x11A8, 0x1100, 0x1161}, []int{0x11A8, 0xAC00}},

		{"directly behind another one", []int{'c', 'b'}, []int{twoLetters}},
		{"directly behind another one, in another script", []int{0x9C7, 0x9BE}, []int{0x9CB}},
		{"directly behind one that was composed", []int{'c', 'b', 'b'}, []int{threeLetters}},
		{"behind one that does not compose any further", []int{'c', 'b', 'b', 'b'}, []int{threeLetters, 'b'}},
		{"a mark behind it", []int{0xDD9, 0xDCF, virama9}, []int{0xDDD}},
		{"a mark between them", []int{0xDD9, virama9, 0xDCF}, []int{0xDD9, virama9, 0xDCF}},
		{"the same code point twice", []int{'d', 'd'}, []int{twice}},
		{"three times", []int{'d', 'd', 'd'}, []int{twice, 'd'}},
		{"four times", []int{'d', 'd', 'd', 'd'}, []int{twice, twice}},
		{"five times", []int{'d', 'd', 'd', 'd', 'd'}, []int{twice, twice, 'd'}},
		{"four times and a letter", []int{'d', 'd', 'd', 'd', 'f'}, []int{twice, fourTimes}},
		{"three times and a letter", []int{'d', 'd', 'd', 'f'}, []int{twice, 'd', 'f'}},
		{"one that was composed and one that was not", []int{twice, 'd', 'd'}, []int{twice, twice}},
		{"one that was not composed and one that was", []int{'d', twice}, []int{twice, 'd'}},
		{"a letter behind a mark that composed", []int{'e', acute230, 'b', below220}, []int{markOnLetter}},
		{"the mark goes before it", []int{'e', acute230, below220, 'b'}, []int{0x1EB9, acute230, 'b'}},
		{"what was composed is taken apart", []int{'c', secondFirst}, []int{twoLetters, dot230}},
		{"what was composed is taken apart twice", []int{'c', secondFirst2}, []int{twoLetters, dot230, hat230}},
		{"what was composed is taken apart behind a mark", []int{0xE9, secondFirst}, []int{letterOnMark, dot230}},

		{"one for one", []int{0x2126}, []int{0x3A9}},
		{"one for one that is composed", []int{0x212B}, []int{0xC5}},
		{"excluded", []int{0x958, 'a'}, []int{0x915, nukta7, 'a'}},
		{"excluded twin", []int{excludedTwin, twinOf220}, []int{0xE9, 0xE9}},
		{"excluded, half of it is composed", []int{excludedTop}, []int{0x1E63, iota240}},
		{"the second element is decomposed", []int{aMarks}, []int{'a', grave230}},
		{"the first element has a class", []int{'e', markBeforeA}, []int{0x1EB9, 'a'}},
		{"the lesser mark", []int{lesserMark}, []int{0x1EB9, acute230}},
		{"the lesser mark, and a letter", []int{onLesser}, []int{0x1EB9, acute230, 'b'}},
		{"marks on what is excluded", []int{onExcluded, onOnExcluded}, []int{0x915, nukta7, acute230, 0x915, nukta7, acute230, acute230}},
		{"on one of one element", []int{onOne}, []int{0x3A9, acute230}},
		{"on one with a class", []int{onOf220}, []int{0xE9, acute230}},
		{"one element that composes", []int{'c', secondAlone}, []int{twoLetters}},
		{"a mark that had no class", []int{'e', hat230, markOf0}, []int{0x1EC7}},
		{"two marks that had no class", []int{'s', marksOf0}, []int{0x1E63, acute230}},
		{"a mark for another one", []int{'e', 0x340}, []int{0xE8}},
		{"marks for one, the second one is blocked", []int{'e', 0x344}, []int{'e', diaer230, acute230}},

		{"a consonant and a vowel", []int{0x1100, 0x1161}, []int{0xAC00}},
		{"all three", []int{0x1100, 0x1161, 0x11A8}, []int{0xAC01}},
		{"a syllable and a trailing consonant", []int{0xAC00, 0x11A8}, []int{0xAC01}},
		{"a trailing consonant too many", []int{0xAC01, 0x11A8}, []int{0xAC01, 0x11A8}},
		{"two trailing consonants", []int{0x1100, 0x1161, 0x11A8, 0x11A8}, []int{0xAC01, 0x11A8}},
		{"two vowels", []int{0x1100, 0x1161, 0x1161}, []int{0xAC00, 0x1161}},
		{"a trailing consonant behind a vowel too many", []int{0x1100, 0x1161, 0x1161, 0x11A8}, []int{0xAC00, 0x1161, 0x11A8}},
		{"a consonant too many", []int{0x1100, 0x1100, 0x1161}, []int{0x1100, 0xAC00}},
		{"a consonant and a trailing consonant", []int{0x1100, 0x11A8}, []int{0x1100, 0x11A8}},
		{"jamo in another order", []int{0x11A8, 0x1161, 0x1100}, []int{0x11A8, 0x1161, 0x1100}},
		{"syllables", []int{0x1100, 0x1161, 0x1112, 0x1175, 0x11C2, 0xAC00, 0x11C2}, []int{0xAC00, 0xD7A3, 0xAC1B}},
		{"a vowel blocked by a mark", []int{0x1100, cover1, 0x1161}, []int{0x1100, cover1, 0x1161}},
		{"a trailing consonant blocked by a mark", []int{0x1100, 0x1161, acute230, 0x11A8}, []int{0xAC00, acute230, 0x11A8}},
		{"marks behind a syllable", []int{0x1100, 0x1161, 0x11A8, acute230, below220}, []int{0xAC01, below220, acute230}},
		{"a letter between jamo", []int{0x1100, 'a', 0x1161}, []int{0x1100, 'a', 0x1161}},
		{"beside Hangul", []int{'w', acute230, 'w', grave230, 'k', 0x11A7, 'k', 'l'}, []int{nearlyHangul, afterHangul, withZeroTrail, afterTrailing}},
		{"before the first trailing consonant", []int{0xAC00, 0x11A7}, []int{0xAC00, 0x11A7}},

		{"the first and the last code point", []int{0, 0x10FFFF, iota240, 0x10FFFF, iota240, cover1}, []int{0, 0x10FFFE, 0x10FFFE, cover1}},
	} {
		wantNFC(t, row.name, sample(), row.l, row.want)
	}
}

func TestEveryDecompositionAlone(t *testing.T) {
	composable := map[int]bool{}
	for _, c := range wholes {
		composable[c] = true
	}
	for c := range fulls {
		if got := compose.IsNFC(sample(), []int{c}); got != composable[c] {
			t.Errorf("IsNFC(%#x) = %t", c, got)
		}
		if got := compose.IsNFC(sample(), []int{'a', c, 'a'}); got != composable[c] {
			t.Errorf("IsNFC of %#x between letters = %t", c, got)
		}
		wantNFC(t, "alone", sample(), []int{c}, oracleNFC([]int{c}))
		wantNFC(t, "no tables", api.Tables{}, []int{c, c}, []int{c, c})
	}
}

func TestEverySyllable(t *testing.T) {
	for first := 0xAC00; first <= 0xD7A3; first += 588 {
		var jamo, syllables []int
		for c := first; c < first+588; c++ {
			jamo, syllables = append(jamo, jamoOf(c)...), append(syllables, c)
		}
		wantNFC(t, "jamo", api.Tables{}, jamo, syllables)
		wantNFC(t, "syllables", api.Tables{}, syllables, syllables)
		wantQuick(t, "jamo", api.Tables{}, jamo, api.Maybe)
		wantQuick(t, "syllables", api.Tables{}, syllables, api.Yes)
	}
}

// The result depends on the tables of this call, not on those of an earlier one.
func TestOtherTables(t *testing.T) {
	other := api.Tables{Decomps: mappings{mapping(0xE8, 'e', acute230), mapping(0xE9, 'e', 0x330)}}
	for range 3 {
		wantPair(t, "sample", sample(), 'e', acute230, 0xE9)
		wantPair(t, "other", other, 'e', acute230, 0xE8)
		wantNFC(t, "sample", sample(), []int{'e', acute230, 0xE8}, []int{0xE9, 0xE8})
		wantNFC(t, "other", other, []int{'e', acute230, 'e', 0x330}, []int{0xE8, 0xE9})
		wantRefused(t, "violating", violating(6), []int{'e', acute230}, api.ErrTable)
		wantQuick(t, "sample", sample(), []int{'e', 0x330}, api.Yes)
		wantQuick(t, "other", other, []int{'e', 0x330}, api.Maybe)
		if compose.Second(sample(), 0x330) || !compose.Second(other, 0x330) || compose.Second(other, grave230) {
			t.Error("Second")
		}
	}
}

func TestQuick(t *testing.T) {
	for _, row := range []struct {
		name string
		l    []int
		want int
	}{
		{"nil", nil, api.Yes},
		{"no elements", []int{}, api.Yes},
		{"a letter", []int{'a'}, api.Yes},
		{"letters that begin something", []int{'e', 'c', 's', 'k', 0x9C7, 0xDD9}, api.Yes},
		{"composable decompositions", []int{0xE9, 0x1EC7, 0x1FB4, 0xDDD, 0x9CB, threeLetters, markOnLetter}, api.Yes},
		{"syllables", []int{0xAC00, 0xAC01, 0xD7A3}, api.Yes},
		{"consonants", []int{0x1100, 0x1112}, api.Yes},
		{"what is beside jamo", []int{0x10FF, 0x1113, 0x1160, 0x1176, 0x11C3}, api.Yes},
		{"marks that compose with nothing, in order", []int{'e', cover1, nukta7, below220b, lonelyMark}, api.Yes},
		{"marks of the same class that compose with nothing", []int{'e', ring230 - 1, lonelyMark, ring230 - 1}, api.Yes},
		{"a mark without a letter", []int{cover1, 'a'}, api.Yes},

		{"a second element", []int{acute230}, api.Maybe},
		{"a second element that composes", []int{'e', acute230}, api.Maybe},
		{"a second element that composes with nothing here", []int{'x', acute230}, api.Maybe},
		{"a second element of class 0", []int{'b'}, api.Maybe},
		{"a second element of class 0 at the end", []int{'a', 'x', 'f'}, api.Maybe},
		{"a second element of class 0 at the beginning", []int{'d', 'x', 'a'}, api.Maybe},
		{"a vowel", []int{0x1161}, api.Maybe},
		{"the last vowel", []int{'a', 0x1175}, api.Maybe},
		{"a trailing consonant", []int{0x11A8}, api.Maybe},
		{"the last trailing consonant", []int{0xAC01, 0x11C2}, api.Maybe},
		{"before the first trailing consonant", []int{0x11A7}, api.Maybe},
		{"a decomposition that begins with a second element", []int{secondFirst}, api.Maybe},
		{"a decomposition of two steps that begins with one", []int{'a', secondFirst2, 'a'}, api.Maybe},
		{"two of the same", []int{twice}, api.Maybe},
		{"four of the same", []int{fourTimes}, api.Maybe},

		{"not in order", []int{'a', ring230, below220b}, api.No},
		{"not in order, without a letter", []int{ring230, cover1}, api.No},
		{"not in order, and a second element", []int{'e', acute230, below220}, api.No},
		{"not in order behind a letter of something", []int{0xE9, ring230, cover1, 'a'}, api.No},
		{"one element", []int{0x374}, api.No},
		{"one element that is composable", []int{0x212B}, api.No},
		{"excluded", []int{'a', 0x958}, api.No},
		{"excluded, on a composable one", []int{excludedTop}, api.No},
		{"excluded twin", []int{excludedTwin}, api.No},
		{"it has a class", []int{twinOf220}, api.No},
		{"it and its elements have a class", []int{0x344}, api.No},
		{"the second element has a decomposition", []int{aMarks, 'a'}, api.No},
		{"the first element has a class", []int{markBeforeA}, api.No},
		{"the second mark is less", []int{lesserMark}, api.No},
		{"the first element is not composable", []int{onExcluded}, api.No},
		{"the first element of the first one is not composable", []int{onOnExcluded}, api.No},
		{"the first element has a decomposition of one element", []int{onOne}, api.No},
		{"the first element is not composable, the second one has class 0", []int{onLesser}, api.No},
		{"a second element before it", []int{'e', acute230, 0x958}, api.No},
		{"a second element behind it", []int{0x958, 'b', 'b'}, api.No},
		{"a decomposition to a second element", []int{secondAlone}, api.No},
		{"at the end of many", append(repeat('b', 1000), 0x2126), api.No},
		{"at the beginning of many", append([]int{0x2126}, repeat('b', 1000)...), api.No},
	} {
		wantQuick(t, row.name, sample(), row.l, row.want)
	}
}

func TestQuickWithoutTables(t *testing.T) {
	wantQuick(t, "all of them", api.Tables{}, []int{'e', acute230, 0x958, 0x2126, 0x344, below220, 'b', 0xAC01, 0x1100}, api.Yes)
	wantQuick(t, "a vowel", api.Tables{}, []int{'e', acute230, 0x1161}, api.Maybe)
}

// The answer does not depend on the length of what is not computed.
func TestQuickOfALongNFD(t *testing.T) {
	wantQuick(t, "composable", sample(), repeat(0xE9, api.MaxRunes), api.Yes)
	wantQuick(t, "syllables", sample(), repeat(0xAC01, api.MaxRunes), api.Yes)
	wantQuick(t, "a second element", sample(), append(repeat(0x1EC7, api.MaxRunes-1), acute230), api.Maybe)
	wantQuick(t, "excluded", sample(), append(repeat(0x1EC7, api.MaxRunes-1), excludedTwin), api.No)
}
