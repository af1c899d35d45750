package stream_test

import (
	"slices"
	"testing"

	"namedesk/api"
	"namedesk/stream"
)

func TestBoundary(t *testing.T) {
	for _, row := range []struct {
		name string
		c    int
		want bool
	}{
		{"zero", 0, true},
		{"a letter", 'a', true},
		{"a full stop", '.', true},
		{"a hyphen", '-', true},
		{"a digit", '0', true},
		{"the last code point of ASCII", 0x7F, true},
		{"a letter that begins something", 'e', true},
		{"a code point without any row", 0x3042, true},
		{"the last code point, which begins something", 0x10FFFF, true},
		{"before the surrogates", 0xD7FF, true},
		{"behind the surrogates", 0xE000, true},
		{"a code point that is Mapped", 0xC9, true},
		{"a code point that is ignorable", 0x200D, true},
		{"a prototype", 'm', true},
		{"a decomposition", 0xE9, true},
		{"a decomposition of three elements", 0x1EC7, true},
		{"a decomposition of one element", 0x374, true},
		{"a decomposition of one element after two steps", 0x212B, true},
		{"an excluded decomposition", 0x958, true},
		{"two letters", twoLetters, true},
		{"three letters", threeLetters, true},
		{"letters and a mark", markOnLetters, true},
		{"a class, but not what begins it", twinOf220, true},
		{"before the last code point", 0x10FFFE, true},

		{"a mark that composes", acute230, false},
		{"a mark that composes with nothing", lonelyMark, false},
		{"the least class", cover1, false},
		{"a mark of an excluded decomposition", nukta7, false},
		{"the greatest class", iota240, false},
		{"a mark for another one", 0x340, false},
		{"marks for one", 0x344, false},
		{"no class, but what takes its place has one", markOf0, false},
		{"no class, but the marks that take its place have one", marksOf0, false},
		{"a mark before a letter", markFirst, false},
		{"a mark before letters, after two steps", markFirst2, false},

		{"a second element of class 0", 'b', false},
		{"the same code point is the first and the second element", 'd', false},
		{"a second element behind one that is composed", 'f', false},
		{"a second element of class 0 of a script", 0x9BE, false},
		{"the second element beside Hangul", 'l', false},
		{"a second element takes its place", secondAlone, false},
		{"a second element begins it", secondFirst, false},
		{"a second element begins it after two steps", secondFirst2, false},
		{"a second element begins what is excluded", secondFirst3, false},
		{"it composes with itself", twice, false},
		{"what composes with itself begins it", fourTimes, false},

		{"the second element of what is excluded", 'h', true},
		{"the second element behind what is excluded", 'j', true},
		{"the second element behind what has a class", 'q', true},
		{"the second element has a decomposition", 0x2126, true},
		{"what takes the place of a second element", 0x3A9, true},
		{"the first element of a composition of class 0", 'c', true},
	} {
		wantBoundary(t, row.name, sample(), row.c, row.want)
		if isBoundary(row.c) != row.want {
			t.Errorf("%s: the list of the tests has %#x otherwise", row.name, row.c)
		}
	}
}

func TestBoundaryOfHangul(t *testing.T) {
	for _, row := range []struct {
		name string
		c    int
		want bool
	}{
		{"before the first leading consonant", 0x10FF, true},
		{"the first leading consonant", 0x1100, true},
		{"the last leading consonant", 0x1112, true},
		{"behind the last leading consonant", 0x1113, true},
		{"before the first vowel", 0x1160, true},
		{"the first vowel", 0x1161, false},
		{"the last vowel", 0x1175, false},
		{"behind the last vowel", 0x1176, true},
		{"the first trailing consonant", 0x11A8, false},
		{"the last trailing consonant", 0x11C2, false},
		{"behind the last trailing consonant", 0x11C3, true},
		{"before the first syllable", 0xABFF, true},
		{"the first syllable", 0xAC00, true},
		{"a syllable with a trailing consonant", 0xAC01, true},
		{"the last syllable without one", 0xD788, true},
		{"the last syllable", 0xD7A3, true},
		{"behind the last syllable", 0xD7A4, true},
	} {
		wantBoundary(t, row.name, sample(), row.c, row.want)
		wantBoundary(t, row.name+", no tables", api.Tables{}, row.c, row.want)
	}
	// That a second element is none is the only thing which the tables can say about these.
	wantBoundary(t, "before the first trailing consonant", sample(), 0x11A7, false)
	wantBoundary(t, "before the first trailing consonant, no tables", api.Tables{}, 0x11A7, true)
}

func TestBoundaryOfWhatIsNotScalar(t *testing.T) {
	for _, c := range notScalar {
		wantBoundary(t, "sample", sample(), c, false)
		wantBoundary(t, "no tables", api.Tables{}, c, false)
	}
}

func TestBoundaryWithTablesThatAreNotWellFormed(t *testing.T) {
	for rule := 1; rule <= lastRule; rule++ {
		for _, c := range []int{0, 'a', 'b', 'e', 0xE9, acute230, 0x374, 0x1100, 0x1161, 0x11A8, 0xAC00, 0xAC01, 0x3042, 0x10FFFF, 0xD800, -1} {
			wantBoundary(t, "violating", violating(rule), c, false)
		}
	}
	endless := api.Tables{Decomps: mappings{mapping(0xE8, 0xE9, 'a'), mapping(0xE9, 0xE8, 'b')}}
	for _, c := range []int{'a', 'x', 0xE8, 0xE9, 0xAC00} {
		wantBoundary(t, "endless", endless, c, false)
	}
}

// Every row of the sample, every number beside one, and every syllable.
func TestBoundaryOfTheSample(t *testing.T) {
	tables, points := sample(), []int{}
	for c := range 0x400 {
		points = append(points, c)
	}
	for c := 0x1100; c <= 0x1200; c++ {
		points = append(points, c)
	}
	for c := 0xAC00; c <= 0xD7A3; c += 27 {
		points = append(points, c)
	}
	for _, m := range tables.Decomps {
		for c := m.From - 1; c <= m.From+1; c++ {
			points = append(points, c)
		}
		for _, part := range m.To {
			points = append(points, part-1, part, part+1)
		}
	}
	for _, s := range tables.Class {
		points = append(points, s.From-1, s.From, s.To, s.To+1)
	}
	slices.Sort(points)
	for _, c := range slices.Compact(points) {
		wantBoundary(t, "sample", tables, c, isBoundary(c))
	}
}

// Without any rows, only Hangul vowels and trailing consonants compose with what is before them.
func TestBoundaryOfEveryNumber(t *testing.T) {
	for c := -0x1000; c <= api.MaxRune+0x1000; c++ {
		scalar := c >= 0 && c <= 0xD7FF || c >= 0xE000 && c <= 0x10FFFF
		second := c >= 0x1161 && c <= 0x1175 || c >= 0x11A8 && c <= 0x11C2
		wantBoundary(t, "no tables", api.Tables{}, c, scalar && !second)
	}
}

// Each of the two conditions alone decides.
func TestBoundaryOfEachReason(t *testing.T) {
	const from, first, second = 0xF0010, 0xF0000, 0xE0000
	class := func(c int) spans { return spans{{From: c, To: c, Value: 1}} }
	pair := mapping(from, first, second)
	for _, row := range []struct {
		name                                string
		tables                              api.Tables
		wholeWanted, firstWanted, secWanted bool
	}{
		{"no decomposition", api.Tables{}, true, true, true},
		{"a decomposition", api.Tables{Decomps: mappings{pair}}, true, true, false},
		{"an excluded one", api.Tables{Decomps: mappings{pair}, Excluded: []int{from}}, true, true, true},
		{"only the whole has a class", api.Tables{Class: class(from)}, false, true, true},
		{"the whole has a class", api.Tables{Decomps: mappings{pair}, Class: class(from)}, true, true, true},
		{"the first element has a class", api.Tables{Decomps: mappings{pair}, Class: class(first)}, false, false, true},
		{"the second element has a class", api.Tables{Decomps: mappings{pair}, Class: class(second)}, true, true, false},
		{"the second element has a class, excluded", api.Tables{Decomps: mappings{pair}, Class: class(second), Excluded: []int{from}}, true, true, false},
		{"one element", api.Tables{Decomps: mappings{mapping(from, first)}}, true, true, true},
		{"one element with a class", api.Tables{Decomps: mappings{mapping(from, first)}, Class: class(first)}, false, false, true},
		{"the first element is a second one elsewhere", api.Tables{Decomps: mappings{pair, mapping(from+1, 'a', first)}}, false, false, false},
		{"the first element is a second one elsewhere, excluded",
			api.Tables{Decomps: mappings{pair, mapping(from+1, 'a', first)}, Excluded: []int{from + 1}}, true, true, false},
		{"the first element twice", api.Tables{Decomps: mappings{mapping(from, first, first)}}, false, false, true},
		{"the first element twice, excluded", api.Tables{Decomps: mappings{mapping(from, first, first)}, Excluded: []int{from}}, true, true, true},
		{"a first element with a decomposition that begins with a mark",
			api.Tables{Decomps: mappings{mapping(first, first+1, 'x'), pair}, Class: class(first + 1)}, false, false, true},
		{"a first element that is a mark, but has a decomposition that is none",
			api.Tables{Decomps: mappings{mapping(first, first+1, 'x'), pair}, Class: class(first)}, true, true, true},
	} {
		wantBoundary(t, row.name, row.tables, from, row.wholeWanted)
		wantBoundary(t, row.name, row.tables, first, row.firstWanted)
		wantBoundary(t, row.name, row.tables, second, row.secWanted)
	}
}

// rows returns tables of as many decompositions as possible, and the last one's From. Each of the last
// 16 begins with the one before it; all others are pairs of code points.
func rows() (api.Tables, int) {
	var t api.Tables
	for i := range api.MaxRows {
		first := 0xE0000 + i
		if i > api.MaxRows-api.MaxMap+1 {
			first = 0xF0000 + i - 1
		}
		t.Decomps = append(t.Decomps, mapping(0xF0000+i, first, 0xE1000+i))
	}
	return t, 0xF0000 + api.MaxRows - 1
}

// With as many rows as possible, and steps to what begins the longest decomposition.
func TestBoundaryOfMaxRows(t *testing.T) {
	tables, last := rows()
	for i := range api.MaxRows {
		wantBoundary(t, "whole", tables, 0xF0000+i, true)
		wantBoundary(t, "first", tables, 0xE0000+i, true)
		wantBoundary(t, "second", tables, 0xE1000+i, false)
	}
	first := 0xE0000 + api.MaxRows - api.MaxMap + 1
	tables.Class = spans{{From: first, To: first, Value: 254}}
	for c := 0xF0000; c <= last; c++ {
		wantBoundary(t, "what begins it has a class", tables, c, c < 0xF0000+api.MaxRows-api.MaxMap+1)
	}
}

// The answer depends on the tables of this call, not on those of an earlier one.
func TestBoundaryOfOtherTables(t *testing.T) {
	other := api.Tables{Decomps: mappings{mapping(0xE9, 'e', 'x')}}
	for range 3 {
		wantBoundary(t, "sample", sample(), acute230, false)
		wantBoundary(t, "other", other, acute230, true)
		wantBoundary(t, "violating", violating(6), 'x', false)
		wantBoundary(t, "sample", sample(), 'x', true)
		wantBoundary(t, "other", other, 'x', false)
	}
	s := newStream(t, other, 3)
	wantPushes(t, "a stream of other tables", s, 'x')
	wantBoundary(t, "sample, with a stream of other tables", sample(), 'x', true)
	if stream.Boundary(other, 'x') {
		t.Error("other, with a stream")
	}
}
