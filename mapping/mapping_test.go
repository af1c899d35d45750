package mapping_test

import (
	"slices"
	"testing"

	"namedesk/api"
	"namedesk/mapping"
)

// codes returns the code points of a text.
func codes(text string) []int {
	var l []int
	for _, c := range text {
		l = append(l, int(c))
	}
	return l
}

// Promise 13.1: the examples of the chapter.
func TestExamples(t *testing.T) {
	for _, tables := range []api.Tables{{}, sample()} {
		wantMap(t, "A-b", tables, []int{'A', '-', 'b'}, []int{'a', '-', 'b'})
		wantError(t, "a b", tables, []int{'a', ' ', 'b'}, 1, api.ErrStatus)
	}
}

// Promises 13.1 and 13.2: no code points at all.
func TestNothing(t *testing.T) {
	for _, tables := range []api.Tables{{}, sample()} {
		for _, l := range [][]int{nil, {}, []int{' ', 'a'}[:0]} {
			wantMap(t, "no code points", tables, l, nil)
			wantDeviations(t, "no code points", tables, l)
		}
	}
}

// Promises 13.1 and 13.2: each of the five statuses by itself, in tables that have no other one.
func TestOneStatusByItself(t *testing.T) {
	const c = 0x1234
	only := func(status int) api.Tables { return api.Tables{Status: spans{span(c, c, status)}} }
	one := []int{c}
	wantMap(t, "Valid", only(api.Valid), one, one)
	wantDeviations(t, "Valid", only(api.Valid), one)
	wantMap(t, "Deviation", only(api.Deviation), one, one)
	wantDeviations(t, "Deviation", only(api.Deviation), one, 0)
	wantMap(t, "Ignored", only(api.Ignored), one, nil)
	wantDeviations(t, "Ignored", only(api.Ignored), one)
	wantError(t, "Disallowed by a row", only(api.Disallowed), one, 0, api.ErrStatus)
	wantDeviations(t, "Disallowed by a row", only(api.Disallowed), one)
	wantError(t, "without a row", api.Tables{}, one, 0, api.ErrStatus)
	wantDeviations(t, "without a row", api.Tables{}, one)
	mapped := only(api.Mapped)
	mapped.Maps = mappings{row(c, 'x')}
	wantMap(t, "Mapped", mapped, one, []int{'x'})
	wantDeviations(t, "Mapped", mapped, one)
}

// Promises 13.1 and 13.2: each code point that the sample names, by itself and among others.
func TestStatusesAmongOthers(t *testing.T) {
	for _, row := range []struct {
		name    string
		l, want []int
	}{
		{"Valid", []int{valid}, []int{valid}},
		{"Deviation", []int{deviation}, []int{deviation}},
		{"Ignored", []int{ignored}, nil},
		{"mapped to one", []int{toOne}, []int{valid}},
		{"mapped to two", []int{toTwo}, []int{'i', 'j'}},
		{"mapped to the same twice", []int{toSame}, []int{valid, valid}},
		{"mapped to three", []int{toThree}, []int{'f', 'f', 'i'}},
		{"mapped to MaxMap", []int{toEighteen}, eighteen},
		{"mapped to a Deviation", []int{toDeviation}, []int{deviation}},
		{"mapped to a digit", []int{toDigit}, []int{'1'}},
		{"mapped to a full stop", []int{toStop}, []int{'.'}},
		{"mapped to full stops", []int{0x2026}, []int{'.', '.', '.'}},
		{"mapped to a syllable", []int{toSyllable}, []int{0xAC00}},
		{"each of a span is mapped", []int{0xC2, 0xC0, 0xC1}, []int{0xE2, 0xE0, 0xE1}},
		{"each of a span is ignored", []int{0xFE00, 'a', 0xFE0F, 'b', 0xFE07}, []int{'a', 'b'}},
		{"the last code points", []int{0x10FFFE, 0x10FFFF}, []int{0x10FFFF, 0x10FFFF}},
		{"around the surrogates", []int{0xE000, 0xD7FF}, []int{0xE000, 0xD7FF}},
		{"around the syllables", []int{0xABFF, 0xAC00, 0xD7A3, 0xD7A4}, []int{0xAC00, 0xD7A3, 0xD7A4}},

		{"all statuses but one", []int{valid, deviation, ignored, toOne}, []int{valid, deviation, valid}},
		{"the other way", []int{toOne, ignored, deviation, valid}, []int{valid, deviation, valid}},
		{"the result of each is as long as it is", []int{toThree, 'x', ignored, toTwo, 'B', ignored, ignored, toOne, toEighteen, 'y'},
			join(codes("ffixijb"), []int{valid}, eighteen, codes("y"))},
		{"the same again", []int{toTwo, toTwo, toTwo}, codes("ijijij")},
		{"a whole name", codes("B\u00C9CHER\u3002Example"), codes("b\u00E9cher.example")},
		{"Ignored first, between and last", []int{ignored, 'a', ignored, ignored, 'b', ignoredMark}, codes("ab")},
		{"Ignored between what is mapped", []int{toTwo, 0x200B, toThree}, codes("ijffi")},
		{"joiners", []int{api.ZWNJ, 'a', api.ZWJ, 0x200B}, []int{api.ZWNJ, 'a', api.ZWJ}},
	} {
		wantMap(t, row.name, sample(), row.l, row.want)
	}
}

// Promise 13.1: everything is ignored.
func TestEverythingIsIgnored(t *testing.T) {
	for _, l := range [][]int{
		{ignored}, {ignored, ignored}, {ignored, ignoredMark, 0x200B, 0xABFF}, {0xFE00, 0xFE0F, 0xFE08}, {ignoredMark, ignored, ignoredMark},
		repeat(ignored, most), times([]int{ignored, ignoredMark}, most/2),
	} {
		wantMap(t, "everything is ignored", sample(), l, nil)
		wantDeviations(t, "everything is ignored", sample(), l)
		wantMap(t, "all but the first", sample(), with(l, 0, 'Q'), codes("q"))
		wantMap(t, "all but the last", sample(), with(l, len(l)-1, 'Q'), codes("q"))
		wantError(t, "all but a Disallowed one", sample(), with(l, len(l)-1, refused), len(l)-1, api.ErrStatus)
	}
}

// Promise 13.1: what is put in the place of a code point is neither mapped nor ordered, composed or decomposed,
// and other properties than the status do not matter.
func TestOnlyTheStatusMatters(t *testing.T) {
	for _, row := range []struct {
		name    string
		l, want []int
	}{
		{"marks that are not in order", []int{'a', above230, below220}, []int{'a', above230, below220}},
		{"marks that are mapped to others that are not in order", []int{toUnordered, devMark}, []int{above230, below220, devMark}},
		{"a mark that is mapped stays behind a greater one", []int{'e', above230, toMark, below220, ignoredMark}, []int{'e', above230, 0x300, below220}},
		{"two that compose", []int{'E', above230}, []int{'e', above230}},
		{"two that compose when what is between is ignored", []int{'e', ignored, above230}, []int{'e', above230}},
		{"a decomposition", []int{valid, 0xE8}, []int{valid, 0xE8}},
		{"a decomposition of what is ignored", []int{ignored}, nil},
		{"an ignorable code point that is Valid", []int{0xF8, 0xF9}, []int{0xF8, 0xF9}},
		{"prototypes", []int{'m', 'M', 0xFA}, []int{'m', 'm', 0xFA}},
		{"conjoined syllables", []int{0xAC00, toSyllable, 0xAC01}, []int{0xAC00, 0xAC00, 0xAC01}},
	} {
		wantMap(t, row.name, sample(), row.l, row.want)
	}
	wantError(t, "an ignorable code point that is Disallowed", sample(), []int{'a', 0x200E}, 1, api.ErrStatus)
	wantError(t, "a decomposition of what is Disallowed", sample(), []int{refused}, 0, api.ErrStatus)
}

// tablesForFixed are tables with which the fixed statuses are the same.
func tablesForFixed() []api.Tables {
	around := api.Tables{Status: spans{
		span(0x80, 0x10FF, api.Ignored), span(0x1113, 0x1160, api.Valid), span(0x1176, 0x11A7, api.Deviation), span(0x11C3, 0xABFF, api.Ignored),
		span(0xD7A4, 0xD7FF, api.Valid), span(0xE000, api.MaxRune, api.Deviation),
	}}
	return []api.Tables{{}, sample(), around}
}

// Promise 13.1: the statuses of ASCII, and capital letters, which are mapped whatever the tables are.
func TestASCII(t *testing.T) {
	for _, tables := range tablesForFixed() {
		wantMap(t, "capital letters", tables, codes("ABCDEFGHIJKLMNOPQRSTUVWXYZ"), codes("abcdefghijklmnopqrstuvwxyz"))
		wantMap(t, "what stays", tables, codes("abcdefghijklmnopqrstuvwxyz0123456789-."), codes("abcdefghijklmnopqrstuvwxyz0123456789-."))
		wantMap(t, "a name", tables, codes("WWW.Example-1.COM"), codes("www.example-1.com"))
		for c := range 0x80 {
			switch {
			case isValidASCII(c):
				wantMap(t, "Valid", tables, []int{c}, []int{c})
			case isCapital(c):
				wantMap(t, "a capital letter", tables, []int{'x', c, 'y'}, []int{'x', c - 'A' + 'a', 'y'})
			default:
				wantError(t, "Disallowed", tables, []int{c}, 0, api.ErrStatus)
				wantError(t, "Disallowed among others", tables, []int{'x', 'Y', c, 'z'}, 2, api.ErrStatus)
			}
			wantDeviations(t, "ASCII", tables, []int{c, c})
		}
	}
}

// Promise 13.1: the statuses of Hangul, which tables do not change.
func TestHangul(t *testing.T) {
	for _, tables := range tablesForFixed() {
		for from := 0xAC00; from <= 0xD7A3; from += most {
			var l []int
			for c := from; c < from+most && c <= 0xD7A3; c++ {
				l = append(l, c)
			}
			wantMap(t, "syllables", tables, l, l)
			wantDeviations(t, "syllables", tables, l)
		}
		for _, bounds := range [][2]int{{0x1100, 0x1112}, {0x1161, 0x1175}, {0x11A8, 0x11C2}} {
			for c := bounds[0]; c <= bounds[1]; c++ {
				wantError(t, "a jamo", tables, []int{0xAC00, c}, 1, api.ErrStatus)
				wantDeviations(t, "a jamo", tables, []int{0xAC00, c})
			}
		}
	}
}

// isLeftOut reports whether a code point is one of those of which there are too many of the same kind: syllables,
// which have a test of their own, and most of what no table says anything about.
func isLeftOut(c int) bool {
	isAtEdge := c < 0x4000 || c&0xFF == 0 || c&0xFF >= 0xFC
	return c >= 0xAC00 && c <= 0xD7A3 || !isAtEdge && statusOf(c) == api.Disallowed
}

// Promises 13.1 and 13.2: each code point between others, and twice.
func TestEachCodePoint(t *testing.T) {
	tables, without := sample(), api.Tables{}
	for c := range api.MaxRune + 1 {
		if isLeftOut(c) {
			continue
		}
		if c >= 0xD800 && c <= 0xDFFF {
			wantRefused(t, "a surrogate", tables, []int{'x', c}, api.ErrRange)
			continue
		}
		if to, found := replacement(c); found {
			wantMap(t, "each code point", tables, []int{'x', c, 'Y', c}, join([]int{'x'}, to, []int{'y'}, to))
		} else {
			wantError(t, "each code point", tables, []int{'X', c, 'Y', c}, 1, api.ErrStatus)
		}
		if c >= 0x80 {
			wantError(t, "each code point without tables", without, []int{'X', c}, 1, api.ErrStatus)
		}
		if slices.Contains(deviating, c) {
			wantDeviations(t, "each code point", tables, []int{c, 'x', c}, 0, 2)
		} else {
			wantDeviations(t, "each code point", tables, []int{c, 'x', c})
		}
	}
}

// Promise 13.1: tables with as many rows as there may be, each leading to MaxMap code points.
func TestMaxRows(t *testing.T) {
	const first = 0xF0000
	one := api.Tables{Status: spans{span(first, first+api.MaxRows-1, api.Mapped)}}
	var each api.Tables
	for i := range api.MaxRows {
		to := join(repeat('a'+i%26, api.MaxMap-2), []int{0xAC00 + i, '0' + i%10})
		one.Maps = append(one.Maps, row(first+i, to...))
		each.Maps = append(each.Maps, row(first+2*i, to...))
		each.Status = append(each.Status, span(first+2*i, first+2*i, api.Mapped))
	}
	for i := range api.MaxRows {
		want := join([]int{'x'}, one.Maps[i].To, one.Maps[api.MaxRows-1-i].To)
		wantMap(t, "one span", one, []int{'X', first + i, first + api.MaxRows - 1 - i}, want)
		wantMap(t, "a span for each", each, []int{'X', first + 2*i, first + 2*(api.MaxRows-1-i)}, want)
		wantError(t, "between the spans", each, []int{'X', first + 2*i, first + 2*i + 1}, 2, api.ErrStatus)
	}
	wantError(t, "behind the span", one, []int{first, first + api.MaxRows}, 1, api.ErrStatus)
}

// Promise 13.2: Stable of what Map returns, and of what it changes or refuses.
func TestStable(t *testing.T) {
	for _, c := range []struct {
		name string
		l    []int
		want bool
	}{
		{"no code points", nil, true},
		{"Valid", []int{'a', valid, 0xAC00}, true},
		{"one Deviation", []int{deviation}, true},
		{"a Deviation among others", []int{'a', joiner, 'b', deviation, above230}, true},
		{"all Deviations", deviating, true},
		{"marks that are not in order", []int{above230, below220, devMark}, true},
		{"what MaxMap code points are", eighteen, true},
		{"the longest list", repeat('a', most), true},
		{"the longest list of Deviations", repeat(deviation, most), true},
		{"a capital letter", []int{'A'}, false},
		{"a capital letter at the end", endingWith(most, 'Z'), false},
		{"mapped to one", []int{'a', toOne, 'b'}, false},
		{"mapped to several", []int{toThree}, false},
		{"mapped to what is beside it", []int{toOne, valid}, false},
		{"mapped to what is before it, with one Ignored", []int{toTwo, ignored}, false},
		{"as many more as there are Ignored", []int{'a', toTwo, ignored, 'b'}, false},
		{"Ignored", []int{ignored}, false},
		{"Ignored between Valid ones", []int{'a', ignored, 'b'}, false},
		{"Ignored at the end", []int{'a', 'b', ignored}, false},
		{"Disallowed", []int{refused}, false},
		{"Disallowed at the end", []int{'a', valid, deviation, ' '}, false},
		{"a surrogate", []int{'a', 0xD800}, false},
		{"too long", repeat('a', most+1), false},
		{"a result that is too long", endingWith(most, toTwo), false},
	} {
		if got := mapping.Stable(sample(), c.l); got != c.want {
			t.Errorf("%s: Stable(%s) = %t", c.name, shown(c.l), got)
		}
	}
	for rule := 1; rule <= 9; rule++ {
		if mapping.Stable(violating(rule), nil) || mapping.Stable(violating(rule), []int{'a'}) {
			t.Errorf("Stable with tables that violate rule %d = true", rule)
		}
	}
}

// Promise 13.2: the indices are those of l, whatever the other code points are.
func TestDeviations(t *testing.T) {
	for _, c := range []struct {
		name    string
		l, want []int
	}{
		{"none", []int{'a', valid, toOne, ignored}, nil},
		{"one", []int{deviation}, []int{0}},
		{"one first", []int{deviation, 'a', 'b'}, []int{0}},
		{"one between", []int{'a', deviation, 'b'}, []int{1}},
		{"one last", []int{'a', 'b', deviation}, []int{2}},
		{"the same again", []int{joiner, joiner, 'a', joiner}, []int{0, 1, 3}},
		{"all", deviating, []int{0, 1, 2, 3, 4, 5, 6}},
		{"all the other way", []int{0xE000, 0xD7A4, 0x200D, 0x200C, 0x3C2, devMark, deviation}, []int{0, 1, 2, 3, 4, 5, 6}},
		{"behind one that is ignored", []int{ignored, deviation, ignored, deviation}, []int{1, 3}},
		{"behind one that is mapped to several", []int{toEighteen, deviation, toTwo, deviation}, []int{1, 3}},
		{"what is mapped to a Deviation has another status", []int{toDeviation, toEighteen, deviation}, []int{2}},
		{"a mark before one of a smaller class", []int{'a', above230, devMark}, []int{2}},
		{"a mark behind one of a smaller class", []int{'a', ignoredMark, devMark, below220}, []int{2}},
		{"a Disallowed one does not matter", []int{refused, deviation, ' ', deviation, refusedByRow}, []int{1, 3}},
		{"only Disallowed ones", []int{refused, ' '}, nil},
		{"the last one of the longest list", endingWith(most, deviation), []int{most - 1}},
		{"a result that is too long does not matter", endingWith(most, deviation, toEighteen, deviation), []int{most - 3, most - 1}},
	} {
		wantDeviations(t, c.name, sample(), c.l, c.want...)
	}
	var all []int
	for i := range most {
		all = append(all, i)
	}
	wantDeviations(t, "all of the longest list", sample(), repeat(deviation, most), all...)
	wantDeviations(t, "without tables", api.Tables{}, []int{deviation, joiner, 'a'})
}

// Rule R3: the result depends on the tables of this call, not on those of an earlier one.
func TestOtherTables(t *testing.T) {
	other := api.Tables{
		Status: spans{span(ignored, ignored, api.Deviation), span(toOne, toOne, api.Mapped), span(deviation, deviation, api.Ignored)},
		Maps:   mappings{row(toOne, 'x', ignored)},
	}
	l := []int{'A', ignored, toOne, deviation}
	for range 3 {
		wantMap(t, "sample", sample(), l, []int{'a', valid, deviation})
		wantDeviations(t, "sample", sample(), l, 3)
		wantMap(t, "other", other, l, []int{'a', ignored, 'x', ignored})
		wantDeviations(t, "other", other, l, 1)
		wantError(t, "none", api.Tables{}, l, 1, api.ErrStatus)
		wantDeviations(t, "none", api.Tables{}, l)
	}
}
