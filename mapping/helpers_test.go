package mapping_test

import (
	"slices"
	"strconv"
	"strings"
	"testing"

	"namedesk/api"
	"namedesk/mapping"
	"namedesk/table"
)

type (
	spans    = []api.Span
	mappings = []api.Mapping
)

const most = api.MaxRunes

// span and row keep the tables of the tests short.
func span(from, to, value int) api.Span     { return api.Span{From: from, To: to, Value: value} }
func row(from int, to ...int) api.Mapping   { return api.Mapping{From: from, To: to} }
func repeat(c, count int) []int             { return slices.Repeat([]int{c}, count) }
func join(lists ...[]int) []int             { return slices.Concat(lists...) }
func with(l []int, at int, c int) []int     { return slices.Replace(slices.Clone(l), at, at+1, c) }
func times(l []int, count int) []int        { return slices.Repeat(l, count) }
func endingWith(size int, end ...int) []int { return join(repeat('a', size-len(end)), end) }

// Code points of the sample; their names say which status they have, or what they are mapped to.
const (
	refusedByRow = 0x80
	refused      = 0x85
	ignored      = 0xAD
	ignoredMark  = 0x334
	refusedMark  = 0x324
	toOne        = 0xC9
	toDigit      = 0x2460
	toStop       = 0x3002
	toSyllable   = 0x320E
	toDeviation  = 0x1E9E
	toMark       = 0x340
	toTwo        = 0x132
	toSame       = 0x1F3
	toUnordered  = 0x344
	toThree      = 0xFB03
	toEighteen   = 0xFDFA
	deviation    = 0xDF
	joiner       = api.ZWJ
	devMark      = 0x31B
	below220     = 0x323
	above230     = 0x301
	valid        = 0xE9
)

// eighteen is what toEighteen is mapped to: MaxMap code points.
var eighteen = []int{'e', 'i', 'g', 'h', 't', 'e', 'e', 'n', '-', 0xDF, '1', '8', '.', 0xE9, 0xAC00, 0x301, 0x323, 'e'}

// sample returns well-formed tables, which also say much that has nothing to do with the mapping.
func sample() api.Tables {
	return api.Tables{
		Category: spans{span(0xC0, 0xFF, api.Letter), span(0x300, 0x36F, api.Mark)},
		Class: spans{
			span(0x300, 0x302, 230), span(devMark, devMark, 216), span(0x323, 0x324, 220), span(ignoredMark, ignoredMark, 1),
			span(toMark, toMark, 230), span(toUnordered, toUnordered, 230),
		},
		Joining: spans{span(0x300, 0x36F, api.Transparent)},
		Bidi:    spans{span(0x300, 0x36F, api.BidiNSM)},
		Script:  spans{span(0xC0, 0xFF, api.Latin), span(0x300, 0x36F, api.Inherited)},
		Status: spans{
			span(0x80, 0x81, api.Disallowed), span(ignored, ignored, api.Ignored), span(0xB5, 0xB5, api.Mapped),
			span(0xC0, 0xC2, api.Mapped), span(toOne, toOne, api.Mapped), span(deviation, deviation, api.Deviation),
			span(0xE0, 0xF6, api.Valid), span(0xF7, 0xF7, api.Disallowed), span(0xF8, 0xFF, api.Valid), span(toTwo, toTwo, api.Mapped),
			span(toSame, toSame, api.Mapped), span(0x300, 0x301, api.Valid), span(devMark, devMark, api.Deviation),
			span(below220, below220, api.Valid), span(ignoredMark, ignoredMark, api.Ignored), span(toMark, toMark, api.Mapped),
			span(toUnordered, toUnordered, api.Mapped), span(0x3BC, 0x3BC, api.Valid), span(0x3C2, 0x3C2, api.Deviation),
			span(toDeviation, toDeviation, api.Mapped), span(0x200B, 0x200B, api.Ignored), span(0x200C, 0x200D, api.Deviation),
			span(0x2026, 0x2026, api.Mapped), span(toDigit, toDigit, api.Mapped), span(toStop, toStop, api.Mapped),
			span(toSyllable, toSyllable, api.Mapped), span(0xABFF, 0xABFF, api.Ignored), span(0xD7A4, 0xD7A4, api.Deviation),
			span(0xD7FF, 0xD7FF, api.Valid), span(0xE000, 0xE000, api.Deviation), span(toThree, toThree, api.Mapped),
			span(toEighteen, toEighteen, api.Mapped), span(0xFE00, 0xFE0F, api.Ignored), span(0x10FFFE, 0x10FFFE, api.Mapped),
			span(0x10FFFF, 0x10FFFF, api.Valid),
		},
		Ignorable:  spans{span(0xF8, 0xF9, 1), span(0x200B, 0x200F, 1)},
		Extensions: mappings{row(ignored, api.Latin, api.Greek), row(0xB7, api.Latin, api.Greek)},
		Maps: mappings{
			row(0xB5, 0x3BC), row(0xC0, 0xE0), row(0xC1, 0xE1), row(0xC2, 0xE2), row(toOne, 0xE9), row(toTwo, 'i', 'j'),
			row(toSame, 0xE9, 0xE9), row(toMark, 0x300), row(toUnordered, above230, below220), row(toDeviation, deviation),
			row(0x2026, '.', '.', '.'), row(toDigit, '1'), row(toStop, '.'), row(toSyllable, 0xAC00), row(toThree, 'f', 'f', 'i'),
			row(toEighteen, eighteen...), row(0x10FFFE, 0x10FFFF),
		},
		Decomps: mappings{
			row(refused, 'n'), row(ignored, 'i'), row(toOne, 'E', above230), row(0xE8, 'e', 0x300), row(valid, 'e', above230),
			row(toMark, 0x300), row(toUnordered, 0x308, above230),
		},
		Prototypes: mappings{row('m', 'r', 'n'), row(0xFA, 'o')},
	}
}

// changed is what Map of the sample puts in the place of the code points that do not stay, apart from A to Z,
// written out a second time: the expected results are computed with it.
var changed = map[int][]int{
	ignored: {}, ignoredMark: {}, 0x200B: {}, 0xABFF: {},
	0xFE00: {}, 0xFE01: {}, 0xFE02: {}, 0xFE03: {}, 0xFE04: {}, 0xFE05: {}, 0xFE06: {}, 0xFE07: {},
	0xFE08: {}, 0xFE09: {}, 0xFE0A: {}, 0xFE0B: {}, 0xFE0C: {}, 0xFE0D: {}, 0xFE0E: {}, 0xFE0F: {},
	0xB5: {0x3BC}, 0xC0: {0xE0}, 0xC1: {0xE1}, 0xC2: {0xE2}, toOne: {0xE9}, toTwo: {'i', 'j'}, toSame: {0xE9, 0xE9},
	toMark: {0x300}, toUnordered: {0x301, 0x323}, toDeviation: {0xDF}, 0x2026: {'.', '.', '.'}, toDigit: {'1'}, toStop: {'.'},
	toSyllable: {0xAC00}, toThree: {'f', 'f', 'i'}, 0x10FFFE: {0x10FFFF},
	toEighteen: {'e', 'i', 'g', 'h', 't', 'e', 'e', 'n', '-', 0xDF, '1', '8', '.', 0xE9, 0xAC00, 0x301, 0x323, 'e'},
}

// deviating are the code points of the sample with the status Deviation.
var deviating = []int{deviation, devMark, 0x3C2, api.ZWNJ, api.ZWJ, 0xD7A4, 0xE000}

// isKept reports whether a code point of the sample is Valid.
func isKept(c int) bool {
	switch {
	case c < 0x80:
		return isValidASCII(c)
	case c >= 0xE0 && c <= 0xFF:
		return c != 0xF7
	case c >= 0xAC00 && c <= 0xD7A3:
		return true
	default:
		return slices.Contains([]int{0x300, 0x301, 0x323, 0x3BC, 0xD7FF, 0x10FFFF}, c)
	}
}

// isValidASCII reports whether a code point of ASCII is Valid.
func isValidASCII(c int) bool {
	return strings.ContainsRune("abcdefghijklmnopqrstuvwxyz0123456789-.", rune(c))
}

// isCapital reports whether c is a letter from A to Z.
func isCapital(c int) bool {
	return c >= 0 && c < 0x80 && strings.ContainsRune("ABCDEFGHIJKLMNOPQRSTUVWXYZ", rune(c))
}

// replacement returns what Map of the sample puts in the place of a scalar value, and false if this is
// Disallowed.
func replacement(c int) ([]int, bool) {
	if to, found := changed[c]; found {
		return to, true
	}
	if isCapital(c) {
		return []int{c + 32}, true
	}
	return []int{c}, isKept(c) || slices.Contains(deviating, c)
}

// statusOf returns the status of a scalar value in the sample.
func statusOf(c int) int {
	to, found := changed[c]
	switch {
	case found && len(to) == 0:
		return api.Ignored
	case found || isCapital(c):
		return api.Mapped
	case slices.Contains(deviating, c):
		return api.Deviation
	case isKept(c):
		return api.Valid
	default:
		return api.Disallowed
	}
}

// violating returns tables that violate a rule of chapter 4, and none before it.
func violating(rule int) api.Tables {
	t := sample()
	switch rule {
	case 1:
		t.Bidi = nil
		for i := range api.MaxRows + 1 {
			t.Bidi = append(t.Bidi, span(0xE0000+i, 0xE0000+i, api.BidiR))
		}
	case 2:
		t.Status = slices.Insert(t.Status, 0, span('a', 'a', api.Ignored))
	case 3:
		t.Status[0].Value = api.Deviation + 1
	case 4:
		t.Maps[0].To = nil
	case 5:
		t.Maps[0].To = []int{'A'}
	case 6:
		t.Decomps[0].To = []int{refused}
	case 7:
		t.Excluded = []int{0xEA}
	case 8:
		t.Decomps = append(t.Decomps, row(api.MaxRune, 'e', above230))
	case 9:
		t.Prototypes[0].To[0] = 0xE9
	}
	return t
}

// shown returns a list for a message, in hexadecimal and without most of a long one.
func shown(l []int) string {
	var b strings.Builder
	for i, c := range l {
		if i == 24 {
			b.WriteString(" .. (" + strconv.Itoa(len(l)) + " elements)")
			break
		}
		b.WriteString(" " + strconv.FormatInt(int64(c), 16))
	}
	return "[" + b.String() + " ]"
}

// wantMap compares the results of Map and Stable for a list without an error, and those for the result.
func wantMap(t *testing.T, name string, tables api.Tables, l, want []int) {
	t.Helper()
	if got, at, e := mapping.Map(tables, l); !slices.Equal(got, want) || at != 0 || e != api.OK {
		t.Errorf("%s: Map(%s) = %s, %d, %d, want %s, 0, no error", name, shown(l), shown(got), at, e, shown(want))
	}
	if got := mapping.Stable(tables, l); got != slices.Equal(l, want) {
		t.Errorf("%s: Stable(%s) = %t", name, shown(l), got)
	}
	if got, at, e := mapping.Map(tables, want); !slices.Equal(got, want) || at != 0 || e != api.OK {
		t.Errorf("%s: Map(%s) = %s, %d, %d, want the same", name, shown(want), shown(got), at, e)
	}
	if !mapping.Stable(tables, want) {
		t.Errorf("%s: Stable(%s) = false", name, shown(want))
	}
}

// wantError compares the results of Map and Stable for a list with an error.
func wantError(t *testing.T, name string, tables api.Tables, l []int, wantAt int, want api.Errno) {
	t.Helper()
	if got, at, e := mapping.Map(tables, l); len(got) != 0 || at != wantAt || e != want {
		t.Errorf("%s: Map(%s) = %s, %d, %d, want no elements, %d, %d", name, shown(l), shown(got), at, e, wantAt, want)
	}
	if mapping.Stable(tables, l) {
		t.Errorf("%s: Stable(%s) = true", name, shown(l))
	}
}

// wantRefused compares the results of all functions for a list for which order.Order has an error.
func wantRefused(t *testing.T, name string, tables api.Tables, l []int, want api.Errno) {
	t.Helper()
	wantError(t, name, tables, l, 0, want)
	wantDeviations(t, name, tables, l)
}

// wantDeviations compares the result of Deviations.
func wantDeviations(t *testing.T, name string, tables api.Tables, l []int, want ...int) {
	t.Helper()
	if got := mapping.Deviations(tables, l); !slices.Equal(got, want) {
		t.Errorf("%s: Deviations(%s) = %s, want %s", name, shown(l), shown(got), shown(want))
	}
}

func TestTablesOfTheTests(t *testing.T) {
	tables := sample()
	if rule := table.Check(tables); rule != 0 {
		t.Errorf("Check = %d", rule)
	}
	for rule := 1; rule <= 9; rule++ {
		if got := table.Check(violating(rule)); got != rule {
			t.Errorf("Check of the tables that violate rule %d = %d", rule, got)
		}
	}
	for c := range api.MaxRune + 1 {
		if got := table.Status(tables, c); got != statusOf(c) {
			t.Errorf("Status(%#x) = %d, want %d", c, got, statusOf(c))
		}
	}
	for c, to := range changed {
		if got := table.Maps(tables, c); !slices.Equal(got, to) {
			t.Errorf("Maps(%#x) = %#x, want %#x", c, got, to)
		}
	}
}
