package bidi_test

import (
	"slices"
	"strconv"
	"strings"
	"testing"

	"namedesk/api"
	"namedesk/bidi"
	"namedesk/table"
)

type (
	spans    = []api.Span
	mappings = []api.Mapping
)

const most = api.MaxRunes

// These keep the tables and labels of the tests short.
func span(from, to, value int) api.Span    { return api.Span{From: from, To: to, Value: value} }
func row(from int, to ...int) api.Mapping  { return api.Mapping{From: from, To: to} }
func repeat(c, count int) []int            { return slices.Repeat([]int{c}, count) }
func join(lists ...[]int) []int            { return slices.Concat(lists...) }
func with(l []int, at int, c int) []int    { return slices.Replace(slices.Clone(l), at, at+1, c) }
func bidiOnly(s ...api.Span) api.Tables    { return api.Tables{Bidi: s} }
func longLabel(size int, end string) []int { return join(repeat(alpha, size-len(end)), label(end)) }
func many(text string, count int) []string { return slices.Repeat([]string{text}, count) }
func replaced(l []string, at int, by string) []string {
	return slices.Replace(slices.Clone(l), at, at+1, by)
}

// Some code points of the sample.
const (
	alpha = 0x3B1 // without a row
	alef  = 0x5D0
	beh   = 0x628
	zero  = 0x660
	grave = 0x300
	dot   = 0x323

	// These have a combining class, although they have the Bidi classes of letters, so that Order moves them.
	rightAbove = 0x7EB
	leftBelow  = 0x302A
	otherBelow = 0x316
	numberOver = 0x8E0
)

// letters stand for the Bidi classes, in the order of their numbers: L, R, AL, AN, EN, ES, CS, ET, ON, BN, NSM and Other.
const letters = "LRANESCTOBMX"

// pointsOf returns code points of the sample that have the class for which a letter stands.
func pointsOf(letter byte) []int {
	return map[byte][]int{
		'L': {alpha, 'a', 'Z', 0x9F0, 0x1100, 0xAC00, 0x20000, 'z', 'A', 0xD7A3},
		'R': {alef, 0x5D1, 0x5EA, api.MaxRune, 0x10800},
		'A': {beh, 0x627, 0x64A, 0xD7FF},
		'N': {zero, 0x661, 0x669, 0x10E60},
		'E': {'1', '0', '9', 0x6F0, 0x6F9},
		'S': {'-', 0x207A},
		'C': {'.', 0xA0},
		'T': {0xA2, 0xA5, 0x20AC},
		'O': {'!', '_', '~', 0x2026, 0x10FFFE},
		'B': {0xAD, api.ZWNJ, api.ZWJ, 0xE000},
		'M': {grave, dot, 0x5B0, 0x64B, 0x36F},
		'X': {' ', 0, 0x7F, 0x0A, 0x2028},
	}[letter]
}

// label returns the first code point of each class.
func label(text string) []int { return variant(text, 0) }

// variant returns other code points of the same classes for another number.
func variant(text string, number int) []int {
	var l []int
	for i := range len(text) {
		points := pointsOf(text[i])
		l = append(l, points[(number+i*(number&1))%len(points)])
	}
	return l
}

// labels returns a label for each text.
func labels(texts []string) [][]int {
	var all [][]int
	for _, text := range texts {
		all = append(all, label(text))
	}
	return all
}

// sample returns well-formed tables that also say much that has nothing to do with the Bidi rule.
func sample() api.Tables {
	return api.Tables{
		Category: spans{
			span(0xC0, 0xFF, api.Letter), span(grave, 0x36F, api.Mark), span(alpha, alpha, api.Mark), span(alef, 0x5EA, api.Digit),
			span(zero, 0x669, api.Letter), span(0x2026, 0x2028, api.Mark),
		},
		Class: spans{
			span(grave, 0x302, 230), span(otherBelow, otherBelow, 220), span(dot, dot, 220), span(0x5B0, 0x5B0, 10), span(rightAbove, rightAbove, 230),
			span(numberOver, numberOver, 230), span(0x94D, 0x94D, api.Virama), span(leftBelow, leftBelow, 218),
		},
		Joining: spans{span(0x627, 0x627, api.RightJoining), span(beh, beh, api.DualJoining), span(0x64B, 0x652, api.Transparent)},
		Bidi: spans{
			span(0xA0, 0xA0, api.BidiCS), span(0xA2, 0xA5, api.BidiET), span(0xAD, 0xAD, api.BidiBN), span(grave, otherBelow-1, api.BidiNSM),
			span(otherBelow, otherBelow, api.BidiOther), span(otherBelow+1, 0x36F, api.BidiNSM), span(0x591, 0x5BD, api.BidiNSM),
			span(alef, 0x5EA, api.BidiR), span(0x627, 0x64A, api.BidiAL), span(0x64B, 0x652, api.BidiNSM), span(zero, 0x669, api.BidiAN),
			span(0x6F0, 0x6F9, api.BidiEN), span(rightAbove, rightAbove, api.BidiR), span(numberOver, numberOver, api.BidiAN),
			span(0x9F0, 0x9F1, api.BidiL), span(api.ZWNJ, api.ZWJ, api.BidiBN), span(0x2026, 0x2027, api.BidiON), span(0x2028, 0x2029, api.BidiOther),
			span(0x207A, 0x207B, api.BidiES), span(0x20AC, 0x20AC, api.BidiET), span(0xD7FF, 0xD7FF, api.BidiAL), span(0xE000, 0xE000, api.BidiBN),
			span(0x10800, 0x10801, api.BidiR), span(0x10E60, 0x10E60, api.BidiAN), span(0x10FFFE, 0x10FFFE, api.BidiON),
			span(api.MaxRune, api.MaxRune, api.BidiR),
		},
		Script: spans{
			span(0xE9, 0xE9, api.Hebrew), span(alpha, alpha, api.Arabic), span(alef, alef, api.Latin), span(0x627, 0x64A, api.Arabic),
			span(0x2026, 0x2026, 10),
		},
		Status: spans{
			span(0xAD, 0xAD, api.Ignored), span(0xC9, 0xC9, api.Mapped), span(0xE9, 0xE9, api.Valid), span(alef, 0x5D1, api.Disallowed),
			span(0x5D2, 0x5EA, api.Deviation),
		},
		Ignorable:  spans{span(0xAD, 0xAD, 1), span(0x5D1, 0x5D1, 1)},
		Extensions: mappings{row(0x64B, api.Arabic, 13)},
		Maps:       mappings{row(0xC9, 0xE9)},
		Decomps:    mappings{row(0xC9, 'E', 0x301), row(0xE9, 'e', 0x301), row(0x5EA, 0x5E9, 0x5B0)},
		Excluded:   []int{0x5EA},
		Prototypes: mappings{row('m', 'r', 'n'), row(alef, 'x'), row(zero, '0')},
	}
}

// violating returns tables that violate a rule of chapter 4, and none before it.
func violating(rule int) api.Tables {
	t := sample()
	switch rule {
	case 1:
		t.Script = nil
		for i := range api.MaxRows + 1 {
			t.Script = append(t.Script, span(0xE0000+i, 0xE0000+i, api.Hebrew))
		}
	case 2:
		t.Bidi = slices.Insert(t.Bidi, 0, span('a', 'a', api.BidiR))
	case 3:
		t.Bidi[0].Value = api.BidiOther + 1
	case 4:
		t.Maps[0].To = nil
	case 5:
		t.Maps[0].To = []int{'A'}
	case 6:
		t.Decomps[0].To = []int{0xC9}
	case 7:
		t.Excluded = []int{0xEA}
	case 8:
		t.Decomps = append(t.Decomps, row(api.MaxRune, 'e', 0x301))
	case 9:
		t.Prototypes[0].To[0] = 0xE9
	}
	return t
}

// shown returns a label for a message, in hexadecimal and without most of a long one.
func shown(l []int) string {
	var b strings.Builder
	for i, c := range l {
		if i == 24 {
			b.WriteString(" .. (" + strconv.Itoa(len(l)) + " elements)")
			break
		}
		b.WriteString(" " + strconv.FormatInt(int64(c), 16))
	}
	return "[" + b.String() + " ]"
}

// shownAll returns labels for a message, without most of many.
func shownAll(all [][]int) string {
	var b strings.Builder
	for i, l := range all {
		if i == 8 {
			b.WriteString(" .. (" + strconv.Itoa(len(all)) + " labels)")
			break
		}
		b.WriteString(" " + shown(l))
	}
	return "{" + b.String() + " }"
}

// wantRTL compares the result of RTL.
func wantRTL(t *testing.T, name string, tables api.Tables, l []int, want bool) {
	t.Helper()
	if got := bidi.RTL(tables, l); got != want {
		t.Errorf("%s: RTL(%s) = %t", name, shown(l), got)
	}
}

// wantRule compares the results of Rule for a label without an error.
func wantRule(t *testing.T, name string, tables api.Tables, l []int, want int) {
	t.Helper()
	if got, e := bidi.Rule(tables, l); got != want || e != api.OK {
		t.Errorf("%s: Rule(%s) = %d, %d, want %d", name, shown(l), got, e, want)
	}
}

// wantDomain compares the results of Domain.
func wantDomain(t *testing.T, name string, tables api.Tables, all [][]int, wantAt int, want api.Errno) {
	t.Helper()
	if at, e := bidi.Domain(tables, all); at != wantAt || e != want {
		t.Errorf("%s: Domain(%s) = %d, %d, want %d, %d", name, shownAll(all), at, e, wantAt, want)
	}
}

// wantRefused compares the results of all functions for a label for which order.Order has an error.
func wantRefused(t *testing.T, name string, tables api.Tables, l []int, want api.Errno) {
	t.Helper()
	wantRTL(t, name, tables, l, false)
	if got, e := bidi.Rule(tables, l); got != 0 || e != want {
		t.Errorf("%s: Rule(%s) = %d, %d, want 0, %d", name, shown(l), got, e, want)
	}
	wantDomain(t, name, tables, [][]int{l}, 0, want)
}

func TestTablesOfTheTests(t *testing.T) {
	tables := sample()
	if rule := table.Check(tables); rule != 0 {
		t.Errorf("Check = %d", rule)
	}
	for rule := 1; rule <= 9; rule++ {
		if got := table.Check(violating(rule)); got != rule {
			t.Errorf("Check of the tables that violate rule %d = %d", rule, got)
		}
	}
	for class := range len(letters) {
		for _, c := range pointsOf(letters[class]) {
			if got := table.Bidi(tables, c); got != class {
				t.Errorf("Bidi(%#x) = %d, want %d", c, got, class)
			}
		}
	}
}
