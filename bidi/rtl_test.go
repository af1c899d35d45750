package bidi_test

import (
	"strings"
	"testing"

	"namedesk/api"
	"namedesk/table"
)

// isRightToLeft reports whether a text has a letter for one of the classes BidiR, BidiAL and BidiAN.
func isRightToLeft(text string) bool { return strings.ContainsAny(text, "RAN") }

// Promise 16.1: labels with and without a code point of each class.
func TestRTL(t *testing.T) {
	for _, text := range []string{
		"R", "A", "N", "LR", "LA", "LN", "RL", "AL", "NL", "LRL", "LAL", "LNL", "ER", "MA", "XN", "RAN", "NNN", "LESCTOBMXR", "ALESCTOBMX", "LESCTNOBMX",
	} {
		wantRTL(t, text, sample(), label(text), true)
	}
	for _, text := range []string{"L", "E", "S", "C", "T", "O", "B", "M", "X", "LL", "LE", "LESCTOBMX", "MM", "EEE", "XX", "EL", "OML"} {
		wantRTL(t, text, sample(), label(text), false)
	}
	wantRTL(t, "no code points", sample(), nil, false)
	wantRTL(t, "no code points, but memory", sample(), []int{}, false)
}

// Promise 16.1: each class as the only, the first, the last and a middle element, between each other one.
func TestRTLOfEachClassAtEachPlace(t *testing.T) {
	for i := range letters {
		for j := range letters {
			of, other := letters[i:i+1], letters[j:j+1]
			for _, text := range []string{of, of + other, other + of, of + other + other, other + of + other, other + other + of} {
				for number := range 10 {
					wantRTL(t, text, sample(), variant(text, number), isRightToLeft(text))
				}
			}
		}
	}
}

// Promise 16.1: without tables, no label is RTL.
func TestRTLWithoutTables(t *testing.T) {
	for i := range letters {
		for _, c := range pointsOf(letters[i]) {
			wantRTL(t, "without tables", api.Tables{}, []int{c}, false)
			wantRTL(t, "without tables", api.Tables{}, []int{'a', c, '1'}, false)
		}
	}
}

// Promise 16.1: rows of each class, those of letters from left to right among them, and the code points around them.
func TestRTLOfRows(t *testing.T) {
	for class := range letters {
		tables := bidiOnly(span(0x1000, 0x1010, class), span(0x20000, 0x20000, class))
		want := isRightToLeft(letters[class : class+1])
		for _, c := range []int{0x1000, 0x1001, 0x1008, 0x100F, 0x1010, 0x20000} {
			wantRTL(t, "in a row", tables, []int{c}, want)
			wantRTL(t, "in a row, among others", tables, []int{'a', '1', c, '-'}, want)
		}
		for _, c := range []int{0xFFF, 0x1011, 0x1FFFF, 0x20001} {
			wantRTL(t, "beside a row", tables, []int{c}, false)
		}
	}
}

// Promise 16.1: every code point.
func TestRTLOfEachCodePoint(t *testing.T) {
	tables := bidiOnly(sample().Bidi...)
	var others []int
	for c := range api.MaxRune + 1 {
		if c >= 0xD800 && c <= 0xDFFF {
			continue
		}
		switch table.Bidi(tables, c) {
		case api.BidiR, api.BidiAL, api.BidiAN:
			wantRTL(t, "alone", tables, []int{c}, true)
		default:
			others = append(others, c)
		}
		if len(others) == most-1 || c == api.MaxRune {
			wantRTL(t, "many others", tables, others, false)
			wantRTL(t, "many others, and alef", tables, append(others, alef), true)
			others = nil
		}
	}
	for c := range 0x80 {
		wantRTL(t, "ASCII", tables, []int{c}, false)
	}
}

// Promise 16.1: labels of MaxRunes elements, with one that decides at each of some places.
func TestRTLOfLongLabels(t *testing.T) {
	for i := range letters {
		c := pointsOf(letters[i])[0]
		want := isRightToLeft(letters[i : i+1])
		wantRTL(t, "only this class", sample(), repeat(c, most), want)
		for _, at := range []int{0, 1, most / 2, most - 2, most - 1} {
			wantRTL(t, "one of this class", sample(), with(repeat(alpha, most), at, c), want)
			wantRTL(t, "one of this class among digits", sample(), with(repeat('1', most), at, c), want)
		}
	}
}
