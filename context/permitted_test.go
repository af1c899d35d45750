package context_test

import (
	"math"
	"slices"
	"testing"

	"namedesk/api"
)

// Promises 15.2 and 15.3: the examples of the chapter.
func TestExamples(t *testing.T) {
	for _, tables := range []api.Tables{{}, sample()} {
		wantExactly(t, "0xB7 between two", tables, []int{0x6C, 0xB7, 0x6C})
		wantExactly(t, "0xB7 behind one", tables, []int{0x6C, 0xB7}, 1)
	}
}

// Promise 15.2: indices of no element.
func TestIndicesOfNoElement(t *testing.T) {
	far := []int{math.MinInt, math.MinInt + 1, math.MinInt32, -1 << 32, -100, -2, -1, math.MaxInt32, 1 << 32, 1<<32 + 1, math.MaxInt - 1, math.MaxInt}
	for _, l := range [][]int{nil, {}, {plain}, {middleDot}, {el, middleDot, el}, {han, katakanaDot}, {arabic0, arabic9}, repeat(plain, most)} {
		for _, i := range append(far, len(l), len(l)+1, len(l)+2, 2*len(l)+1, -len(l)-1) {
			wantPermitted(t, "no element", sample(), l, i, false)
			wantPermitted(t, "no element, no tables", api.Tables{}, l, i, false)
		}
	}
}

// Promises 15.2 and 15.3: what needs no context is permitted everywhere, with or without tables.
func TestElementsThatNeedNoContext(t *testing.T) {
	for _, tables := range []api.Tables{{}, sample()} {
		wantExactly(t, "no code points", tables, nil)
		wantExactly(t, "no code points, but memory", tables, []int{})
		wantExactly(t, "one", tables, []int{plain})
		wantExactly(t, "ASCII", tables, []int{0, ' ', '.', '-', '0', 'A', el, 0x7F})
		wantExactly(t, "joiners", tables, []int{api.ZWNJ, plain, api.ZWJ})
		wantExactly(t, "scripts", tables, []int{latin, greek, cyrillic, hebrew, arabicLetter, han, hiragana, katakana, hangul, inherited})
		wantExactly(t, "digits of ASCII", tables, []int{'0', arabic0, '9', arabic9, '5'})
		wantExactly(t, "digits of ASCII next to the other ones", tables, []int{'0', extended0, '9', extended9, '5'})
		wantExactly(t, "neighbours of the digits", tables, []int{0x65F, extended0, 0x66A, extended9})
		wantExactly(t, "neighbours of the other ones", tables, []int{0x6EF, arabic0, 0x6FA, arabic9})
	}
}

// Promises 15.2 and 15.3: every code point in a sequence that has nothing that permits others.
func TestEachCodePoint(t *testing.T) {
	for _, tables := range []api.Tables{{}, sample()} {
		var l []int
		for c := range api.MaxRune + 1 {
			isSurrogate := c >= 0xD800 && c <= 0xDFFF
			if !isSurrogate && !slices.Contains(needing, c) {
				l = append(l, c)
			}
			if len(l) == most || c == api.MaxRune {
				wantCheck(t, "none needs a context", tables, l, 0, api.OK)
				wantCheck(t, "only the last one does", tables, with(l, len(l)-1, middleDot), len(l)-1, api.ErrContext)
				l = nil
			}
		}
	}
	for c := range 0x3200 {
		isDigit := c >= 0x660 && c <= 0x669 || c >= 0x6F0 && c <= 0x6F9
		wantOne(t, "alone", api.Tables{}, []int{c}, 0, isDigit || !slices.Contains(needing, c))
	}
}
