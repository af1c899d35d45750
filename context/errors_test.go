package context_test

import (
	"math"
	"testing"

	"namedesk/api"
)

// notScalar are numbers that are no scalar values.
var notScalar = []int{
	0xD800, 0xD801, 0xDBFF, 0xDC00, 0xDFFE, 0xDFFF, api.MaxRune + 1, 0x110000 + middleDot, -1, -el, -middleDot, el + 1<<32, middleDot - 1<<32,
	arabic0 + 1<<32, math.MaxInt32, math.MinInt32, math.MaxInt - 1, math.MaxInt, math.MinInt, math.MinInt + keraia,
}

// listsWithoutErrors are lists that order.Order accepts.
var listsWithoutErrors = [][]int{
	{plain}, {el, middleDot, el}, {plain, keraia, greek}, {hebrew, geresh, plain}, {han, katakanaDot, plain}, {katakanaDot, plain, han},
	{arabic0, arabic9}, {arabic0, extended0, plain}, {middleDot}, {middleDot, middleDot, middleDot, middleDot}, {plain, plain, keraia},
	repeat(plain, most), repeat(middleDot, most), repeat(arabic5, most),
}

// Promises 15.2 and 15.3: numbers that are no scalar values, wherever they are.
func TestErrRange(t *testing.T) {
	for _, l := range listsWithoutErrors {
		for _, c := range notScalar {
			for _, at := range []int{0, len(l) / 2, len(l) - 1} {
				wantRefused(t, "not a scalar value", sample(), with(l, at, c), api.ErrRange)
			}
		}
	}
	for _, c := range notScalar {
		wantRefused(t, "not a scalar value, no tables", api.Tables{}, []int{plain, c}, api.ErrRange)
		wantRefused(t, "only one, no tables", api.Tables{}, []int{c}, api.ErrRange)
	}
}

// Promises 15.2 and 15.3: the index of each element of a list with one that is no scalar value.
func TestErrRangeForEachIndex(t *testing.T) {
	wantExactly(t, "without an error", sample(), amongOthers)
	for at := range amongOthers {
		for _, c := range []int{-1, 0xD800, 0xDFFF, api.MaxRune + 1} {
			l := with(amongOthers, at, c)
			wantCheck(t, "not a scalar value", sample(), l, 0, api.ErrRange)
			for i := range l {
				wantPermitted(t, "not a scalar value", sample(), l, i, false)
			}
		}
	}
}

// Promises 15.2 and 15.3: lists that are too long, and the longest one that is not.
func TestErrFull(t *testing.T) {
	for _, size := range []int{most + 1, most + 2, 2 * most, 1 << 16} {
		for _, c := range []int{plain, el, middleDot, keraia, greek, geresh, hebrew, katakanaDot, han, arabic0, extended0, inherited} {
			for _, tables := range []api.Tables{{}, sample()} {
				wantRefused(t, "too long", tables, repeat(c, size), api.ErrFull)
			}
		}
		wantRefused(t, "too long", sample(), endingWith(size, el, middleDot, el), api.ErrFull)
	}
	l := endingWith(most, el, middleDot, el)
	wantPermitted(t, "as long as it may be", sample(), l, most-2, true)
	wantCheck(t, "as long as it may be", sample(), l, 0, api.OK)
	wantRefused(t, "one before it", sample(), join([]int{plain}, l), api.ErrFull)
	wantRefused(t, "one behind it", sample(), join(l, []int{plain}), api.ErrFull)
	wantPermitted(t, "one less", sample(), l[1:], most-3, true)
	wantCheck(t, "one less", sample(), l[1:], 0, api.OK)
}

// Promises 15.2 and 15.3: tables that are not well-formed, whatever the list is.
func TestErrTable(t *testing.T) {
	lists := append([][]int{nil, {}, {plain, 0xD800}, {-1}, repeat(plain, most+1), repeat(middleDot, most+1), repeat(-1, most+1)}, listsWithoutErrors...)
	for _, l := range lists {
		for rule := 1; rule <= 9; rule++ {
			wantRefused(t, "tables that are not well-formed", violating(rule), l, api.ErrTable)
		}
	}
}

// Promises 15.2 and 15.3: tables whose scripts or classes are not well-formed.
func TestScriptsAndClassesThatAreNotWellFormed(t *testing.T) {
	class := func(s ...api.Span) api.Tables { return api.Tables{Class: s} }
	for _, row := range []struct {
		name   string
		tables api.Tables
	}{
		{"a script below 0", scripts(span(greek, greek, -1))},
		{"a script that there is not", scripts(span(greek, greek, api.MaxScript+1))},
		{"a script of a letter of ASCII", scripts(span(plain, plain, api.Greek))},
		{"a script of the letter l", scripts(span(el, el, api.Latin))},
		{"a script of a syllable", scripts(span(hangul, hangul, api.Han))},
		{"a script of a jamo", scripts(span(0x1100, 0x1100, api.Hangul))},
		{"a script of a surrogate", scripts(span(0xD7FF, 0xE000, api.Han))},
		{"scripts that are not ascending", scripts(span(hebrew, hebrew, api.Hebrew), span(greek, greek, api.Greek))},
		{"scripts over each other", scripts(span(greek, 0x3B3, api.Greek), span(0x3B3, 0x3B4, api.Greek))},
		{"a script from behind to before", scripts(span(0x3B3, greek, api.Greek))},
		{"a script below the code points", scripts(span(-1, -1, api.Greek))},
		{"a script above MaxRune", scripts(span(greek, api.MaxRune+1, api.Greek))},
		{"class 0", class(span(virama, virama, 0))},
		{"class 255", class(span(virama, virama, 255))},
	} {
		for _, l := range [][]int{nil, {plain}, {el, middleDot, el}, {keraia, greek}, {hebrew, geresh}, {han, katakanaDot}, {arabic0}, {keraia}, {0xD800}} {
			wantRefused(t, row.name, row.tables, l, api.ErrTable)
		}
	}
}

// Promise 15.3: several errors at once. Each one comes before those behind it, wherever in the list it is.
func TestOrderOfErrors(t *testing.T) {
	indices := []int{0, 1, most / 2, most - 2, most - 1}
	for _, flaw := range []int{-1, 0xD800, api.MaxRune + 1} {
		for _, which := range []int{middleDot, keraia, geresh, katakanaDot} {
			for _, at := range indices {
				for _, other := range indices {
					l := with(with(repeat(plain, most), other, which), at, flaw)
					wantRefused(t, "one that needs a context, and a number", sample(), l, api.ErrRange)
					wantCheck(t, "too long as well", sample(), join(l, []int{plain}), 0, api.ErrFull)
					wantCheck(t, "tables that are not well-formed as well", violating(9), join(l, []int{plain}), 0, api.ErrTable)
				}
			}
		}
	}
	wantRefused(t, "digits of both kinds, and a number", sample(), []int{arabic0, extended0, -1}, api.ErrRange)
	wantRefused(t, "one that needs a context, and a length", sample(), join([]int{middleDot}, repeat(plain, most)), api.ErrFull)
	wantRefused(t, "one that needs a context, and tables", violating(1), []int{middleDot}, api.ErrTable)
	wantRefused(t, "a number and tables", violating(1), []int{middleDot, -1}, api.ErrTable)
	wantRefused(t, "only numbers, too many", sample(), repeat(-1, most+1), api.ErrFull)
	wantRefused(t, "only numbers", sample(), repeat(-1, most), api.ErrRange)
}
