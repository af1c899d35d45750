package joiner_test

import (
	"math"
	"slices"
	"testing"

	"namedesk/api"
)

// notScalar are numbers that are no scalar values.
var notScalar = []int{
	0xD800, 0xD801, 0xDBFF, 0xDC00, 0xDFFE, 0xDFFF, api.MaxRune + 1, 0x110000 + zwj, -1, -zwnj, -dual, zwnj + 1<<32, zwj - 1<<32, dual + 1<<32,
	math.MaxInt32, math.MinInt32, math.MaxInt - 1, math.MaxInt, math.MinInt, math.MinInt + zwj,
}

// Promises 14.1 to 14.3: numbers that are no scalar values, wherever they are.
func TestErrRange(t *testing.T) {
	lists := [][]int{
		{'x'}, {dual, zwnj, right}, {dual, transparent, zwnj, transparent, right}, {virama, zwj}, {zwj, plain}, {plain, plain, zwnj},
		{zwj, zwj, zwj, zwj}, repeat(dual, most), repeat(zwj, most),
	}
	for _, l := range lists {
		for _, c := range notScalar {
			for _, at := range []int{0, len(l) / 2, len(l) - 1} {
				wantRefused(t, "not a scalar value", sample(), with(l, at, c), api.ErrRange)
			}
		}
	}
	for _, c := range notScalar {
		wantRefused(t, "not a scalar value, no tables", api.Tables{}, []int{'a', c}, api.ErrRange)
	}
}

// Promises 14.1 to 14.3: the index of each element of a list with one that is no scalar value.
func TestErrRangeForEachIndex(t *testing.T) {
	l := []int{dual, zwnj, right, plain, transparent, virama, zwj, dual, transparent, zwnj, right, plain}
	wantExactly(t, "without an error", sample(), l)
	for at := range l {
		for _, c := range []int{-1, 0xD800, 0xDFFF, api.MaxRune + 1} {
			for i := range l {
				wantNoElement(t, "not a scalar value", sample(), with(l, at, c), i)
			}
		}
	}
}

// Promises 14.1 to 14.3: lists that are too long, and the longest one that is not.
func TestErrFull(t *testing.T) {
	for _, size := range []int{most + 1, most + 2, 2 * most, 1 << 16} {
		for _, c := range []int{plain, dual, transparent, virama, zwnj, zwj, 0x302} {
			for _, tables := range []api.Tables{{}, sample()} {
				wantRefused(t, "too long", tables, repeat(c, size), api.ErrFull)
			}
		}
		wantRefused(t, "too long", sample(), endingWith(size, dual, zwnj, right), api.ErrFull)
	}
	l := endingWith(most, dual, transparent, zwnj, right)
	wantExactlyAt(t, "as long as it may be", l, most-2, most-4, most-1)
	wantRefused(t, "one before it", sample(), join([]int{plain}, l), api.ErrFull)
	wantRefused(t, "one behind it", sample(), join(l, []int{plain}), api.ErrFull)
	wantExactlyAt(t, "one less", l[1:], most-3, most-5, most-2)
}

// wantExactlyAt compares the results of all functions for a list in which the element with index i is permitted
// as all others are.
func wantExactlyAt(t *testing.T, name string, l []int, i, wantLeft, wantRight int) {
	t.Helper()
	wantNeighbours(t, name, sample(), l, i, wantLeft, wantRight)
	wantPermitted(t, name, sample(), l, i, true)
	wantCheck(t, name, sample(), l, 0, api.OK)
}

// Promises 14.1 to 14.3: tables that are not well-formed, whatever the list is.
func TestErrTable(t *testing.T) {
	lists := [][]int{
		nil, {}, {plain}, {plain, plain, plain}, {zwj}, {zwnj, plain}, {dual, zwnj, right}, {dual, transparent, zwnj, right}, {virama, zwj},
		{plain, zwj, plain}, {plain, 0xD800}, {-1}, repeat(dual, most), repeat(zwj, most), repeat(plain, most+1), repeat(-1, most+1),
	}
	for _, l := range lists {
		for rule := 1; rule <= 9; rule++ {
			wantRefused(t, "tables that are not well-formed", violating(rule), l, api.ErrTable)
		}
	}
}

// Promises 14.1 to 14.3: tables whose joining types or classes are not well-formed.
func TestJoiningTypesAndClassesThatAreNotWellFormed(t *testing.T) {
	joining := func(s ...api.Span) api.Tables { return api.Tables{Joining: s} }
	class := func(s ...api.Span) api.Tables { return api.Tables{Class: s} }
	for _, row := range []struct {
		name   string
		tables api.Tables
	}{
		{"a joining type below 0", joining(span(dual, dual, -1))},
		{"a joining type that there is not", joining(span(dual, dual, api.Transparent+1))},
		{"a joining type of a letter of ASCII", joining(span(plain, plain, api.DualJoining))},
		{"a joining type of a syllable", joining(span(0xAC00, 0xAC00, api.Transparent))},
		{"a joining type of a surrogate", joining(span(0xD000, 0xE000, api.Transparent))},
		{"joining types that are not ascending", joining(span(dual, dual, api.DualJoining), span(right, right, api.RightJoining))},
		{"joining types over each other", joining(span(right, dual, api.DualJoining), span(dual, dual, api.DualJoining))},
		{"a joining type from behind to before", joining(span(dual, right, api.DualJoining))},
		{"a joining type above MaxRune", joining(span(dual, api.MaxRune+1, api.DualJoining))},
		{"class 0", class(span(virama, virama, 0))},
		{"class 255", class(span(virama, virama, 255))},
		{"a class of a letter of ASCII", class(span(plain, plain, api.Virama))},
		{"classes over each other", class(span(virama, virama, api.Virama), span(virama, virama, api.Virama))},
	} {
		for _, l := range [][]int{nil, {plain}, {dual, zwnj, dual}, {virama, zwj}, {zwj}, {0xD800}} {
			wantRefused(t, row.name, row.tables, l, api.ErrTable)
		}
	}
}

// Promise 14.3: several errors at once. Each one comes before those behind it, wherever in the list it is.
func TestOrderOfErrors(t *testing.T) {
	indices := []int{0, 1, most / 2, most - 2, most - 1}
	for _, flaw := range []int{-1, 0xD800, api.MaxRune + 1} {
		for _, which := range []int{zwnj, zwj} {
			for _, at := range indices {
				for _, other := range indices {
					l := with(with(repeat(plain, most), other, which), at, flaw)
					wantRefused(t, "a joiner and a number", sample(), l, api.ErrRange)
					wantCheck(t, "too long as well", sample(), join(l, []int{plain}), 0, api.ErrFull)
					wantCheck(t, "tables that are not well-formed as well", violating(9), join(l, []int{plain}), 0, api.ErrTable)
				}
			}
		}
	}
	wantRefused(t, "a joiner and a length", sample(), join([]int{zwj}, repeat(plain, most)), api.ErrFull)
	wantRefused(t, "a joiner and tables", violating(1), []int{zwj}, api.ErrTable)
	wantRefused(t, "a number and tables", violating(1), []int{zwj, -1}, api.ErrTable)
	wantRefused(t, "only numbers, too many", sample(), repeat(-1, most+1), api.ErrFull)
	wantRefused(t, "only numbers", sample(), repeat(-1, most), api.ErrRange)
}

// Promise 14.2: what is no joiner is not permitted either, if there is an error.
func TestNoJoinersInListsWithErrors(t *testing.T) {
	for _, l := range [][]int{{plain, -1}, {-1, plain}, {dual, 0xD800, dual}, slices.Repeat([]int{plain}, most+1)} {
		for i := range min(len(l), 3) {
			wantNoElement(t, "an error", sample(), l, i)
		}
	}
	wantNoElement(t, "tables that are not well-formed", violating(2), []int{plain, plain}, 0)
	wantNoElement(t, "tables that are not well-formed", violating(2), []int{plain, plain}, 1)
}
