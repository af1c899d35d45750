package joiner_test

import (
	"math"
	"slices"
	"testing"

	"namedesk/api"
	"namedesk/joiner"
)

// farAway are numbers that are the index of no element of any list of these tests.
var farAway = []int{
	most, most + 1, 1 << 16, 1 << 32, 1<<32 + 1, -2, -most, -1 << 32, 1 - 1<<32, math.MaxInt32, math.MinInt32, math.MaxInt - 1, math.MaxInt,
	math.MinInt, math.MinInt + 1,
}

// Promise 14.1: each neighbour, written out by hand.
func TestNeighbours(t *testing.T) {
	for _, row := range []struct {
		name        string
		l           []int
		i           int
		left, right int
	}{
		{"the only element", []int{plain}, 0, -1, -1},
		{"the only element, Transparent", []int{transparent}, 0, -1, -1},
		{"the only element, a joiner", []int{zwnj}, 0, -1, -1},
		{"the first of two", []int{plain, dual}, 0, -1, 1},
		{"the last of two", []int{plain, dual}, 1, 0, -1},
		{"the first of three", []int{right, zwnj, left}, 0, -1, 1},
		{"in the middle", []int{right, zwnj, left}, 1, 0, 2},
		{"the last of three", []int{right, zwnj, left}, 2, 1, -1},
		{"the nearest ones of several", []int{dual, dual, dual, zwnj, dual, dual, dual}, 3, 2, 4},

		{"behind one that is Transparent", []int{dual, transparent, zwnj, right}, 2, 0, 3},
		{"before one that is Transparent", []int{dual, zwnj, transparent, right}, 1, 0, 3},
		{"between two that are Transparent", []int{dual, transparent, zwnj, transparent2, right}, 2, 0, 4},
		{"behind several that are Transparent", []int{dual, transparent, transparent, transparent2, zwnj, right}, 4, 0, 5},
		{"before several that are Transparent", []int{dual, zwnj, transparentAD, transparent7, transparent8, right}, 1, 0, 5},
		{"only Transparent ones before it", []int{transparent, transparent2, zwnj, right}, 2, -1, 3},
		{"only Transparent ones behind it", []int{left, zwnj, transparent, transparent2}, 1, 0, -1},
		{"only Transparent ones on both sides", []int{transparent, zwnj, transparent2}, 1, -1, -1},
		{"the first of only Transparent ones", []int{transparent, transparent, transparent}, 0, -1, -1},
		{"the middle of only Transparent ones", []int{transparent, transparent, transparent}, 1, -1, -1},
		{"the last of only Transparent ones", []int{transparent, transparent, transparent}, 2, -1, -1},
		{"a first one behind what is Transparent", []int{plain, transparent, dual}, 2, 0, -1},
		{"Transparent ones beyond the neighbours", []int{plain, transparent, plain, zwnj, plain, transparent, plain}, 3, 2, 4},
		{"two groups of Transparent ones", []int{plain, transparent, plain, transparent, zwnj, transparent, plain, transparent, plain}, 4, 2, 6},

		{"a Transparent element itself", []int{dual, transparent, right}, 1, 0, 2},
		{"the first of several that are Transparent", []int{dual, transparent, transparent2, transparent, right}, 1, 0, 4},
		{"the last of several that are Transparent", []int{dual, transparent, transparent2, transparent, right}, 3, 0, 4},
		{"a Transparent element at the beginning", []int{transparent, dual}, 0, -1, 1},
		{"a Transparent element at the end", []int{dual, transparent}, 1, 0, -1},
		{"an element that joins nothing", []int{dual, plain, right}, 1, 0, 2},

		{"ZWNJ on both sides", []int{dual, zwnj, zwnj, zwnj, right}, 2, 1, 3},
		{"ZWJ on both sides", []int{dual, zwj, zwnj, zwj, right}, 2, 1, 3},
		{"ZWNJ behind what is Transparent", []int{dual, zwnj, transparent, plain, transparent, zwnj, right}, 3, 1, 5},
		{"ZWJ behind what is Transparent", []int{dual, zwj, transparent, plain, transparent, zwj, right}, 3, 1, 5},
		{"an ignorable one that is not Transparent", []int{plain, 0x200B, plain, 0x200E, plain}, 2, 1, 3},
		{"a mark that is not Transparent", []int{plain, rightMark, plain, 0x302, plain}, 2, 1, 3},
		{"an ignored one that is not Transparent", []int{plain, right, plain, right, plain}, 2, 1, 3},
		{"Transparent ones with the class Virama", []int{dual, virama, zwnj, virama, right}, 2, 0, 4},
		{"other ones with the class Virama", []int{dual, nonVirama, zwnj, leftVirama, right}, 2, 1, 3},
		{"marks that are not in order", []int{dual, transparent, transparent7, 0x302, transparent8, plain, transparent, rightMark, transparent7, dual}, 5, 3, 7},
		{"the last code point is Transparent", []int{dual, api.MaxRune, zwnj, api.MaxRune, right}, 2, 0, 4},
	} {
		wantNeighbours(t, row.name, sample(), row.l, row.i, row.left, row.right)
	}
}

// Promise 14.1: each joining type as a neighbour, by itself and behind what is Transparent.
func TestNeighboursOfEachJoiningType(t *testing.T) {
	const c = 0x1234
	for joining := range api.Transparent + 1 {
		tables := api.Tables{Joining: spans{span(transparent, transparent, api.Transparent), span(c, c, joining)}}
		near, far := 0, 4
		if joining == api.Transparent {
			near, far = -1, -1
		}
		wantNeighbours(t, "next to it", tables, []int{c, zwnj, c}, 1, near, min(far, 2))
		wantNeighbours(t, "behind what is Transparent", tables, []int{c, transparent, zwnj, transparent, c}, 2, near, far)
	}
	wantNeighbours(t, "without a row", api.Tables{}, []int{c, plain, c}, 1, 0, 2)
}

// Promise 14.1: joiners are searched through if the tables call them Transparent, and found otherwise.
func TestJoinersAsNeighbours(t *testing.T) {
	for _, c := range []int{zwnj, zwj} {
		for joining := range api.Transparent + 1 {
			tables := api.Tables{Joining: spans{span(c, c, joining)}}
			l := []int{'x', c, c, 'y', c, c, 'z'}
			if joining == api.Transparent {
				wantNeighbours(t, "Transparent joiners", tables, l, 3, 0, 6)
				wantNeighbours(t, "Transparent joiners", tables, l, 1, 0, 3)
			} else {
				wantNeighbours(t, "joiners", tables, l, 3, 2, 4)
				wantNeighbours(t, "joiners", tables, l, 1, 0, 2)
			}
		}
	}
}

// Promises 14.1 and 14.2: numbers that are no index of an element.
func TestIndicesWithoutAnElement(t *testing.T) {
	for _, l := range [][]int{
		nil, {}, []int{plain, dual}[:0], {plain}, {zwnj}, {zwj}, {dual, right}, {dual, transparent, right}, {dual, zwnj, right},
		{virama, zwj, virama, zwnj}, repeat(dual, 100), repeat(transparent, 100), repeat(plain, most),
	} {
		for _, tables := range []api.Tables{{}, sample()} {
			wantNoElement(t, "before the first element", tables, l, -1)
			wantNoElement(t, "behind the last element", tables, l, len(l))
			wantNoElement(t, "behind it by one", tables, l, len(l)+1)
			for _, i := range farAway {
				wantNoElement(t, "far away", tables, l, i)
			}
		}
	}
}

// Rule R2: unused capacity has no elements.
func TestUnusedCapacityHasNoElements(t *testing.T) {
	long := []int{dual, zwnj, transparent, right, plain, virama, zwj}
	for size := range len(long) {
		l := long[:size]
		for i := size; i <= len(long); i++ {
			wantNoElement(t, "unused capacity", sample(), l, i)
		}
	}
	wantNeighbours(t, "Right would be in unused capacity", sample(), long[:3], 1, 0, -1)
	wantExactly(t, "Right would be in unused capacity", sample(), long[:3], 1)
	wantExactly(t, "Right is not", sample(), long[:4])
	wantNeighbours(t, "Left would be before the slice", sample(), long[2:], 0, -1, 1)
	wantExactly(t, "Left would be before the slice", sample(), long[1:], 0)
	wantExactly(t, "the virama would be before the slice", sample(), long[6:], 0)
}

// Promise 14.1: each index of long sequences, with results from one end to the other.
func TestLongNeighbours(t *testing.T) {
	only := repeat(transparent, most)
	first, last := with(only, 0, dual), with(only, most-1, right)
	both := with(first, most-1, right)
	middle := with(only, most/2, plain)
	for _, i := range []int{0, 1, 2, 63, 64, most/2 - 1, most / 2, most/2 + 1, most - 3, most - 2, most - 1} {
		l, r := -1, -1
		wantNeighbours(t, "only Transparent ones", sample(), only, i, l, r)
		if i > 0 {
			l = 0
		}
		wantNeighbours(t, "all but the first", sample(), first, i, l, -1)
		if i < most-1 {
			r = most - 1
		}
		wantNeighbours(t, "all but the last", sample(), last, i, -1, r)
		wantNeighbours(t, "all but the first and the last", sample(), both, i, l, r)
		l, r = -1, -1
		if i > most/2 {
			l = most / 2
		}
		if i < most/2 {
			r = most / 2
		}
		wantNeighbours(t, "all but one in the middle", sample(), middle, i, l, r)
		wantNeighbours(t, "no Transparent ones", api.Tables{}, only, i, i-1, []int{i + 1, -1}[(i+1)/most])
	}
}

// Promise 14.1: each code point as a neighbour, and as one that is searched through.
func TestEachCodePointAsANeighbour(t *testing.T) {
	tables := sample()
	for c := range api.MaxRune + 1 {
		isAtEdge := c < 0x1200 || c&0xFF == 0 || c&0xFF == 0xFF || c&^0xFF == 0x2000
		isSurrogate := c >= 0xD800 && c <= 0xDFFF
		if isSurrogate || !isAtEdge && joiningOf[c] == api.NonJoining {
			continue
		}
		if joiningOf[c] == api.Transparent {
			wantNeighbours(t, "a Transparent one", tables, []int{'x', c, plain, c, 'y'}, 2, 0, 4)
		} else {
			wantNeighbours(t, "one that is not Transparent", tables, []int{'x', c, plain, c, 'y'}, 2, 1, 3)
		}
	}
}

// Promise 14.1: with MaxRows rows, each of another joining type than the one before it.
func TestNeighboursWithMaxRows(t *testing.T) {
	const from = 0xF0000
	var tables api.Tables
	for i := range api.MaxRows {
		tables.Joining = append(tables.Joining, span(from+3*i, from+3*i+1, i%(api.Transparent+1)))
	}
	for i := range api.MaxRows {
		for _, c := range []int{from + 3*i, from + 3*i + 1} {
			if i%(api.Transparent+1) == api.Transparent {
				wantNeighbours(t, "Transparent", tables, []int{'x', c, 'y', c, 'z'}, 2, 0, 4)
			} else {
				wantNeighbours(t, "not Transparent", tables, []int{'x', c, 'y', c, 'z'}, 2, 1, 3)
			}
		}
		wantNeighbours(t, "between the rows", tables, []int{'x', from + 3*i + 2, 'y', from + 3*i + 2, 'z'}, 2, 1, 3)
	}
}

// Rule R3: the result depends on the tables of this call, not on those of an earlier one.
func TestOtherTables(t *testing.T) {
	other := api.Tables{
		Class:   spans{span(transparent, transparent, api.Virama)},
		Joining: spans{span(dual, dual, api.Transparent), span(transparent, transparent, api.RightJoining)},
	}
	l := []int{dual, transparent, zwnj, right, virama, zwj}
	for range 3 {
		wantNeighbours(t, "sample", sample(), l, 2, 0, 3)
		wantExactly(t, "sample", sample(), l)
		wantNeighbours(t, "other", other, l, 1, -1, 2)
		wantNeighbours(t, "other", other, l, 2, 1, 3)
		wantExactly(t, "other", other, l, 5)
		wantNeighbours(t, "none", api.Tables{}, l, 2, 1, 3)
		wantExactly(t, "none", api.Tables{}, l, 2, 5)
	}
	if joiner.Left(sample(), slices.Clone(l), 2) != joiner.Left(sample(), l, 2) {
		t.Error("Left of a copy is another one")
	}
}
