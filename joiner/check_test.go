package joiner_test

import (
	"testing"

	"namedesk/api"
)

// Promise 14.3: the index is that of the first element that is not permitted, wherever others are.
func TestCheck(t *testing.T) {
	for _, row := range []struct {
		name string
		l    []int
		at   int
	}{
		{"the only one", []int{zwj}, 0},
		{"the first one", []int{zwnj, plain, plain}, 0},
		{"one in the middle", []int{plain, zwj, plain}, 1},
		{"the last one", []int{plain, plain, zwnj}, 2},
		{"the first and the last one", []int{zwj, plain, zwj}, 0},
		{"several in the middle", []int{plain, zwj, plain, zwnj, zwj, plain}, 1},
		{"the last two", []int{plain, plain, zwj, zwnj}, 2},
		{"all of them", []int{zwj, zwj, zwj}, 0},
		{"behind one that a virama permits", []int{virama, zwj, plain, zwj, plain}, 3},
		{"directly behind one that a virama permits", []int{plain, virama, zwj, zwj}, 3},
		{"behind one that stands between two that join", []int{dual, zwnj, dual, zwj, dual}, 3},
		{"behind several that are permitted", []int{dual, zwnj, dual, virama, zwj, plain, virama, zwnj, zwnj}, 8},
		{"before one that is permitted", []int{plain, zwnj, dual, zwnj, dual}, 1},
		{"between two that are permitted", []int{dual, zwnj, dual, plain, zwnj, virama, zwj}, 4},
		{"ZWJ before ZWNJ", []int{plain, zwj, plain, zwnj}, 1},
		{"ZWNJ before ZWJ", []int{plain, zwnj, plain, zwj}, 1},
		{"before marks that are not in order", []int{plain, zwj, 0x302, transparent7, virama, zwj}, 1},
		{"behind marks that are not in order", []int{plain, 0x302, virama, zwj, transparent7, zwj}, 5},
	} {
		wantCheck(t, row.name, sample(), row.l, row.at, api.ErrJoiner)
	}
}

// Promise 14.3: sequences in which each element is permitted.
func TestCheckOfWhatIsPermitted(t *testing.T) {
	for _, row := range []struct {
		name string
		l    []int
	}{
		{"no code points", nil},
		{"no code points, but memory", []int{}},
		{"no joiners", []int{plain, right, virama, '.', ' ', 0}},
		{"one that a virama permits", []int{0x915, virama, zwj}},
		{"one between two that join", []int{dual, zwnj, dual}},
		{"one for either reason", []int{dual, zwnj, right, 0x915, virama, zwj, 0x915}},
		{"one for both reasons", []int{dual, virama, zwnj, dual}},
		{"several for the same reason", []int{dual, zwnj, dual, zwnj, dual, transparent, zwnj, transparent, right}},
		{"code points that are not normalized", []int{'e', rightMark, transparent7, 0xE9, 0x1100, 0x1161}},
	} {
		wantCheck(t, row.name, sample(), row.l, 0, api.OK)
	}
}

// Promise 14.3: among joiners that are permitted, one that is not, and two, in the place of each letter.
func TestCheckAtEachIndex(t *testing.T) {
	among := []int{
		plain, plain, virama, zwj, plain, plain, dual, zwnj, dual, plain, left, transparent, zwnj, transparent, right, plain, plain,
	}
	wantExactly(t, "without one", sample(), among)
	for at := range among {
		if among[at] != plain {
			continue
		}
		for _, c := range []int{zwnj, zwj} {
			l := with(among, at, c)
			wantExactly(t, "one", sample(), l, at)
			for later := at + 1; later < len(l); later++ {
				if l[later] == plain {
					wantExactly(t, "ZWNJ later", sample(), with(l, later, zwnj), at, later)
					wantExactly(t, "ZWJ later", sample(), with(l, later, zwj), at, later)
				}
			}
		}
	}
}

// Promise 14.3: long sequences.
func TestLongChecks(t *testing.T) {
	pair := []int{dual, zwnj}
	for _, row := range []struct {
		name string
		l    []int
		at   int
		e    api.Errno
	}{
		{"no joiners", repeat(dual, most), 0, api.OK},
		{"only Transparent ones", repeat(transparent, most), 0, api.OK},
		{"only ZWNJ", repeat(zwnj, most), 0, api.ErrJoiner},
		{"only ZWJ", repeat(zwj, most), 0, api.ErrJoiner},
		{"only the first one is none", with(repeat(zwj, most), 0, virama), 2, api.ErrJoiner},
		{"only the first one", with(repeat(dual, most), 0, zwnj), 0, api.ErrJoiner},
		{"only the last one", with(repeat(dual, most), most-1, zwnj), most - 1, api.ErrJoiner},
		{"the last one, which is permitted", endingWith(most, virama, zwj), 0, api.OK},
		{"the last one, which is not", endingWith(most, virama, plain, zwj), most - 1, api.ErrJoiner},
		{"one between two that join", with(repeat(dual, most), most/2, zwnj), 0, api.OK},
		{"every second one", repeatAll(pair, most/2), most - 1, api.ErrJoiner},
		{"every second one but the last", with(repeatAll(pair, most/2), most-1, right), 0, api.OK},
		{"every second one, with a virama", repeatAll([]int{virama, zwj}, most/2), 0, api.OK},
		{"every second one, with one that is no virama", with(repeatAll([]int{virama, zwj}, most/2), most-2, plain), most - 1, api.ErrJoiner},
		{"two that join at both ends", join([]int{left}, repeat(transparent, most-3), []int{zwnj, right}), 0, api.OK},
		{"two that join at both ends, behind it", join([]int{left, zwnj}, repeat(transparent, most-3), []int{right}), 0, api.OK},
		{"two that do not join at both ends", join([]int{right}, repeat(transparent, most-3), []int{zwnj, right}), most - 2, api.ErrJoiner},
		{"one end is missing", join([]int{left, zwnj}, repeat(transparent, most-2)), 1, api.ErrJoiner},
	} {
		if len(row.l) != most {
			t.Errorf("%s: %d elements", row.name, len(row.l))
		}
		wantCheck(t, row.name, sample(), row.l, row.at, row.e)
	}
}

// repeatAll returns the elements of l count times.
func repeatAll(l []int, count int) []int {
	var all []int
	for range count {
		all = append(all, l...)
	}
	return all
}

// Promises 14.1 to 14.3: a long sequence of joiners that are Transparent, each with the same neighbours.
func TestLongSequenceOfTransparentJoiners(t *testing.T) {
	tables := sample()
	for i, s := range tables.Joining {
		if s.From == zwj {
			tables.Joining[i] = span(zwnj, zwj, api.Transparent)
		}
	}
	l := join([]int{dual}, repeat(zwnj, most-2), []int{right})
	wantCheck(t, "between two that join", tables, l, 0, api.OK)
	wantCheck(t, "between two that do not", tables, with(l, 0, right), 1, api.ErrJoiner)
	wantCheck(t, "one is ZWJ", tables, with(l, most-3, zwj), most-3, api.ErrJoiner)
	for _, i := range []int{1, 2, most / 2, most - 3, most - 2} {
		wantNeighbours(t, "between two that join", tables, l, i, 0, most-1)
		wantPermitted(t, "between two that join", tables, l, i, true)
		wantPermitted(t, "between two that do not", tables, with(l, most-1, plain), i, false)
	}
}
