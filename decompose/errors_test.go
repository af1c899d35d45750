package decompose_test

import (
	"slices"
	"testing"

	"namedesk/api"
	"namedesk/decompose"
)

const most = api.MaxRunes

// join returns lists one after the other.
func join(lists ...[]int) []int { return slices.Concat(lists...) }

func TestMaxRunes(t *testing.T) {
	wantNFD(t, "letters", sample(), repeat('a', most), repeat('a', most))
	wantNFD(t, "marks", sample(), repeat(acute230, most), repeat(acute230, most))
	wantNFD(t, "jamo", sample(), repeat(0x1100, most), repeat(0x1100, most))
	wantNFD(t, "one for one", sample(), repeat(0x2126, most), repeat(0x3A9, most))
	wantNFD(t, "one for one at the end", sample(), join(repeat('a', most-1), []int{0x2126}), join(repeat('a', most-1), []int{0x3A9}))
	wantNFD(t, "marks that are exchanged", sample(), join(repeat(acute230, most/2), repeat(markOf0, most/2)),
		join(repeat(below220, most/2), repeat(acute230, most/2)))
}

// Each of these lists has an NFD of exactly MaxRunes elements, and one more with one more letter.
func TestLongestNFD(t *testing.T) {
	eighteen, c := leftTables()
	for _, row := range []struct {
		name    string
		tables  api.Tables
		l, want []int
	}{
		{"one for two", sample(), repeat(0xE9, most/2), slices.Repeat([]int{'e', acute230}, most/2)},
		{"only the last one", sample(), join(repeat('b', most-2), []int{0xE9}), join(repeat('b', most-2), []int{'e', acute230})},
		{"only the first one", sample(), join([]int{0xE9}, repeat('b', most-2)), join([]int{'e', acute230}, repeat('b', most-2))},
		{"one for three", sample(), join(repeat(0x1EC7, most/3), []int{'b'}), join(slices.Repeat(fulls[0x1EC7], most/3), []int{'b'})},
		{"one for six", sample(), join(repeat('b', most%6), repeat(twice, most/6)), join(repeat('b', most%6), slices.Repeat(fulls[twice], most/6))},
		{"one for eighteen", eighteen, join(repeat('b', most%18), repeat(c, most/18)),
			join(repeat('b', most%18), slices.Repeat(letters(18), most/18))},
		{"syllables", api.Tables{}, repeat(0xAC00, most/2), slices.Repeat([]int{0x1100, 0x1161}, most/2)},
		{"syllables with a trailing consonant", api.Tables{}, join(repeat(0xAC01, most/3), []int{'b'}),
			join(slices.Repeat([]int{0x1100, 0x1161, 0x11A8}, most/3), []int{'b'})},
		{"marks that are exchanged", sample(), repeat(unordered, most/2), join(repeat(below220, most/2), repeat(acute230, most/2))},
	} {
		if len(row.want) != most {
			t.Errorf("%s: %d elements", row.name, len(row.want))
		}
		wantNFD(t, row.name, row.tables, row.l, row.want)
		wantError(t, row.name+", a letter before it", row.tables, join([]int{'b'}, row.l), api.ErrFull)
		wantError(t, row.name+", a letter behind it", row.tables, join(row.l, []int{'b'}), api.ErrFull)
		wantError(t, row.name+", a mark behind it", row.tables, join(row.l, []int{below220}), api.ErrFull)
	}
}

func TestResultIsTooLong(t *testing.T) {
	eighteen, c := rightTables()
	for _, row := range []struct {
		name   string
		tables api.Tables
		l      []int
	}{
		{"one for two, one more than half", sample(), repeat(0xE9, most/2+1)},
		{"one for two", sample(), repeat(0xE9, most)},
		{"only the first one", sample(), join([]int{0xE9}, repeat('a', most-1))},
		{"only the last one", sample(), join(repeat('a', most-1), []int{0xE9})},
		{"only one in the middle", sample(), join(repeat('a', most/2), []int{0xE9}, repeat('a', most/2-1))},
		{"one for three", sample(), repeat(0x1EC7, most/3+1)},
		{"marks", sample(), repeat(0x344, most/2+1)},
		{"one for eighteen", eighteen, repeat(c, most/18+1)},
		{"one for eighteen, as often as possible", eighteen, repeat(c, most)},
		{"syllables", api.Tables{}, repeat(0xAC00, most/2+1)},
		{"syllables with a trailing consonant", api.Tables{}, repeat(0xD7A3, most)},
		{"one syllable", api.Tables{}, join(repeat(0x1100, most-1), []int{0xAC00})},
	} {
		wantError(t, row.name, row.tables, row.l, api.ErrFull)
	}
}

func TestListIsTooLong(t *testing.T) {
	for _, size := range []int{most + 1, most + 2, 2 * most, 1 << 16} {
		for _, tables := range []api.Tables{{}, sample()} {
			for _, c := range []int{'a', acute230, 0x2126, 0xE9, 0xAC01} {
				wantError(t, "too long", tables, repeat(c, size), api.ErrFull)
			}
		}
	}
}

func TestErrRange(t *testing.T) {
	lists := [][]int{
		{'x'}, {'a', 'b', 'c'}, {0xE9}, {0xE9, below220, 0xE8}, {acute230, below220}, {0xAC00, 0xAC01, 0xD7A3},
		repeat('a', most), repeat(acute230, most),
	}
	for _, l := range lists {
		for _, c := range notScalar {
			for _, at := range []int{0, len(l) / 2, len(l) - 1} {
				wrong := slices.Clone(l)
				wrong[at] = c
				wantError(t, "not a scalar value", sample(), wrong, api.ErrRange)
			}
		}
	}
	for _, c := range notScalar {
		wantError(t, "not a scalar value, no tables", api.Tables{}, []int{'a', c}, api.ErrRange)
	}
}

// An element that is no scalar value comes before a result that is too long, wherever it is.
func TestErrRangeBeforeTheLengthOfTheResult(t *testing.T) {
	for _, c := range notScalar {
		for _, filling := range []int{0xE9, 0x1EC7, 0xAC00, 0xAC01, unordered} {
			for _, at := range []int{0, 1, most / 2, most - 1} {
				l := repeat(filling, most)
				l[at] = c
				wantError(t, "a result that is too long, and a number", sample(), l, api.ErrRange)
			}
		}
	}
}

func TestLengthOfTheListBeforeErrRange(t *testing.T) {
	for _, c := range notScalar {
		for _, at := range []int{0, 1, most - 1, most} {
			l := repeat('a', most+1)
			l[at] = c
			wantError(t, "a list that is too long, and a number", sample(), l, api.ErrFull)
		}
		wantError(t, "only numbers", sample(), repeat(c, most+1), api.ErrFull)
	}
}

func TestErrTable(t *testing.T) {
	lists := [][]int{
		nil, {}, {'a'}, {acute230, below220}, {0xE9}, {0xE8, 0xE9}, {0xAC00}, {'a', 0xD800}, {-1},
		repeat('a', most), repeat(0xE9, most), repeat('a', most+1), repeat(-1, most+1), join([]int{-1}, repeat(0xE9, most-1)),
	}
	for _, l := range lists {
		for rule := 1; rule <= 9; rule++ {
			wantError(t, "tables that are not well-formed", violating(rule), l, api.ErrTable)
		}
		wantError(t, "endless tables", endless(), l, api.ErrTable)
	}
}

// The first list is looked at first, whatever is wrong with the second one.
func TestErrorsOfTwoLists(t *testing.T) {
	lists := []struct {
		name string
		l    []int
		e    api.Errno
	}{
		{"no elements", nil, api.OK},
		{"a letter", []int{'a'}, api.OK},
		{"a decomposition", []int{0xE9}, api.OK},
		{"the longest one", repeat('a', most), api.OK},
		{"the longest result", repeat(0xE9, most/2), api.OK},
		{"too long", repeat('a', most+1), api.ErrFull},
		{"too long, with a number", repeat(-1, most+1), api.ErrFull},
		{"a result that is too long", repeat(0xE9, most/2+1), api.ErrFull},
		{"a number", []int{0x110000}, api.ErrRange},
		{"a surrogate", []int{'a', 0xD800}, api.ErrRange},
		{"a number, and a result that is too long", join(repeat(0xE9, most-1), []int{-1}), api.ErrRange},
	}
	for _, a := range lists {
		for _, b := range lists {
			want := a.e
			if want == api.OK {
				want = b.e
			}
			got, e := decompose.Equivalent(sample(), a.l, b.l)
			if e != want || got && (e != api.OK || a.name != b.name) || !got && e == api.OK && a.name == b.name {
				t.Errorf("Equivalent of %s and of %s = %t, %d, want %d", a.name, b.name, got, e, want)
			}
			if got, e := decompose.Equivalent(violating(6), a.l, b.l); got || e != api.ErrTable {
				t.Errorf("Equivalent of %s and of %s with tables that are not well-formed = %t, %d", a.name, b.name, got, e)
			}
		}
	}
}
