package compose_test

import (
	"slices"
	"testing"

	"namedesk/api"
	"namedesk/compose"
)

const most = api.MaxRunes

func TestMaxRunes(t *testing.T) {
	wantNFC(t, "letters", sample(), repeat('a', most), repeat('a', most))
	wantNFC(t, "marks", sample(), repeat(acute230, most), repeat(acute230, most))
	wantNFC(t, "consonants", sample(), repeat(0x1100, most), repeat(0x1100, most))
	wantNFC(t, "one for one", sample(), repeat(0x2126, most), repeat(0x3A9, most))
	wantNFC(t, "two for one", sample(), slices.Repeat([]int{'e', acute230}, most/2), repeat(0xE9, most/2))
	wantNFC(t, "the same two for one", sample(), repeat('d', most), repeat(twice, most/2))
	wantNFC(t, "jamo", sample(), slices.Repeat([]int{0x1100, 0x1161}, most/2), repeat(0xAC00, most/2))
	wantNFC(t, "at the end", sample(), join(repeat('a', most-2), []int{'e', acute230}), join(repeat('a', most-2), []int{0xE9}))
	wantNFC(t, "a letter with all marks", sample(), join([]int{'e'}, repeat(ring230, most-2), []int{below220}),
		join([]int{0x1EB9}, repeat(ring230, most-2)))
	wantNFC(t, "the last mark is blocked", sample(), join([]int{'e'}, repeat(ring230, most-2), []int{acute230}),
		join([]int{'e'}, repeat(ring230, most-2), []int{acute230}))
	wantNFC(t, "the last mark is not blocked", sample(), join([]int{'e'}, repeat(below220b, most-2), []int{acute230}),
		join([]int{0xE9}, repeat(below220b, most-2)))
}

// Each of these lists has an NFD of exactly MaxRunes elements, and one more with one more letter.
func TestLongestNFD(t *testing.T) {
	for _, row := range []struct {
		name    string
		tables  api.Tables
		l, want []int
	}{
		{"one of two", sample(), repeat(0xE9, most/2), repeat(0xE9, most/2)},
		{"only the last one", sample(), join(repeat('a', most-2), []int{0xE9}), join(repeat('a', most-2), []int{0xE9})},
		{"only the first one", sample(), join([]int{0xE9}, repeat('a', most-2)), join([]int{0xE9}, repeat('a', most-2))},
		{"one of three", sample(), join(repeat(0x1EC7, most/3), []int{'a'}), join(repeat(0x1EC7, most/3), []int{'a'})},
		{"excluded", sample(), repeat(excludedTwin, most/2), repeat(0xE9, most/2)},
		{"not composable", sample(), join(repeat(lesserMark, most/3), []int{'a'}),
			join(slices.Repeat([]int{0x1EB9, acute230}, most/3), []int{'a'})},
		{"syllables", api.Tables{}, repeat(0xAC00, most/2), repeat(0xAC00, most/2)},
		{"syllables with a trailing consonant", api.Tables{}, join(repeat(0xAC01, most/3), []int{'a'}), join(repeat(0xAC01, most/3), []int{'a'})},
		{"letters that compose otherwise", sample(), join([]int{'d'}, repeat(twice, most/2-1), []int{'d'}), repeat(twice, most/2)},
	} {
		wantNFC(t, row.name, row.tables, row.l, row.want)
		wantError(t, row.name+", a letter before it", row.tables, join([]int{'a'}, row.l), api.ErrFull)
		wantError(t, row.name+", a letter behind it", row.tables, join(row.l, []int{'a'}), api.ErrFull)
		wantError(t, row.name+", a mark behind it", row.tables, join(row.l, []int{below220}), api.ErrFull)
	}
}

// The NFD counts, also where NFC would be as short as the list.
func TestNFDIsTooLong(t *testing.T) {
	for _, row := range []struct {
		name   string
		tables api.Tables
		l      []int
	}{
		{"one of two, one more than half", sample(), repeat(0xE9, most/2+1)},
		{"one of two", sample(), repeat(0xE9, most)},
		{"only the first one", sample(), join([]int{0xE9}, repeat('a', most-1))},
		{"only the last one", sample(), join(repeat('a', most-1), []int{0xE9})},
		{"one of three", sample(), repeat(0x1EC7, most/3+1)},
		{"excluded", sample(), repeat(excludedTwin, most/2+1)},
		{"marks", sample(), repeat(0x344, most/2+1)},
		{"syllables", api.Tables{}, repeat(0xAC00, most/2+1)},
		{"syllables with a trailing consonant", api.Tables{}, repeat(0xD7A3, most)},
		{"one syllable", api.Tables{}, join(repeat(0x1100, most-1), []int{0xAC00})},
	} {
		wantError(t, row.name, row.tables, row.l, api.ErrFull)
	}
}

func TestListIsTooLong(t *testing.T) {
	for _, size := range []int{most + 1, most + 2, 2 * most, 1 << 16} {
		for _, tables := range []api.Tables{{}, sample()} {
			for _, c := range []int{'a', 'd', acute230, 0x2126, 0xE9, 0xAC01} {
				wantRefused(t, "too long", tables, repeat(c, size), api.ErrFull)
			}
		}
	}
	wantRefused(t, "NFC would not be too long", sample(), join([]int{'e', acute230}, repeat('a', most-1)), api.ErrFull)
}

func TestErrRange(t *testing.T) {
	lists := [][]int{
		{'x'}, {'a', 'b', 'c'}, {0xE9}, {'e', acute230, 'e', grave230}, {acute230, below220}, {0xAC00, 0xAC01, 0xD7A3},
		repeat('a', most), repeat('d', most), repeat(acute230, most),
	}
	for _, l := range lists {
		for _, c := range notScalar {
			for _, at := range []int{0, len(l) / 2, len(l) - 1} {
				wrong := slices.Clone(l)
				wrong[at] = c
				wantRefused(t, "not a scalar value", sample(), wrong, api.ErrRange)
			}
		}
	}
	for _, c := range notScalar {
		wantRefused(t, "not a scalar value, no tables", api.Tables{}, []int{'a', c}, api.ErrRange)
		wantRefused(t, "not a scalar value, which would be No in any case", sample(), []int{0x958, c}, api.ErrRange)
	}
}

// An element that is no scalar value comes before a result that is too long, wherever it is.
func TestErrRangeBeforeTheLengthOfTheResult(t *testing.T) {
	for _, c := range notScalar {
		for _, filling := range []int{0xE9, 0x1EC7, 0xAC00, 0xAC01, excludedTwin} {
			for _, at := range []int{0, 1, most / 2, most - 1} {
				l := repeat(filling, most)
				l[at] = c
				wantRefused(t, "a result that is too long, and a number", sample(), l, api.ErrRange)
			}
		}
	}
}

func TestLengthOfTheListBeforeErrRange(t *testing.T) {
	for _, c := range notScalar {
		for _, at := range []int{0, 1, most - 1, most} {
			l := repeat('a', most+1)
			l[at] = c
			wantRefused(t, "a list that is too long, and a number", sample(), l, api.ErrFull)
		}
		wantRefused(t, "only numbers", sample(), repeat(c, most+1), api.ErrFull)
	}
}

func TestErrTable(t *testing.T) {
	lists := [][]int{
		nil, {}, {'a'}, {acute230, below220}, {0xE9}, {'e', acute230}, {0xE8, 0xE9}, {0xAC00}, {0x1100, 0x1161}, {'a', 0xD800}, {-1},
		repeat('a', most), repeat(0xE9, most), repeat('a', most+1), repeat(-1, most+1), join([]int{-1}, repeat(0xE9, most-1)),
	}
	for _, l := range lists {
		for rule := 1; rule <= 9; rule++ {
			wantRefused(t, "tables that are not well-formed", violating(rule), l, api.ErrTable)
		}
		wantRefused(t, "endless tables", endless(), l, api.ErrTable)
	}
}

// rows returns tables of as many decompositions as possible, and the last one's From. Each of the last
// 16 begins with the one before it; all others are pairs of letters.
func rows() (api.Tables, int) {
	var t api.Tables
	for i := range api.MaxRows {
		first := 0xE0000 + i
		if i > api.MaxRows-api.MaxMap+1 {
			first = 0xF0000 + i - 1
		}
		t.Decomps = append(t.Decomps, mapping(0xF0000+i, first, 0xE1000+i))
	}
	return t, 0xF0000 + api.MaxRows - 1
}

// The longest decompositions are composed step by step, also with as many rows as possible.
func TestMaxMap(t *testing.T) {
	tables, last := rows()
	full := []int{0xE0000 + api.MaxRows - api.MaxMap + 1}
	for i := api.MaxRows - api.MaxMap + 1; i < api.MaxRows; i++ {
		full = append(full, 0xE1000+i)
		wantNFC(t, "a beginning", tables, full, []int{0xF0000 + i})
	}
	if len(full) != api.MaxMap {
		t.Errorf("%d elements", len(full))
	}
	wantNFC(t, "the longest one", tables, join(full, full), repeat(last, 2))
	wantNFC(t, "as often as possible", tables, slices.Repeat(full, most/api.MaxMap), repeat(last, most/api.MaxMap))
	wantNFC(t, "composed, as often as possible", tables, repeat(last, most/api.MaxMap), repeat(last, most/api.MaxMap))
	wantError(t, "once more", tables, repeat(last, most/api.MaxMap+1), api.ErrFull)
	wantQuick(t, "as often as possible", tables, repeat(last, most), api.Yes)
	for i := range api.MaxRows {
		m := tables.Decomps[i]
		wantPair(t, "every row", tables, m.To[0], m.To[1], m.From)
		if !compose.Second(tables, m.To[1]) || compose.Second(tables, m.To[0]) {
			t.Errorf("Second(%#x) = %t, Second(%#x) = %t", m.To[1], compose.Second(tables, m.To[1]), m.To[0], compose.Second(tables, m.To[0]))
		}
	}
}

// What is excluded at the beginning of a long decomposition makes all of it not composable.
func TestMaxMapOfExcluded(t *testing.T) {
	tables, last := rows()
	first := 0xF0000 + api.MaxRows - api.MaxMap + 1
	tables.Excluded = []int{first}
	for c := 0xF0000; c <= last; c++ {
		want := api.Yes
		if c >= first {
			want = api.No
		}
		wantQuick(t, "one", tables, []int{c}, want)
		if got := compose.IsNFC(tables, []int{c}); got != (want == api.Yes) {
			t.Errorf("IsNFC(%#x) = %t", c, got)
		}
	}
}
