package script_test

import (
	"testing"

	"namedesk/api"
)

// listsWithoutErrors are lists that order.Order accepts.
var listsWithoutErrors = [][]int{
	{'a'}, {'a', latin}, {han, 'a', hiragana}, {'a', hebrew}, {'a', cyrillic}, {unknown}, {common, inherited, accent}, {latinGreek, greekCyrillic, cyrillicHebrew},
	repeat('a', most), repeat(han, most), repeat(unknown, most), repeat(inherited, most),
}

// Promises 19.2 to 19.4: numbers that are no scalar values, wherever they are.
func TestErrRange(t *testing.T) {
	for _, l := range listsWithoutErrors {
		for _, c := range notScalar {
			for _, at := range []int{0, len(l) / 2, len(l) - 1} {
				wantRefused(t, "not a scalar value", scriptsOnly(sample()), with(l, at, c), api.ErrRange)
			}
		}
	}
	for _, c := range notScalar {
		wantRefused(t, "only one", sample(), []int{c}, api.ErrRange)
		wantRefused(t, "only one, no tables", api.Tables{}, []int{c}, api.ErrRange)
		wantRefused(t, "with ASCII, no tables", api.Tables{}, []int{'a', c}, api.ErrRange)
		wantRefused(t, "with Common", sample(), []int{common, c, common}, api.ErrRange)
		wantRefused(t, "with Unknown", sample(), []int{unknown, c}, api.ErrRange)
	}
}

// Promises 19.2 to 19.4: which numbers are scalar values.
func TestEachNumberIsScalarOrNot(t *testing.T) {
	tables := api.Tables{Script: spans{span(0xD7A4, 0xD7FF, api.Common), span(0xE000, 0xE100, api.Common), span(0x10FF00, api.MaxRune, api.Common)}}
	for _, bounds := range [][2]int{{-0x100, 0x7F}, {0xD7A4, 0xE100}, {0x10FF00, 0x110100}} {
		for c := bounds[0]; c <= bounds[1]; c++ {
			if c < 0 || c >= 0xD800 && c <= 0xDFFF || c > api.MaxRune {
				wantRefused(t, "not a scalar value", tables, []int{c}, api.ErrRange)
				continue
			}
			want := api.LevelSingle
			if c <= 0x7F {
				want = api.LevelASCII
			}
			wantLevel(t, "a scalar value", tables, []int{c}, want)
		}
	}
}

// Promises 19.2 to 19.4: lists that are too long, and the longest one that is not.
func TestErrFull(t *testing.T) {
	for _, size := range []int{most + 1, most + 2, 2 * most, 1 << 16} {
		for _, c := range []int{'a', '0', latin, greek, han, common, inherited, unknown, latinGreek} {
			for _, tables := range []api.Tables{{}, sample()} {
				wantRefused(t, "too long", tables, repeat(c, size), api.ErrFull)
			}
		}
		wantRefused(t, "too long", sample(), endingWith(size, han, hiragana), api.ErrFull)
	}
	l := endingWith(most, latinGreek, latin)
	for _, list := range [][]int{l, l[1:]} {
		wantResolve(t, "not too long", sample(), list, set(3))
		wantCovered(t, "not too long", sample(), list, set(3), true)
		wantLevel(t, "not too long", sample(), list, api.LevelSingle)
	}
	wantRefused(t, "one before it", sample(), join([]int{'a'}, l), api.ErrFull)
	wantRefused(t, "one behind it", sample(), join(l, []int{'a'}), api.ErrFull)
}

// Promises 19.2 to 19.4: tables that are not well-formed, whatever the list is.
func TestErrTable(t *testing.T) {
	lists := append([][]int{nil, {}, {'a', 0xD800}, {-1}, repeat('a', most+1), repeat(han, most+1), repeat(-1, most+1)}, listsWithoutErrors...)
	for _, l := range lists {
		for rule := 1; rule <= 9; rule++ {
			wantRefused(t, "tables that are not well-formed", violating(rule), l, api.ErrTable)
		}
		for name, tables := range notWellFormedScripts() {
			wantRefused(t, name, tables, l, api.ErrTable)
		}
	}
}

// Promises 19.2 to 19.4: several errors at once. Each one comes before those behind it, wherever in the list it is.
func TestOrderOfErrors(t *testing.T) {
	indices := []int{0, 1, most / 2, most - 1}
	for _, flaw := range []int{-1, 0xD800, api.MaxRune + 1} {
		for _, c := range []int{'a', greek, unknown} {
			for _, at := range indices {
				l := with(repeat(c, most), at, flaw)
				wantRefused(t, "a number", sample(), l, api.ErrRange)
				wantRefused(t, "a number and the length", sample(), join(l, []int{'a'}), api.ErrFull)
				wantRefused(t, "a number before the others and the length", sample(), join([]int{flaw}, l), api.ErrFull)
				wantRefused(t, "a number and tables", violating(9), l, api.ErrTable)
				wantRefused(t, "a number, the length and tables", violating(9), join(l, []int{'a'}), api.ErrTable)
			}
		}
	}
	wantRefused(t, "only numbers", sample(), repeat(-1, most), api.ErrRange)
	wantRefused(t, "only numbers, too many", sample(), repeat(-1, most+1), api.ErrFull)
	wantRefused(t, "the length and tables", violating(1), repeat('a', most+1), api.ErrTable)
}
