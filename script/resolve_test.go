package script_test

import (
	"slices"
	"testing"

	"namedesk/api"
)

// Promise 19.2: sequences of the sample.
func TestResolve(t *testing.T) {
	for _, row := range []struct {
		name string
		l    []int
		want uint64
	}{
		{"no code points", nil, every},
		{"no code points, but memory", []int{}, every},
		{"ASCII letters", []int{'a', 'B', 'z'}, set(3)},
		{"ASCII without letters", []int{'0', '-', '.', ' ', 0}, every},
		{"ASCII letters and others", []int{'0', 'a', '-', 'b'}, set(3)},
		{"Latin", []int{'a', latin}, set(3)},
		{"Latin and Cyrillic", []int{'a', cyrillic}, 0},
		{"Latin and Greek", []int{latin, greek}, 0},
		{"Greek and digits", []int{'1', greek, '2'}, set(4)},
		{"Common", []int{common}, every},
		{"Inherited", []int{inherited}, every},
		{"Common and Inherited", []int{common, inherited, accent}, every},
		{"Common before Cyrillic", []int{common, cyrillic}, set(5)},
		{"Cyrillic before Inherited", []int{cyrillic, inherited}, set(5)},
		{"Unknown", []int{unknown}, 0},
		{"no script", []int{unnamed}, 0},
		{"Unknown before Common", []int{unknown, common}, 0},
		{"Common before Unknown", []int{common, unknown}, 0},
		{"Unknown behind Latin", []int{'a', unknown}, 0},
		{"Han", []int{han}, set(6, 61, 62, 63)},
		{"Han twice", []int{han, 0x20000}, set(6, 61, 62, 63)},
		{"Hiragana", []int{hiragana}, set(7, 62)},
		{"Katakana", []int{katakana}, set(8, 62)},
		{"Hangul", []int{hangul, jamo}, set(9, 63)},
		{"Bopomofo", []int{bopomofo}, set(10, 61)},
		{"Han with Hiragana", []int{han, hiragana}, set(62)},
		{"Han with Katakana", []int{katakana, han}, set(62)},
		{"Hiragana with Katakana", []int{hiragana, katakana}, set(62)},
		{"Han with both", []int{han, hiragana, katakana}, set(62)},
		{"Han with Hangul", []int{hangul, han}, set(63)},
		{"Han with Bopomofo", []int{han, bopomofo}, set(61)},
		{"Hiragana with Hangul", []int{hiragana, hangul}, 0},
		{"Bopomofo with Katakana", []int{bopomofo, katakana}, 0},
		{"Hangul with Bopomofo", []int{hangul, bopomofo}, 0},
		{"Han with Hangul and Hiragana", []int{han, hangul, hiragana}, 0},
		{"Han with Latin", []int{han, 'a'}, 0},
		{"Latin or Greek", []int{latinGreek}, set(3, 4)},
		{"Latin or Greek, with Latin", []int{'a', latinGreek}, set(3)},
		{"Latin or Greek, with Greek", []int{latinGreek, greek, greekOnly}, set(4)},
		{"Latin or Greek, with Greek or Cyrillic", []int{latinGreek, greekCyrillic}, set(4)},
		{"Greek or Cyrillic, with Cyrillic or Hebrew", []int{greekCyrillic, cyrillicHebrew}, set(5)},
		{"Cyrillic or Hebrew, with Hebrew or Devanagari", []int{cyrillicHebrew, hebrewDevanagari}, set(11)},
		{"each two have one in common, but not all three", []int{latinGreek, greekCyrillic, cyrillicHebrew}, 0},
		{"several in common", []int{anyEastAsian, anyKana}, set(7, 8, 62)},
		{"several and joint ones in common", []int{anyEastAsian, hanHangul}, set(6, 9, 61, 62, 63)},
		{"a joint one alone in common", []int{anyEastAsian, anyKana, hanHangul}, set(62)},
		{"Bopomofo and what is Hebrew or Bopomofo", []int{bopomofo, hebrewBopomofo}, set(10, 61)},
		{"Han and what is Hebrew or Bopomofo", []int{han, hebrewBopomofo}, set(61)},
		{"Hebrew and what is Hebrew or Bopomofo", []int{hebrew, hebrewBopomofo}, set(11)},
		{"the greatest script", []int{last, latinLast, seventeen}, set(60)},
		{"two scripts in common, far apart", []int{latinLast, seventeen}, set(3, 60)},
		{"the same three times", []int{hebrewDevanagari, hebrewDevanagari, hebrewDevanagari}, set(11, 13)},
		{"marks that are not in order", []int{cyrillic, inherited, accent, cyrillic}, set(5)},
	} {
		wantResolve(t, row.name, sample(), row.l, row.want)
		slices.Reverse(row.l)
		wantResolve(t, row.name+", reversed", sample(), row.l, row.want)
	}
}

// Promise 19.2: sequences of one code point.
func TestResolveOfOne(t *testing.T) {
	for c, want := range setOf {
		wantResolve(t, "alone", sample(), []int{c}, want)
		wantResolve(t, "twice", sample(), []int{c, c}, want)
		wantResolve(t, "with a digit", sample(), []int{'5', c}, want)
		wantResolve(t, "with Unknown", sample(), []int{c, unknown}, 0)
	}
}

// Promise 19.2: each two scripts, in both orders.
func TestResolveOfEachTwoScripts(t *testing.T) {
	tables := numbered()
	for j := range api.MaxScript + 1 {
		for k := range api.MaxScript + 1 {
			wantResolve(t, "two scripts", tables, []int{codePointOf(j), codePointOf(k)}, setOfScript(j)&setOfScript(k))
		}
	}
}

// Promise 19.2: sequences of MaxRunes code points, of which one bears on the result, wherever it is.
func TestResolveOfLongSequences(t *testing.T) {
	tables := sample()
	wantResolve(t, "Latin", tables, repeat('a', most), set(3))
	wantResolve(t, "Common", tables, repeat(common, most), every)
	wantResolve(t, "Unknown", tables, repeat(unknown, most), 0)
	wantResolve(t, "Han and Hangul", tables, times([]int{han, hangul}, most/2), set(63))
	for _, at := range []int{0, 1, most / 2, most - 2, most - 1} {
		wantResolve(t, "Latin and Common", tables, with(repeat('a', most), at, common), set(3))
		wantResolve(t, "Common and Latin", tables, with(repeat(common, most), at, latin), set(3))
		wantResolve(t, "Common and Unknown", tables, with(repeat(common, most), at, unknown), 0)
		wantResolve(t, "Han and Hiragana", tables, with(repeat(han, most), at, hiragana), set(62))
		wantResolve(t, "Han and Latin", tables, with(repeat(han, most), at, 'a'), 0)
		wantResolve(t, "Latin or Greek, and Greek", tables, with(repeat(latinGreek, most), at, greek), set(4))
	}
}
