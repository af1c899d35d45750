package script_test

import (
	"slices"
	"testing"

	"namedesk/api"
)

// Promise 19.4: the examples of the chapter.
func TestExamples(t *testing.T) {
	tables := api.Tables{Script: spans{span(0x430, 0x430, api.Cyrillic)}}
	wantLevel(t, "abc", tables, []int{'a', 'b', 'c'}, api.LevelASCII)
	wantLevel(t, "Latin and Cyrillic", tables, []int{0x61, 0x430}, api.LevelMinimal)
	wantLevel(t, "Cyrillic", tables, []int{0x430}, api.LevelSingle)
}

// wantLevels compares the results of Level for each list, for the list reversed, with a code point twice, and with
// some that are Common and Inherited, which do not matter unless all others are ASCII.
func wantLevels(t *testing.T, tables api.Tables, want int, lists ...[]int) {
	t.Helper()
	for _, l := range lists {
		reversed := slices.Clone(l)
		slices.Reverse(reversed)
		wantLevel(t, "list", tables, l, want)
		wantLevel(t, "list reversed", tables, reversed, want)
		wantLevel(t, "list twice", tables, join(l, l), want)
		wantLevel(t, "list with a digit and a hyphen", tables, join([]int{'7', '-'}, l, []int{'7'}), want)
		if want > api.LevelASCII {
			wantLevel(t, "list with Common and Inherited", tables, join([]int{common}, l, []int{inherited, accent}), want)
		}
	}
}

// Promise 19.4: only ASCII, and one that is not.
func TestLevelASCII(t *testing.T) {
	for _, tables := range []api.Tables{{}, sample()} {
		wantLevels(t, tables, api.LevelASCII, nil, []int{}, []int{'a'}, []int{'A', 'z'}, []int{0}, []int{0x7F}, []int{' ', '.', 0x1F}, []int{'1', '-'})
		for c := range 0x80 {
			wantLevel(t, "one", tables, []int{c}, api.LevelASCII)
			wantLevel(t, "two", tables, []int{'a', c}, api.LevelASCII)
		}
		wantLevel(t, "the first code point behind them", tables, []int{0x80}, api.LevelUnrestricted)
	}
	tables := api.Tables{Script: spans{span(0x80, 0x80, api.Common), span(0x81, 0x81, api.Latin)}}
	for _, c := range []int{0x80, 0x81} {
		for _, l := range [][]int{{c}, {'a', c}, {c, '1'}, {'a', 'b', c, 'd'}} {
			wantLevel(t, "one that is not ASCII", tables, l, api.LevelSingle)
		}
	}
}

// Promise 19.4: one script, or one joint script, for all code points.
func TestLevelSingle(t *testing.T) {
	wantLevels(t, sample(), api.LevelSingle,
		[]int{latin}, []int{'a', latin}, []int{greek}, []int{cyrillic, cyrillic + 1}, []int{hebrew}, []int{last}, []int{common}, []int{inherited},
		[]int{'a', common}, []int{'a', inherited}, []int{common, inherited}, []int{'1', greek}, []int{han}, []int{han, hiragana}, []int{han, katakana},
		[]int{hiragana, katakana}, []int{han, hiragana, katakana}, []int{han, hangul}, []int{hangul, jamo}, []int{han, bopomofo},
		[]int{latinGreek}, []int{'a', latinGreek}, []int{greek, latinGreek, greekCyrillic}, []int{anyEastAsian, bopomofo}, []int{anyEastAsian, anyKana, hanHangul},
		[]int{hebrewDevanagari, devanagari}, []int{'a', latinLast}, []int{'a', latinLast, seventeen}, []int{last, latinLast, seventeen}, []int{han, hebrewBopomofo},
	)
}

// Promise 19.4: Latin with what is covered by one joint script.
func TestLevelHighly(t *testing.T) {
	wantLevels(t, sample(), api.LevelHighly,
		[]int{'a', han}, []int{latin, han}, []int{'a', hiragana}, []int{'a', katakana}, []int{'a', hangul}, []int{'a', jamo}, []int{'a', bopomofo},
		[]int{'a', han, hiragana}, []int{'a', han, katakana}, []int{'a', hiragana, katakana}, []int{'a', han, hiragana, katakana}, []int{'a', han, hangul},
		[]int{'a', han, bopomofo}, []int{'a', anyEastAsian}, []int{'a', anyKana}, []int{'a', hanHangul, anyKana}, []int{'a', anyEastAsian, bopomofo},
		[]int{'a', hebrewBopomofo}, []int{'a', hebrewBopomofo, han}, []int{latinGreek, han, hiragana}, []int{latinLast, hangul}, []int{seventeen, katakana},
		[]int{'a', hiraganaOnly, han}, []int{'a', katakanaDevanagari}, []int{'a', katakanaDevanagari, hiragana},
	)
}

// Promise 19.4: Latin with one other script that is neither Greek nor Cyrillic.
func TestLevelModerate(t *testing.T) {
	wantLevels(t, sample(), api.LevelModerate,
		[]int{'a', hebrew}, []int{latin, hebrew}, []int{'a', arabic}, []int{'a', devanagari}, []int{'a', last}, []int{latinGreek, hebrew},
		[]int{'a', cyrillicHebrew}, []int{'a', hebrew, cyrillicHebrew}, []int{'a', greekArabic}, []int{'a', arabic, greekArabic}, []int{'a', hebrewDevanagari},
		[]int{'a', hebrew, hebrewDevanagari}, []int{'a', devanagari, hebrewDevanagari}, []int{'a', cyrillicHebrew, hebrewDevanagari},
		[]int{'a', devanagari, katakanaDevanagari}, []int{latinGreek, arabic}, []int{latinLast, hebrew}, []int{'a', hebrew, hebrewBopomofo},
		[]int{latinGreek, cyrillicHebrew}, []int{'a', cyrillicHebrew, hebrewBopomofo},
	)
}

// Promise 19.4: each code point has a script, but Latin and one other script do not suffice.
func TestLevelMinimal(t *testing.T) {
	wantLevels(t, sample(), api.LevelMinimal,
		[]int{'a', greek}, []int{'a', cyrillic}, []int{latin, greek}, []int{latin, cyrillic}, []int{'a', greekOnly}, []int{'a', greekCyrillic},
		[]int{greek, cyrillic}, []int{'a', greek, cyrillic}, []int{'a', hebrew, arabic}, []int{hebrew, arabic}, []int{'a', hebrew, han}, []int{hebrew, han},
		[]int{hiragana, hangul}, []int{'a', hiragana, hangul}, []int{han, hiragana, hangul}, []int{bopomofo, hangul}, []int{'a', bopomofo, katakana},
		[]int{bopomofo, han, hiragana}, []int{'a', cyrillic, cyrillicHebrew}, []int{'a', greek, greekArabic}, []int{'a', greek, han}, []int{cyrillic, hangul},
		[]int{latinGreek, greekCyrillic, cyrillicHebrew, arabic}, []int{'a', last, hebrew}, []int{latinGreek, cyrillic}, []int{'a', anyKana, hebrew},
		[]int{'a', hiragana, katakana, devanagari}, []int{'a', hebrew, hebrewBopomofo, han}, []int{'a', arabic, greek, cyrillic, hebrew, last},
	)
}

// Promise 19.4: a code point without a script.
func TestLevelUnrestricted(t *testing.T) {
	for _, none := range []int{unknown, unnamed, 0x80} {
		wantLevels(t, sample(), api.LevelUnrestricted,
			[]int{none}, []int{'a', none}, []int{none, none}, []int{latin, none}, []int{common, none}, []int{'a', han, none}, []int{'a', hebrew, none},
			[]int{'a', greek, none}, []int{anyEastAsian, none}, []int{seventeen, none},
		)
	}
	wantLevels(t, sample(), api.LevelUnrestricted, []int{unknown, unnamed, 0x80})
	for c := range setOf {
		wantLevel(t, "with any code point", sample(), []int{c, unknown}, api.LevelUnrestricted)
	}
}

// Promise 19.4: each two levels that follow one another: one code point more, and the next level is reached.
func TestNextLevel(t *testing.T) {
	for _, row := range []struct {
		l           []int
		more        int
		level, next int
	}{
		{[]int{'a', 'b', 0x7F}, latin, api.LevelASCII, api.LevelSingle},
		{[]int{'1', '2'}, common, api.LevelASCII, api.LevelSingle},
		{[]int{}, greek, api.LevelASCII, api.LevelSingle},
		{[]int{'a', 'b', latin}, han, api.LevelSingle, api.LevelHighly},
		{[]int{han, hiragana, katakana}, 'a', api.LevelSingle, api.LevelHighly},
		{[]int{han, hangul}, latin, api.LevelSingle, api.LevelHighly},
		{[]int{bopomofo}, 'a', api.LevelSingle, api.LevelHighly},
		{[]int{'a', katakanaDevanagari}, devanagari, api.LevelHighly, api.LevelModerate},
		{[]int{'a', hebrewBopomofo}, hebrew, api.LevelHighly, api.LevelModerate},
		{[]int{'a', hebrewBopomofo, bopomofo}, hebrew, api.LevelHighly, api.LevelMinimal},
		{[]int{'a', hebrew}, arabic, api.LevelModerate, api.LevelMinimal},
		{[]int{'a', hebrewDevanagari, hebrew}, devanagari, api.LevelModerate, api.LevelMinimal},
		{[]int{'a', cyrillicHebrew}, cyrillic, api.LevelModerate, api.LevelMinimal},
		{[]int{'a', last}, han, api.LevelModerate, api.LevelMinimal},
		{[]int{'a', greek}, unknown, api.LevelMinimal, api.LevelUnrestricted},
		{[]int{'a', greek, cyrillic, hebrew, han}, unnamed, api.LevelMinimal, api.LevelUnrestricted},
	} {
		wantLevel(t, "without it", sample(), row.l, row.level)
		for at := range len(row.l) + 1 {
			wantLevel(t, "with it", sample(), slices.Insert(slices.Clone(row.l), at, row.more), row.next)
		}
	}
}

// Promise 19.4: Latin with each script, and with each two scripts.
func TestLevelOfLatinWithEachScript(t *testing.T) {
	tables := numbered()
	for k := range api.MaxScript + 1 {
		want := api.LevelModerate
		switch k {
		case api.Unknown:
			want = api.LevelUnrestricted
		case api.Common, api.Inherited, api.Latin:
			want = api.LevelSingle
		case api.Greek, api.Cyrillic:
			want = api.LevelMinimal
		case api.Han, api.Hiragana, api.Katakana, api.Hangul, api.Bopomofo:
			want = api.LevelHighly
		}
		wantLevel(t, "one script", tables, []int{'a', codePointOf(k)}, want)
		wantLevel(t, "one script, and Latin that is not ASCII", tables, []int{codePointOf(k), codePointOf(api.Latin)}, want)
		for j := api.Hebrew; j <= api.MaxScript; j++ {
			if k >= api.Greek && j != k {
				wantLevel(t, "two scripts", tables, []int{'a', codePointOf(k), codePointOf(j)}, api.LevelMinimal)
			}
		}
	}
}

// Promise 19.4: each script alone, and each two scripts without Latin.
func TestLevelWithoutLatin(t *testing.T) {
	tables := numbered()
	for k := api.Greek; k <= api.MaxScript; k++ {
		wantLevel(t, "one script", tables, []int{codePointOf(k), codePointOf(k)}, api.LevelSingle)
		for j := api.Hebrew; j <= api.MaxScript; j++ {
			if j != k {
				wantLevel(t, "two scripts", tables, []int{codePointOf(k), codePointOf(j)}, api.LevelMinimal)
			}
		}
	}
}

// Promise 19.4: Latin and each pair of scripts that one code point belongs to.
func TestLevelOfLatinWithTwoScriptsOfOne(t *testing.T) {
	const c = 0x2000
	for j := api.Latin; j < api.MaxScript; j++ {
		for k := j + 1; k <= api.MaxScript; k++ {
			want := api.LevelModerate
			switch {
			case j == api.Latin:
				want = api.LevelSingle
			case j == api.Greek && k == api.Cyrillic:
				want = api.LevelMinimal
			case j >= api.Han && j <= api.Bopomofo || k >= api.Han && k <= api.Bopomofo:
				want = api.LevelHighly
			}
			wantLevel(t, "two scripts of one code point", api.Tables{Extensions: mappings{row(c, j, k)}}, []int{'a', c}, want)
		}
	}
}

// Promise 19.4: sequences of MaxRunes code points, of which one decides, wherever it is.
func TestLevelOfLongSequences(t *testing.T) {
	tables := sample()
	wantLevel(t, "ASCII", tables, repeat('a', most), api.LevelASCII)
	for _, at := range []int{0, 1, most / 2, most - 2, most - 1} {
		for c, want := range map[int]int{
			latin: api.LevelSingle, common: api.LevelSingle, han: api.LevelHighly, bopomofo: api.LevelHighly, hebrew: api.LevelModerate, last: api.LevelModerate,
			greek: api.LevelMinimal, cyrillic: api.LevelMinimal, unknown: api.LevelUnrestricted, 'b': api.LevelASCII,
		} {
			wantLevel(t, "one among ASCII", tables, with(repeat('a', most), at, c), want)
		}
		wantLevel(t, "Latin among Hebrew", tables, with(repeat(hebrew, most), at, 'a'), api.LevelModerate)
		wantLevel(t, "Latin among Han", tables, with(repeat(han, most), at, 'a'), api.LevelHighly)
		wantLevel(t, "Hebrew among Han", tables, with(repeat(han, most), at, hebrew), api.LevelMinimal)
		wantLevel(t, "Unknown among Han", tables, with(repeat(han, most), at, unknown), api.LevelUnrestricted)
	}
	wantLevel(t, "Latin, Han and Hangul", tables, endingWith(most, han, hangul), api.LevelHighly)
	wantLevel(t, "Latin, Hiragana and Hangul", tables, endingWith(most, hiragana, hangul), api.LevelMinimal)
}
