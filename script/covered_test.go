package script_test

import (
	"testing"

	"namedesk/api"
)

// Promise 19.3: sequences of the sample.
func TestCovered(t *testing.T) {
	for _, row := range []struct {
		name    string
		l       []int
		scripts uint64
		want    bool
	}{
		{"Latin by Latin", []int{'a', latin}, set(3), true},
		{"Latin by others", []int{'a', latin}, every &^ set(3), false},
		{"Latin by Latin and Greek", []int{'a', latin}, set(3, 4), true},
		{"Latin and Greek by both", []int{'a', greek}, set(3, 4), true},
		{"Latin and Greek by Latin", []int{'a', greek}, set(3), false},
		{"Latin and Greek by Greek", []int{'a', greek}, set(4), false},
		{"Latin, Greek and Cyrillic by two of them", []int{'a', greek, cyrillic}, set(3, 4), false},
		{"Latin, Greek and Cyrillic by all of them", []int{'a', greek, cyrillic}, set(3, 4, 5), true},
		{"Common by any", []int{common, inherited, '1'}, set(44), true},
		{"Common by Unknown", []int{common, inherited, '1'}, set(0), true},
		{"Common by Common", []int{common, inherited, '1'}, set(1), true},
		{"Latin by Common", []int{'a'}, set(1), false},
		{"Latin by Common and Inherited", []int{'a'}, set(0, 1, 2), false},
		{"Unknown by Unknown", []int{unknown}, set(0), false},
		{"Unknown by all", []int{unknown}, every, false},
		{"no script by all", []int{unnamed}, every, false},
		{"Latin and Unknown by all", []int{'a', unknown}, every, false},
		{"Unknown and Latin by all", []int{unknown, 'a'}, every, false},
		{"Han by Han", []int{han}, set(6), true},
		{"Han by each joint script", []int{han}, set(61, 62, 63), true},
		{"Han by one joint script", []int{han}, set(63), true},
		{"Han by what is used with it", []int{han}, set(7, 8, 9, 10), false},
		{"Hiragana by Han", []int{hiragana}, set(6), false},
		{"Han and Hiragana by the joint script", []int{han, hiragana}, set(62), true},
		{"Han and Hiragana by other joint scripts", []int{han, hiragana}, set(61, 63), false},
		{"Han and Hiragana by both", []int{han, hiragana}, set(6, 7), true},
		{"Han, Hiragana and Hangul by two joint scripts", []int{han, hiragana, hangul}, set(62, 63), true},
		{"Latin and Han by Latin and a joint script", []int{'a', han}, set(3, 61), true},
		{"Latin, Katakana and Hangul by Latin and a joint script", []int{'a', katakana, hangul}, set(3, 62), false},
		{"several scripts by the first", []int{hebrewDevanagari}, set(11), true},
		{"several scripts by the second", []int{hebrewDevanagari}, set(13), true},
		{"several scripts by one between them", []int{hebrewDevanagari}, set(12), false},
		{"a chain by one at each end", []int{latinGreek, greekCyrillic, cyrillicHebrew}, set(3, 5), true},
		{"a chain by two that miss one", []int{latinGreek, greekCyrillic, cyrillicHebrew}, set(3, 11), false},
		{"the greatest script by itself", []int{last, latinLast, seventeen}, set(60), true},
		{"the greatest script by the one before", []int{last, latinLast, seventeen}, set(59), false},
		{"the greatest script by joint scripts", []int{last}, set(61, 62, 63), false},
		{"marks that are not in order", []int{cyrillic, inherited, accent}, set(5), true},
	} {
		wantCovered(t, row.name, sample(), row.l, row.scripts, row.want)
	}
}

// Promise 19.3: no code points are covered by any set, and others are not covered by the empty set.
func TestCoveredByNoScript(t *testing.T) {
	for _, scripts := range []uint64{0, set(0), set(3), set(63), every} {
		wantCovered(t, "no code points", sample(), nil, scripts, true)
		wantCovered(t, "no code points, but memory", sample(), []int{}, scripts, true)
		wantCovered(t, "no code points, no tables", api.Tables{}, nil, scripts, true)
	}
	for c := range setOf {
		wantCovered(t, "one code point", sample(), []int{c}, 0, false)
		wantCovered(t, "two code points", sample(), []int{common, c}, 0, false)
	}
}

// Promise 19.3: each code point of the sample by each set of one script, by all scripts but one, and by all.
func TestCoveredByEachScript(t *testing.T) {
	tables := scriptsOnly(sample())
	for c, its := range setOf {
		for k := range 64 {
			wantCovered(t, "one script", tables, []int{c}, set(k), its&set(k) != 0)
			wantCovered(t, "all but one", tables, []int{c}, ^set(k), its&^set(k) != 0)
			wantCovered(t, "beside Unknown", tables, []int{c, unknown}, set(k), false)
			wantCovered(t, "beside Latin", tables, []int{'a', c}, set(3, k), its&set(3, k) != 0)
		}
		wantCovered(t, "all scripts", tables, []int{c}, every, its != 0)
	}
}

// Promise 19.3: sequences of MaxRunes code points with one of another script.
func TestCoveredInLongSequences(t *testing.T) {
	tables := sample()
	wantCovered(t, "Latin", tables, repeat('a', most), set(3), true)
	wantCovered(t, "Latin by all", tables, repeat('a', most), every, true)
	for _, at := range []int{0, 1, most / 2, most - 2, most - 1} {
		for _, c := range []int{greek, unknown, han} {
			wantCovered(t, "another script", tables, with(repeat('a', most), at, c), set(3), false)
		}
		wantCovered(t, "both scripts", tables, with(repeat('a', most), at, han), set(3, 62), true)
		wantCovered(t, "Common", tables, with(repeat('a', most), at, common), set(3), true)
		wantCovered(t, "only Common", tables, with(repeat(common, most), at, 'a'), set(4), false)
		wantCovered(t, "Unknown", tables, with(repeat('a', most), at, unknown), every, false)
	}
}
