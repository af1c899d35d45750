package context_test

import (
	"testing"

	"namedesk/api"
)

// Promises 15.2 and 15.3: 0xB7, which the tables do not matter for.
func TestMiddleDot(t *testing.T) {
	for _, tables := range []api.Tables{{}, sample()} {
		wantRows(t, tables, []sampleRow{
			{"between two", []int{el, middleDot, el}, nil},
			{"between two, among others", []int{plain, el, middleDot, el, plain}, nil},
			{"between more", []int{el, el, middleDot, el, el}, nil},
			{"two that share one", []int{el, middleDot, el, middleDot, el}, nil},
			{"only before it", []int{el, middleDot, plain}, []int{1}},
			{"only behind it", []int{plain, middleDot, el}, []int{1}},
			{"on neither side", []int{plain, middleDot, plain}, []int{1}},
			{"alone", []int{middleDot}, []int{0}},
			{"first", []int{middleDot, el}, []int{0}},
			{"first before two", []int{middleDot, el, el}, []int{0}},
			{"last", []int{el, middleDot}, []int{1}},
			{"last behind two", []int{el, el, middleDot}, []int{2}},
			{"first and last", []int{middleDot, el, middleDot}, []int{0, 2}},
			{"not directly behind it", []int{el, middleDot, plain, el}, []int{1}},
			{"not directly before it", []int{el, plain, middleDot, el}, []int{2}},
			{"two next to each other", []int{el, middleDot, middleDot, el}, []int{1, 2}},
			{"three next to each other", []int{el, middleDot, middleDot, middleDot, el}, []int{1, 2, 3}},
			{"capital letters", []int{'L', middleDot, 'L'}, []int{1}},
			{"one capital letter before it", []int{'L', middleDot, el}, []int{1}},
			{"one capital letter behind it", []int{el, middleDot, 'L'}, []int{1}},
			{"the letters before", []int{'k', middleDot, 'k'}, []int{1}},
			{"the letters behind", []int{'m', middleDot, 'm'}, []int{1}},
			{"letters that look alike", []int{'1', middleDot, 'I', middleDot, 0x13C}, []int{1, 3}},
			{"a mark before it", []int{el, inherited, middleDot, el}, []int{2}},
			{"a mark behind it", []int{el, middleDot, inherited, el}, []int{1}},
			{"a joiner behind it", []int{el, middleDot, api.ZWNJ, el}, []int{1}},
			{"a letter that is taken apart to both", []int{0x140, el}, nil},
			{"a letter that is taken apart to both, before another", []int{0x140, middleDot, el}, []int{1}},
			{"with what permits others", []int{greek, middleDot, greek, hebrew, middleDot, hebrew, han, middleDot, han}, []int{1, 4, 7}},
		})
	}
}

// Promises 15.2 and 15.3: 0x375, which the script of the element directly behind it matters for.
func TestNumeralSign(t *testing.T) {
	wantRows(t, sample(), []sampleRow{
		{"before Greek", []int{keraia, greek}, nil},
		{"before Greek, among others", []int{plain, keraia, greek, plain}, nil},
		{"between Greek", []int{greek, keraia, greek}, nil},
		{"before a mark that is Greek", []int{keraia, greekMark}, nil},
		{"before the last code point", []int{keraia, api.MaxRune}, nil},
		{"behind Greek", []int{greek, keraia}, []int{1}},
		{"behind Greek, before others", []int{greek, keraia, plain}, []int{1}},
		{"alone", []int{keraia}, []int{0}},
		{"last", []int{plain, plain, keraia}, []int{2}},
		{"first before others", []int{keraia, plain}, []int{0}},
		{"not directly before Greek", []int{keraia, plain, greek}, []int{0}},
		{"before a mark, and Greek behind it", []int{keraia, inherited, greek}, []int{0}},
		{"before what is Greek by its Extensions", []int{keraia, extendedGreek}, []int{0}},
		{"before itself, which is Greek", []int{keraia, keraia}, []int{1}},
		{"before itself, which is Greek, and Greek", []int{keraia, keraia, keraia, greek}, nil},
		{"before other scripts", []int{keraia, latin, keraia, cyrillic, keraia, hebrew, keraia, han, keraia, unknown, keraia, hangul}, []int{0, 2, 4, 6, 8, 10}},
		{"before what permits others", []int{keraia, el, middleDot, keraia, geresh}, []int{0, 2, 3, 4}},
		{"before digits", []int{keraia, '1', keraia, arabic0}, []int{0, 2}},
		{"before what Order would put behind others", []int{keraia, greekMark, inherited}, nil},
		{"before what Order would put before Greek", []int{keraia, inherited, hebrewMark, greek}, []int{0}},
	})
	wantRows(t, scripts(span(greek, greek, api.Greek)), []sampleRow{
		{"before itself, which is not Greek", []int{keraia, keraia, greek}, []int{0}},
		{"before Greek without a row for itself", []int{keraia, greek}, nil},
	})
	wantExactly(t, "without tables", api.Tables{}, []int{keraia, greek, keraia}, 0, 2)
}

// Promises 15.2 and 15.3: 0x5F3 and 0x5F4, which the script of the element directly before them matters for.
func TestGeresh(t *testing.T) {
	for _, c := range []int{geresh, gershayim} {
		wantRows(t, sample(), []sampleRow{
			{"behind Hebrew", []int{hebrew, c}, nil},
			{"behind Hebrew, among others", []int{plain, hebrew, c, plain}, nil},
			{"between Hebrew", []int{hebrew, c, hebrew}, nil},
			{"behind a mark that is Hebrew", []int{plain, hebrewMark, c}, nil},
			{"behind a code point before the surrogates", []int{0xD7FF, c}, nil},
			{"before Hebrew", []int{c, hebrew}, []int{0}},
			{"before Hebrew, behind others", []int{plain, c, hebrew}, []int{1}},
			{"alone", []int{c}, []int{0}},
			{"first", []int{c, plain, plain}, []int{0}},
			{"last behind others", []int{plain, c}, []int{1}},
			{"not directly behind Hebrew", []int{hebrew, plain, c}, []int{2}},
			{"behind a mark behind Hebrew", []int{hebrew, inherited, c}, []int{2}},
			{"behind what is Hebrew by its Extensions", []int{extendedHebrew, c}, []int{1}},
			{"behind itself, which is Hebrew", []int{c, c}, []int{0}},
			{"behind itself, which is Hebrew, and Hebrew", []int{hebrew, c, c, c}, nil},
			{"behind the other one", []int{hebrew, geresh, gershayim, geresh}, nil},
			{"behind other scripts", []int{latin, c, greek, c, arabicLetter, c, han, c, unknown, c, hangul, c}, []int{1, 3, 5, 7, 9, 11}},
			{"behind what permits others", []int{el, c, keraia, c, greek, c}, []int{1, 2, 3, 5}},
			{"behind digits", []int{'1', c, arabic0, c}, []int{1, 3}},
			{"behind what Order would put before others", []int{plain, inherited, hebrewMark, c}, nil},
			{"behind what Order would put behind Hebrew", []int{plain, hebrewMark, inherited, c}, []int{3}},
		})
		wantRows(t, scripts(span(hebrew, hebrew, api.Hebrew)), []sampleRow{
			{"behind itself, which is not Hebrew", []int{hebrew, c, c}, []int{2}},
			{"behind Hebrew without a row for itself", []int{hebrew, c}, nil},
		})
		wantExactly(t, "without tables", api.Tables{}, []int{c, hebrew, c}, 0, 2)
	}
	wantRows(t, scripts(span(hebrew, hebrew, api.Hebrew), span(geresh, geresh, api.Hebrew)), []sampleRow{
		{"only the first of the two is Hebrew", []int{hebrew, geresh, gershayim}, nil},
		{"only the first of the two is Hebrew, behind the other one", []int{hebrew, gershayim, geresh}, []int{2}},
	})
}

// Promises 15.2 and 15.3: each script directly before or behind the code points for which it matters.
func TestEachScriptNextTo(t *testing.T) {
	const c = 0x1234
	for which := range api.MaxScript + 1 {
		tables := scripts(span(c, c, which))
		wantOne(t, "0x375", tables, []int{plain, keraia, c, plain}, 1, which == api.Greek)
		wantExactly(t, "0x375 behind it", tables, []int{plain, c, keraia, plain}, 2)
		for _, of := range []int{geresh, gershayim} {
			wantOne(t, "0x5F3 or 0x5F4", tables, []int{plain, c, of, plain}, 2, which == api.Hebrew)
			wantExactly(t, "0x5F3 or 0x5F4 before it", tables, []int{plain, of, c, plain}, 1)
		}
		wantExactly(t, "0xB7", tables, []int{c, middleDot, c}, 1)
		wantExactly(t, "0xB7 with l before it", tables, []int{el, middleDot, c}, 1)
		wantExactly(t, "0xB7 with l behind it", tables, []int{c, middleDot, el}, 1)
	}
}

// Promises 15.2 and 15.3: 0xB7 between each two code points of ASCII.
func TestMiddleDotBetweenEachTwo(t *testing.T) {
	for before := range 0x80 {
		for behind := range 0x80 {
			wantOne(t, "between two", api.Tables{}, []int{before, middleDot, behind}, 1, before == 0x6C && behind == 0x6C)
		}
	}
}
