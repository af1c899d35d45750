package context_test

import (
	"testing"

	"namedesk/api"
)

// Promises 15.2 and 15.3: 0x30FB, which the scripts of all elements matter for.
func TestKatakanaDot(t *testing.T) {
	for _, c := range []int{hiragana, 0x3043, katakana, 0xE000, han, 0x4E01, 0x3005, 0x20000} {
		wantRows(t, sample(), []sampleRow{
			{"before it", []int{c, katakanaDot}, nil},
			{"behind it", []int{katakanaDot, c}, nil},
			{"on both sides", []int{c, katakanaDot, c}, nil},
			{"far before it", []int{c, plain, '.', greek, katakanaDot}, nil},
			{"far behind it", []int{katakanaDot, plain, '.', greek, c}, nil},
			{"between several", []int{katakanaDot, plain, katakanaDot, c, katakanaDot, plain, katakanaDot}, nil},
			{"before several", []int{c, katakanaDot, katakanaDot, katakanaDot}, nil},
			{"behind several", []int{katakanaDot, katakanaDot, katakanaDot, c}, nil},
		})
	}
	wantRows(t, sample(), []sampleRow{
		{"alone", []int{katakanaDot}, []int{0}},
		{"first", []int{katakanaDot, plain}, []int{0}},
		{"last", []int{plain, katakanaDot}, []int{1}},
		{"several", []int{katakanaDot, plain, katakanaDot, katakanaDot}, []int{0, 2, 3}},
		{"with other scripts", []int{latin, greek, cyrillic, hebrew, katakanaDot, arabicLetter, hangul, bopomofo, common, inherited, unknown}, []int{4}},
		{"with what has the scripts by its Extensions", []int{extendedKana, katakanaDot, extendedHan}, []int{1}},
		{"with what has the scripts by its Extensions, and one that has them", []int{extendedKana, katakanaDot, extendedHan, han}, nil},
		{"with what permits others", []int{el, katakanaDot, el, greek, hebrew, katakanaDot}, []int{1, 5}},
		{"with half its width", []int{0xFF65, katakanaDot, 0xFF76}, []int{1}},
	})
	wantExactly(t, "without tables", api.Tables{}, []int{han, katakanaDot, hiragana, katakanaDot, katakana}, 1, 3)
}

// Promises 15.2 and 15.3: each script in each place of a sequence with 0x30FB.
func TestEachScriptAnywhere(t *testing.T) {
	const c = 0x1234
	for which := range api.MaxScript + 1 {
		tables := scripts(span(c, c, which))
		want := which == api.Hiragana || which == api.Katakana || which == api.Han
		for at := range 7 {
			for other := range 7 {
				if at != other {
					wantOne(t, "anywhere", tables, with(with(repeat(plain, 7), at, katakanaDot), other, c), at, want)
				}
			}
		}
	}
}

// Promises 15.2 and 15.3: code points that need a context and have a script that permits 0x30FB. An element of the
// sequence is 0x30FB, too.
func TestNeedingCodePointsWithAScript(t *testing.T) {
	for _, which := range []int{api.Hiragana, api.Katakana, api.Han} {
		tables := scripts(span(katakanaDot, katakanaDot, which))
		wantExactly(t, "0x30FB", tables, []int{plain, katakanaDot, plain, katakanaDot})
		wantExactly(t, "0x30FB alone", tables, []int{katakanaDot})
		tables = scripts(span(arabic0, arabic0, which), span(extended0, extended0, which))
		wantExactly(t, "digits", tables, []int{arabic0, katakanaDot})
		wantExactly(t, "digits without the script", tables, []int{arabic9, katakanaDot}, 1)
		wantExactly(t, "digits that are not permitted", tables, []int{katakanaDot, arabic0, extended0}, 1, 2)
		tables = scripts(span(middleDot, middleDot, which), span(keraia, keraia, which), span(geresh, gershayim, which))
		for _, c := range []int{middleDot, keraia, geresh, gershayim} {
			wantExactly(t, "what is not permitted", tables, []int{c, katakanaDot}, 0)
		}
	}
	wantExactly(t, "digits that are Greek", scripts(span(arabic0, arabic9, api.Greek)), []int{keraia, arabic5, keraia, extended0}, 1, 2, 3)
	wantExactly(t, "digits that are Hebrew", scripts(span(extended0, extended9, api.Hebrew)), []int{arabic5, geresh, extended5, geresh}, 0, 1, 2)
}

// Promises 15.2 and 15.3: the digits of both kinds, alone and together.
func TestArabicDigits(t *testing.T) {
	for _, tables := range []api.Tables{{}, sample()} {
		wantRows(t, tables, []sampleRow{
			{"all of the one kind", []int{0x660, 0x661, 0x662, 0x663, 0x664, 0x665, 0x666, 0x667, 0x668, 0x669}, nil},
			{"all of the other kind", []int{0x6F0, 0x6F1, 0x6F2, 0x6F3, 0x6F4, 0x6F5, 0x6F6, 0x6F7, 0x6F8, 0x6F9}, nil},
			{"the one kind among others", []int{plain, arabic0, arabicLetter, '0', arabic9, plain}, nil},
			{"the other kind among others", []int{plain, extended0, arabicLetter, '0', extended9, plain}, nil},
			{"one of each kind", []int{arabic0, extended0}, []int{0, 1}},
			{"one of each kind, the other way round", []int{extended9, arabic9}, []int{0, 1}},
			{"several of each kind", []int{arabic0, arabic5, extended0, extended5}, []int{0, 1, 2, 3}},
			{"one after the other", []int{arabic0, extended0, arabic9, extended9}, []int{0, 1, 2, 3}},
			{"several, and one of the other kind last", []int{arabic0, arabic5, arabic9, extended5}, []int{0, 1, 2, 3}},
			{"several, and one of the one kind last", []int{extended0, extended5, extended9, arabic5}, []int{0, 1, 2, 3}},
			{"others between them", []int{plain, arabic0, plain, '.', plain, extended0, plain}, []int{1, 5}},
			{"digits of other kinds", []int{'0', 0x966, arabic0, 0x7C0, 0xFF10}, nil},
			{"what else they need nothing of", []int{han, hebrew, greek, el, arabic0}, nil},
		})
	}
}

// Promises 15.2 and 15.3: each digit with each code point from those before to those behind the digits.
func TestEachDigitWithEachOther(t *testing.T) {
	for c := 0x650; c <= 0x6FF; c++ {
		isArabic, isExtended := c >= 0x660 && c <= 0x669, c >= 0x6F0 && c <= 0x6F9
		for i := range 10 {
			for _, l := range [][]int{{0x660 + i, c}, {c, plain, 0x660 + i}} {
				wantAll(t, "a digit of the one kind", l, !isExtended)
			}
			for _, l := range [][]int{{0x6F0 + i, c}, {c, plain, 0x6F0 + i}} {
				wantAll(t, "a digit of the other kind", l, !isArabic)
			}
		}
	}
}

// wantAll compares the results for a list in which all digits are permitted, or none of them.
func wantAll(t *testing.T, name string, l []int, want bool) {
	t.Helper()
	var not []int
	for i, c := range l {
		if c != plain && !want {
			not = append(not, i)
		}
	}
	wantExactly(t, name, api.Tables{}, l, not...)
}

// Promises 15.2 and 15.3: one digit of each kind, each in any place of a sequence.
func TestArabicDigitsAtAnyDistance(t *testing.T) {
	for at := range 12 {
		for other := range 12 {
			if at != other {
				l := with(with(repeat(plain, 12), at, arabic5), other, extended5)
				wantExactly(t, "both kinds", api.Tables{}, l, min(at, other), max(at, other))
				wantExactly(t, "only one kind", api.Tables{}, with(l, other, arabic0))
				wantExactly(t, "only the other kind", api.Tables{}, with(l, at, extended0))
			}
		}
	}
}
