package valid_test

import (
	"testing"

	"namedesk/api"
)

// Promise 17.2: labels that are valid, for each reason for which something else would not be.
func TestValidLabels(t *testing.T) {
	for _, row := range []struct {
		name string
		l    []int
	}{
		{"a letter", codes("a")},
		{"a digit", codes("1")},
		{"letters, digits and hyphens", codes("a-b1-2c")},
		{"all letters and digits of ASCII that are permitted", codes("abcdefghijklmnopqrstuvwxyz0123456789")},
		{"a composed letter", []int{acuteE}},
		{"a letter composed in two steps", []int{roofAcuteE}},
		{"a letter and a mark that do not compose", []int{plain, acute}},
		{"marks that are in order", []int{plain, nukta, virama, transparent, devMark, below, acute, roof}},
		{"marks of the same class", []int{plain, roof, acute, roof}},
		{"a mark of the class 0", []int{plain, mark0}},
		{"only one letter, and marks", []int{0x3B2, acute, acute, acute}},
		{"a composed letter, and what it does not compose with", []int{acuteE, below, acute}},
		{"a letter and a mark, with one between them that blocks", []int{'e', 0x300, acute}},
		{"a letter and a mark, with one of the class 0 between them", []int{'e', mark0, roof}},
		{"a first letter with a class", []int{ring, plain}},
		{"a first letter with the class Virama", []int{viramaLetter}},
		{"a first letter that is composed of marks", []int{markedMark, acute}},
		{"composed of what is Disallowed", []int{notLess}},
		{"composed of a hyphen, first and last", []int{notMinus}},
		{"composed of a hyphen, third and fourth", []int{plain, plain, notMinus, notMinus, plain}},
		{"Deviations", []int{deviation, deviation, devMark}},
		{"syllables", []int{syllable, syllable3}},
		{"a syllable that ends the sample", []int{0xD7A3, belowSurrogates}},
		{"the last code point", []int{api.MaxRune}},
		{"joiners behind a virama", []int{ka, virama, zwnj, ka, virama, zwj}},
		{"a joiner behind a letter with the class Virama", []int{viramaLetter, zwj}},
		{"ZWNJ between letters that join", []int{dual, transparent, zwnj, right}},
		{"ZWNJ behind a letter that joins to the left", []int{left, zwnj, dual}},
		{"0xB7 between two letters l", []int{el, middleDot, el}},
		{"0x375 before Greek", []int{keraia, greek}},
		{"0x5F3 and 0x5F4 behind Hebrew", []int{hebrew, geresh, hebrew, gershayim}},
		{"0x30FB with Han", []int{katakanaDot, han}},
		{"0x30FB with Hiragana before it", []int{hiragana, plain, katakanaDot}},
		{"digits of the one kind", []int{arabic0, arabic9}},
		{"digits of the other kind", []int{extended0, '0', extended9}},
	} {
		wantCheck(t, row.name, sample(), row.l, api.OK)
	}
}

// Promise 17.2: the empty label.
func TestErrEmpty(t *testing.T) {
	for _, tables := range []api.Tables{{}, sample()} {
		wantCheck(t, "no elements", tables, nil, api.ErrEmpty)
		wantCheck(t, "no elements, but memory", tables, []int{}, api.ErrEmpty)
		wantCheck(t, "one element", tables, []int{plain}, api.OK)
	}
}

// Promise 17.2: labels that are not in normalization form C, and nothing else.
func TestErrNormal(t *testing.T) {
	wantLabels(t, sample(), []sampleLabel{
		{"one that is always replaced", []int{singleton}, api.ErrNormal},
		{"what it is replaced by", []int{omega}, api.OK},
		{"first", []int{singleton, plain}, api.ErrNormal},
		{"last", []int{plain, singleton}, api.ErrNormal},
		{"in the middle", []int{plain, singleton, plain}, api.ErrNormal},
		{"one that is excluded", []int{excluded}, api.ErrNormal},
		{"what is excluded", []int{ka, nukta}, api.OK},
		{"two that compose", []int{'e', acute}, api.ErrNormal},
		{"with a mark of a smaller class between them", []int{'e', below, acute}, api.ErrNormal},
		{"with a mark of the same class between them", []int{'e', 0x300, acute}, api.OK},
		{"with a mark of the class 0 between them", []int{'e', mark0, roof}, api.OK},
		{"marks that are not in order", []int{plain, acute, below}, api.ErrNormal},
		{"marks that are in order", []int{plain, below, acute}, api.OK},
		{"marks that are not in order behind a composed letter", []int{acuteE, roof, below}, api.ErrNormal},
		{"two that compose, the first one composed", []int{roofE, acute}, api.ErrNormal},
		{"three that compose", []int{'e', roof, acute}, api.ErrNormal},
		{"what composes to a Mapped one", []int{'E', acute}, api.ErrNormal},
		{"a hyphen that is composed", []int{plain, hyph, slash, plain}, api.ErrNormal},
		{"marks that compose", []int{plain, mark0, acute}, api.ErrNormal},
		{"a leading consonant and a vowel", []int{leading, vowel}, api.ErrNormal},
		{"a syllable and a trailing consonant", []int{syllable, trailing}, api.ErrNormal},
		{"a syllable that has one, and a letter", []int{syllable3, plain}, api.OK},
		{"letters with classes that are not in order", []int{plain, ring, viramaLetter}, api.ErrNormal},
		{"letters with classes that are in order", []int{plain, viramaLetter, ring}, api.OK},
	})
	wantCheck(t, "without tables, two that compose elsewhere", api.Tables{Status: sample().Status, Maps: sample().Maps}, []int{'e', acute, below}, api.OK)
	wantCheck(t, "without tables, jamo", api.Tables{}, []int{syllable, trailing}, api.ErrNormal)
}

// Promise 17.2: the first element has the category Mark. The class alone does not matter, and neither do later
// elements.
func TestErrMark(t *testing.T) {
	for _, c := range []int{0x300, acute, roof, devMark, below, slash, mark0, transparent, nukta, virama, aboveSurrogates} {
		wantLabels(t, sample(), []sampleLabel{
			{"alone", []int{c}, api.ErrMark},
			{"first", []int{c, plain}, api.ErrMark},
			{"first and second", []int{c, c}, api.ErrMark},
			{"second", []int{plain, c}, api.OK},
			{"second and third", []int{plain, c, c}, api.OK},
			{"third, behind a hyphen", []int{plain, hyph, c}, okUnless(c == slash, api.ErrNormal)},
			{"last", []int{plain, 'b', 'c', c}, api.OK},
			{"first and last", []int{c, plain, c}, api.ErrMark},
		})
	}
	for _, c := range []int{ring, viramaLetter, markedMark, deviation, han, hebrew, dual, syllable, '1'} {
		wantCheck(t, "another one first", sample(), []int{c, plain}, api.OK)
	}
}

// okUnless returns OK, or another error if a condition holds.
func okUnless(condition bool, e api.Errno) api.Errno {
	if condition {
		return e
	}
	return api.OK
}

// Promise 17.2: each category of the first element, of a later one, and of none.
func TestEachCategory(t *testing.T) {
	const c = 0x1234
	status := spans{span(c, c+1, api.Valid)}
	for category := range api.Control + 1 {
		tables := api.Tables{Category: spans{span(c, c, category)}, Status: status}
		want := okUnless(category == api.Mark, api.ErrMark)
		wantCheck(t, "alone", tables, []int{c}, want)
		wantCheck(t, "first", tables, []int{c, plain, c}, want)
		wantCheck(t, "not first", tables, []int{plain, c, c}, api.OK)
		wantCheck(t, "behind one without a category", tables, []int{c + 1, c}, api.OK)
		for _, class := range []int{1, api.Virama, 230, 254} {
			tables.Class = spans{span(c, c, class)}
			wantCheck(t, "first, with a class", tables, []int{c, plain}, want)
		}
	}
	wantCheck(t, "no category", api.Tables{Status: status}, []int{c}, api.OK)
	wantCheck(t, "the ends of a row", api.Tables{Category: spans{span(c+1, c+3, api.Mark)}, Status: spans{span(c, c+4, api.Valid)}}, []int{c, c + 4}, api.OK)
	for _, first := range []int{c + 1, c + 2, c + 3} {
		wantCheck(t, "in a row", api.Tables{Category: spans{span(c+1, c+3, api.Mark)}, Status: spans{span(c, c+4, api.Valid)}}, []int{first}, api.ErrMark)
	}
}

// Promise 17.2: full stops and each status, in each place.
func TestErrStatus(t *testing.T) {
	for _, row := range []struct {
		name string
		c    int
		want api.Errno
	}{
		{"a full stop", stop, api.ErrStatus},
		{"Disallowed by a row", refusedByRow, api.ErrStatus},
		{"Disallowed without a row", refused, api.ErrStatus},
		{"Ignored", ignored, api.ErrStatus},
		{"Mapped to a letter", mapped, api.ErrStatus},
		{"Mapped to a digit", toDigit, api.ErrStatus},
		{"Valid", 0xE0, api.OK},
		{"Valid, beside one that is not", 0xE8, api.OK},
		{"Deviation", deviation, api.OK},
		{"a capital letter", 'A', api.ErrStatus},
		{"another capital letter", 'Z', api.ErrStatus},
		{"a space", ' ', api.ErrStatus},
		{"an underscore", '_', api.ErrStatus},
		{"a zero", 0, api.ErrStatus},
		{"a control", 0x7F, api.ErrStatus},
		{"a slash", '/', api.ErrStatus},
		{"an at", '@', api.ErrStatus},
		{"a leading consonant", leading, api.ErrStatus},
		{"a vowel", vowel, api.ErrStatus},
		{"a trailing consonant", trailing, api.ErrStatus},
		{"a full stop of another kind", 0x3002, api.ErrStatus},
		{"beside a Valid one", 0xE7, api.ErrStatus},
		{"a syllable", syllable, api.OK},
		{"the last syllable", 0xD7A3, api.OK},
		{"behind the last syllable", 0xD7A4, api.ErrStatus},
		{"below the last code point", api.MaxRune - 1, api.ErrStatus},
	} {
		for _, other := range []int{plain, '1', hebrew, han} {
			wantLabels(t, sample(), []sampleLabel{
				{row.name + ", alone", []int{row.c}, row.want},
				{row.name + ", first", []int{row.c, other, other}, row.want},
				{row.name + ", in the middle", []int{other, row.c, other}, row.want},
				{row.name + ", last", []int{other, other, row.c}, row.want},
				{row.name + ", several", []int{row.c, other, row.c, other, row.c}, row.want},
			})
		}
	}
	for _, c := range []int{refusedMark, mappedMark, ignoredMark} {
		wantCheck(t, "a mark", sample(), []int{plain, c}, api.ErrStatus)
		wantCheck(t, "a mark between others", sample(), []int{plain, virama, c, plain}, api.ErrStatus)
	}
	wantCheck(t, "only full stops", sample(), codes("..."), api.ErrStatus)
	wantCheck(t, "two labels", sample(), codes("a.b"), api.ErrStatus)
}

// Promise 17.2: each code point of ASCII, without and with tables.
func TestASCII(t *testing.T) {
	for _, tables := range []api.Tables{{}, sample()} {
		for c := range 0x80 {
			want := okUnless(!(c >= 'a' && c <= 'z' || c >= '0' && c <= '9' || c == '-'), api.ErrStatus)
			wantCheck(t, "in the middle", tables, []int{plain, c, plain}, want)
			if c == '-' {
				want = api.ErrHyphen
			}
			wantCheck(t, "alone", tables, []int{c}, want)
			wantCheck(t, "first", tables, []int{c, plain}, want)
			wantCheck(t, "last", tables, []int{plain, c}, want)
		}
	}
}

// Promise 17.2: each code point up to those that the sample says much about, and behind them those at the edges of each
// block of 256.
func TestEachCodePoint(t *testing.T) {
	tables := sample()
	var checked int
	for c := range api.MaxRune + 1 {
		if c > 0x34FF && c&0xFF > 0 && c&0xFF < 0xFF || c >= 0xD800 && c <= 0xDFFF {
			continue
		}
		checked++
		wantCheck(t, "alone", tables, []int{c}, ofSample.check([]int{c}))
		wantCheck(t, "between others", tables, []int{plain, c, plain}, ofSample.check([]int{plain, c, plain}))
	}
	if checked < 20000 {
		t.Errorf("%d code points", checked)
	}
}

// Promise 17.2: joiners that are permitted where they stand, and others.
func TestErrJoiner(t *testing.T) {
	for _, c := range []int{zwnj, zwj} {
		wantLabels(t, sample(), []sampleLabel{
			{"alone", []int{c}, api.ErrJoiner},
			{"first", []int{c, plain}, api.ErrJoiner},
			{"in the middle", []int{plain, c, plain}, api.ErrJoiner},
			{"last", []int{plain, c}, api.ErrJoiner},
			{"behind a virama", []int{ka, virama, c}, api.OK},
			{"behind a virama, before others", []int{ka, virama, c, plain}, api.OK},
			{"behind a letter with the class Virama", []int{viramaLetter, c}, api.OK},
			{"behind a mark that is no virama", []int{ka, nukta, c}, api.ErrJoiner},
			{"one more behind a virama", []int{ka, virama, c, virama, c}, api.OK},
			{"two behind a virama", []int{ka, virama, c, c}, api.ErrJoiner},
			{"before a virama", []int{ka, c, virama}, api.ErrJoiner},
			{"between those that join", []int{dual, c, dual}, okUnless(c == zwj, api.ErrJoiner)},
			{"between those that join, with marks", []int{dual, transparent, c, transparent, right}, okUnless(c == zwj, api.ErrJoiner)},
			{"behind one that joins to the left", []int{left, c, right}, okUnless(c == zwj, api.ErrJoiner)},
			{"behind one that does not join", []int{right, c, dual}, api.ErrJoiner},
			{"before one that does not join", []int{dual, c, left}, api.ErrJoiner},
			{"one that is permitted, and one that is not", []int{ka, virama, c, plain, c}, api.ErrJoiner},
		})
	}
	wantCheck(t, "without tables", api.Tables{}, []int{plain, zwj}, api.ErrStatus)
}

// Promise 17.2: joiners with each status, where they are permitted and where they are not.
func TestStatusOfJoiners(t *testing.T) {
	for status := range api.Deviation + 1 {
		tables := api.Tables{Class: spans{span(virama, virama, api.Virama)}, Status: spans{span(virama, virama, api.Valid), span(zwnj, zwj, status)}}
		if status == api.Mapped {
			tables.Maps = mappings{row(zwnj, plain), row(zwj, plain)}
		}
		isFor := status == api.Valid || status == api.Deviation
		for _, c := range []int{zwnj, zwj} {
			wantCheck(t, "permitted", tables, []int{plain, virama, c}, okUnless(!isFor, api.ErrStatus))
			want := api.ErrStatus
			if isFor {
				want = api.ErrJoiner
			}
			wantCheck(t, "not permitted", tables, []int{plain, c}, want)
		}
	}
}

// Promise 17.2: code points that need a context, with and without it.
func TestErrContext(t *testing.T) {
	wantLabels(t, sample(), []sampleLabel{
		{"0xB7 alone", []int{middleDot}, api.ErrContext},
		{"0xB7 between two letters l", []int{plain, el, middleDot, el, plain}, api.OK},
		{"0xB7 first", []int{middleDot, el}, api.ErrContext},
		{"0xB7 last", []int{el, middleDot}, api.ErrContext},
		{"0xB7 between others", []int{el, middleDot, plain}, api.ErrContext},
		{"0x375 alone", []int{keraia}, api.ErrContext},
		{"0x375 before Greek", []int{plain, keraia, greek}, api.OK},
		{"0x375 behind Greek", []int{greek, keraia}, api.ErrContext},
		{"0x375 before others", []int{keraia, plain}, api.ErrContext},
		{"0x5F3 alone", []int{geresh}, api.ErrContext},
		{"0x5F3 behind Hebrew", []int{hebrew, geresh, plain}, api.OK},
		{"0x5F3 before Hebrew", []int{geresh, hebrew}, api.ErrContext},
		{"0x5F4 alone", []int{gershayim}, api.ErrContext},
		{"0x5F4 behind Hebrew", []int{hebrew, gershayim}, api.OK},
		{"0x5F4 behind others", []int{plain, gershayim}, api.ErrContext},
		{"0x30FB alone", []int{katakanaDot}, api.ErrContext},
		{"0x30FB far from Han", []int{katakanaDot, plain, plain, han}, api.OK},
		{"0x30FB among others", []int{plain, katakanaDot, greek}, api.ErrContext},
		{"0x660 alone", []int{arabic0}, api.OK},
		{"0x6F0 alone", []int{extended0}, api.OK},
		{"digits of both kinds", []int{arabic0, extended0}, api.ErrContext},
		{"digits of both kinds, far from each other", []int{extended9, plain, plain, arabic9}, api.ErrContext},
		{"one that is permitted, and one that is not", []int{el, middleDot, el, keraia}, api.ErrContext},
		{"one that is not, and one that is permitted", []int{geresh, el, middleDot, el}, api.ErrContext},
	})
}

// Promise 17.2: code points that need a context, with each status and where they are permitted.
func TestStatusOfCodePointsThatNeedAContext(t *testing.T) {
	for status := range api.Deviation + 1 {
		tables := api.Tables{Status: spans{span(middleDot, middleDot, status), span(arabic0, arabic0, status)}}
		if status == api.Mapped {
			tables.Maps = mappings{row(middleDot, el), row(arabic0, '0')}
		}
		isFor := status == api.Valid || status == api.Deviation
		wantCheck(t, "0xB7, permitted", tables, []int{el, middleDot, el}, okUnless(!isFor, api.ErrStatus))
		wantCheck(t, "0x660, permitted", tables, []int{arabic0}, okUnless(!isFor, api.ErrStatus))
		want := api.ErrStatus
		if isFor {
			want = api.ErrContext
		}
		wantCheck(t, "0xB7, not permitted", tables, []int{middleDot}, want)
	}
}
