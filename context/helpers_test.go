package context_test

import (
	"slices"
	"strconv"
	"strings"
	"testing"

	"namedesk/api"
	"namedesk/context"
	"namedesk/table"
)

type (
	spans    = []api.Span
	mappings = []api.Mapping
)

const most = api.MaxRunes

// These keep the tables and lists of the tests short.
func span(from, to, value int) api.Span     { return api.Span{From: from, To: to, Value: value} }
func row(from int, to ...int) api.Mapping   { return api.Mapping{From: from, To: to} }
func repeat(c, count int) []int             { return slices.Repeat([]int{c}, count) }
func times(l []int, count int) []int        { return slices.Repeat(l, count) }
func join(lists ...[]int) []int             { return slices.Concat(lists...) }
func with(l []int, at int, c int) []int     { return slices.Replace(slices.Clone(l), at, at+1, c) }
func endingWith(size int, end ...int) []int { return join(repeat(plain, size-len(end)), end) }
func scripts(s ...api.Span) api.Tables      { return api.Tables{Script: s} }

// Code points of the sample.
const (
	plain = 'a'
	el    = 0x6C

	middleDot   = 0xB7
	keraia      = 0x375
	geresh      = 0x5F3
	gershayim   = 0x5F4
	katakanaDot = 0x30FB
	arabic0     = 0x660
	arabic5     = 0x665
	arabic9     = 0x669
	extended0   = 0x6F0
	extended5   = 0x6F5
	extended9   = 0x6F9

	latin        = 0xE9
	greek        = 0x3B1
	greekMark    = 0x342
	cyrillic     = 0x434
	hebrew       = 0x5D0
	hebrewMark   = 0x5B0
	arabicLetter = 0x628
	virama       = 0x94D
	han          = 0x4E00
	hiragana     = 0x3042
	katakana     = 0x30AB
	bopomofo     = 0x3105
	hangul       = 0xAC00
	inherited    = 0x301
	common       = 0x640
	unknown      = 0x2FFF

	// These belong to scripts that permit others only by their Extensions.
	extendedGreek  = 0x1DC0
	extendedHebrew = 0x591
	extendedKana   = 0x30FC
	extendedHan    = 0x3001
)

// needing are all code points that need a context, written out a second time.
var needing = []int{
	0xB7, 0x375, 0x5F3, 0x5F4, 0x30FB, 0x660, 0x661, 0x662, 0x663, 0x664, 0x665, 0x666, 0x667, 0x668, 0x669,
	0x6F0, 0x6F1, 0x6F2, 0x6F3, 0x6F4, 0x6F5, 0x6F6, 0x6F7, 0x6F8, 0x6F9,
}

// scriptOf are the code points of the sample with one of the scripts that permit others, written out a second
// time: the expected results are computed with these.
var scriptOf = map[int]int{
	keraia: api.Greek, greek: api.Greek, 0x3B2: api.Greek, 0x3B3: api.Greek, greekMark: api.Greek, api.MaxRune: api.Greek,
	hebrew: api.Hebrew, 0x5D1: api.Hebrew, hebrewMark: api.Hebrew, geresh: api.Hebrew, gershayim: api.Hebrew, 0xD7FF: api.Hebrew,
	hiragana: api.Hiragana, 0x3043: api.Hiragana, katakana: api.Katakana, 0xE000: api.Katakana,
	0x3005: api.Han, han: api.Han, 0x4E01: api.Han, 0x20000: api.Han,
}

// sample returns well-formed tables that also say much that has nothing to do with contexts.
func sample() api.Tables {
	return api.Tables{
		Category: spans{span(0xC0, 0xFF, api.Letter), span(0x300, 0x36F, api.Mark), span(arabic0, arabic9, api.Digit)},
		Class: spans{
			span(0x300, 0x302, 230), span(greekMark, greekMark, 240), span(hebrewMark, hebrewMark, 10), span(virama, virama, api.Virama),
			span(0x302A, 0x302A, 218),
		},
		Joining: spans{span(arabicLetter, arabicLetter, api.DualJoining), span(common, common, api.JoinCausing)},
		Bidi:    spans{span(0x300, 0x36F, api.BidiNSM), span(hebrew, 0x5D1, api.BidiR), span(arabic0, arabic9, api.BidiAN)},
		Script: spans{
			span(middleDot, middleDot, api.Common), span(0xC0, 0xFF, api.Latin), span(0x300, 0x302, api.Inherited),
			span(greekMark, greekMark, api.Greek), span(keraia, keraia, api.Greek), span(greek, 0x3B3, api.Greek),
			span(0x430, 0x44F, api.Cyrillic), span(extendedHebrew, extendedHebrew, api.Inherited), span(hebrewMark, hebrewMark, api.Hebrew),
			span(hebrew, 0x5D1, api.Hebrew), span(geresh, gershayim, api.Hebrew), span(0x621, 0x63F, api.Arabic), span(common, common, api.Common),
			span(arabic0, arabic9, api.Common), span(extended0, extended9, api.Arabic), span(virama, virama, 13),
			span(extendedGreek, extendedGreek, api.Inherited), span(unknown, unknown, api.Unknown), span(extendedHan, extendedHan, api.Common),
			span(0x3005, 0x3005, api.Han), span(hiragana, 0x3043, api.Hiragana), span(katakana, katakana, api.Katakana),
			span(katakanaDot, extendedKana, api.Common), span(bopomofo, 0x312F, api.Bopomofo), span(han, 0x4E01, api.Han),
			span(0xD7FF, 0xD7FF, api.Hebrew), span(0xE000, 0xE000, api.Katakana), span(0x1F600, 0x1F600, api.MaxScript),
			span(0x20000, 0x20000, api.Han), span(api.MaxRune, api.MaxRune, api.Greek),
		},
		Status: spans{
			span(0xAD, 0xAD, api.Ignored), span(middleDot, middleDot, api.Valid), span(0xC9, 0xC9, api.Mapped), span(0xE9, 0xE9, api.Valid),
			span(arabic0, arabic9, api.Ignored), span(api.ZWNJ, api.ZWJ, api.Deviation),
		},
		Ignorable: spans{span(0xAD, 0xAD, 1)},
		Extensions: mappings{
			row(extendedHebrew, api.Hebrew), row(extended5, api.Han), row(extendedGreek, api.Greek), row(extendedHan, api.Han, api.Bopomofo),
			row(extendedKana, api.Hiragana, api.Katakana),
		},
		Maps:       mappings{row(0xC9, 0xE9)},
		Decomps:    mappings{row(0xC9, 'E', inherited), row(0xE9, 'e', inherited), row(0x140, el, middleDot), row(0x1FB6, greek, greekMark)},
		Excluded:   []int{0x140},
		Prototypes: mappings{row('m', 'r', 'n'), row(arabic0, extended0)},
	}
}

// violating returns tables that violate a rule of chapter 4, and none before it.
func violating(rule int) api.Tables {
	t := sample()
	switch rule {
	case 1:
		t.Bidi = nil
		for i := range api.MaxRows + 1 {
			t.Bidi = append(t.Bidi, span(0xE0000+i, 0xE0000+i, api.BidiR))
		}
	case 2:
		t.Script = slices.Insert(t.Script, 0, span(plain, plain, api.Han))
	case 3:
		t.Script[0].Value = api.MaxScript + 1
	case 4:
		t.Maps[0].To = nil
	case 5:
		t.Maps[0].To = []int{'A'}
	case 6:
		t.Decomps[0].To = []int{0xC9}
	case 7:
		t.Excluded = []int{0xEA}
	case 8:
		t.Decomps = append(t.Decomps, row(api.MaxRune, 'e', inherited))
	case 9:
		t.Prototypes[0].To[0] = 0xE9
	}
	return t
}

// shown returns a list for a message, in hexadecimal and without most of a long one.
func shown(l []int) string {
	var b strings.Builder
	for i, c := range l {
		if i == 24 {
			b.WriteString(" .. (" + strconv.Itoa(len(l)) + " elements)")
			break
		}
		b.WriteString(" " + strconv.FormatInt(int64(c), 16))
	}
	return "[" + b.String() + " ]"
}

// wantPermitted compares the result of Permitted.
func wantPermitted(t *testing.T, name string, tables api.Tables, l []int, i int, want bool) {
	t.Helper()
	if got := context.Permitted(tables, l, i); got != want {
		t.Errorf("%s: Permitted(%s, %d) = %t", name, shown(l), i, got)
	}
}

// wantCheck compares the results of Check.
func wantCheck(t *testing.T, name string, tables api.Tables, l []int, wantAt int, want api.Errno) {
	t.Helper()
	if at, e := context.Check(tables, l); at != wantAt || e != want {
		t.Errorf("%s: Check(%s) = %d, %d, want %d, %d", name, shown(l), at, e, wantAt, want)
	}
}

// wantExactly compares the results of Permitted for all indices, and of Check, for a list in which exactly the
// elements with these indices, which are ascending, are not permitted.
func wantExactly(t *testing.T, name string, tables api.Tables, l []int, not ...int) {
	t.Helper()
	for i := range l {
		wantPermitted(t, name, tables, l, i, !slices.Contains(not, i))
	}
	if len(not) == 0 {
		wantCheck(t, name, tables, l, 0, api.OK)
	} else {
		wantCheck(t, name, tables, l, not[0], api.ErrContext)
	}
}

// wantOne is wantExactly for a list in which all elements but perhaps the one with this index are permitted.
func wantOne(t *testing.T, name string, tables api.Tables, l []int, i int, want bool) {
	t.Helper()
	if want {
		wantExactly(t, name, tables, l)
	} else {
		wantExactly(t, name, tables, l, i)
	}
}

// sampleRow is a list of which exactly the elements with some indices are not permitted.
type sampleRow struct {
	name string
	l    []int
	not  []int
}

// wantRows compares the results of all functions for each row.
func wantRows(t *testing.T, tables api.Tables, rows []sampleRow) {
	t.Helper()
	for _, r := range rows {
		wantExactly(t, r.name, tables, r.l, r.not...)
	}
}

// wantRefused compares the results of Check and Permitted for a list for which order.Order has an error.
func wantRefused(t *testing.T, name string, tables api.Tables, l []int, want api.Errno) {
	t.Helper()
	wantCheck(t, name, tables, l, 0, want)
	for _, i := range []int{-1, 0, 1, 2, len(l) / 2, len(l) - 2, len(l) - 1, len(l)} {
		wantPermitted(t, name, tables, l, i, false)
	}
}

func TestTablesOfTheTests(t *testing.T) {
	tables := sample()
	if rule := table.Check(tables); rule != 0 {
		t.Errorf("Check = %d", rule)
	}
	for rule := 1; rule <= 9; rule++ {
		if got := table.Check(violating(rule)); got != rule {
			t.Errorf("Check of the tables that violate rule %d = %d", rule, got)
		}
	}
	permitting := []int{api.Greek, api.Hebrew, api.Hiragana, api.Katakana, api.Han}
	for c := range api.MaxRune + 1 {
		got := table.Script(tables, c)
		if !slices.Contains(permitting, got) {
			got = 0
		}
		if got != scriptOf[c] {
			t.Errorf("Script(%#x) = %d, want %d", c, got, scriptOf[c])
		}
	}
}
