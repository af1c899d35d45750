package script_test

import (
	"slices"
	"strconv"
	"strings"
	"testing"

	"namedesk/api"
	"namedesk/script"
	"namedesk/table"
)

type (
	spans    = []api.Span
	mappings = []api.Mapping
)

const (
	most  = api.MaxRunes
	every = 1<<64 - 1 // the set of all scripts
)

// These keep the tables and lists of the tests short.
func span(from, to, value int) api.Span     { return api.Span{From: from, To: to, Value: value} }
func row(from int, to ...int) api.Mapping   { return api.Mapping{From: from, To: to} }
func repeat(c, count int) []int             { return slices.Repeat([]int{c}, count) }
func times(l []int, count int) []int        { return slices.Repeat(l, count) }
func join(lists ...[]int) []int             { return slices.Concat(lists...) }
func with(l []int, at int, c int) []int     { return slices.Replace(slices.Clone(l), at, at+1, c) }
func endingWith(size int, end ...int) []int { return join(repeat('a', size-len(end)), end) }

// set returns a set of scripts.
func set(numbers ...int) uint64 {
	var scripts uint64
	for _, k := range numbers {
		scripts |= 1 << k
	}
	return scripts
}

// Code points of the sample, most of which are called like their script.
const (
	latin      = 0xE9
	greek      = 0x3B1
	cyrillic   = 0x430
	han        = 0x4E00
	hiragana   = 0x3042
	katakana   = 0x30AB
	hangul     = 0xAC00
	jamo       = 0x1100
	bopomofo   = 0x3105
	hebrew     = 0x5D0
	arabic     = 0x628
	devanagari = 0x915
	last       = 0x1F600
	common     = 0xD7
	inherited  = 0x301
	unknown    = 0x2FFF // the tables say so
	unnamed    = 0x2FFE // the tables say nothing
	accent     = 0x302  // of a class before that of inherited, so that it is put first by order.Order

	// These belong to several scripts, or to one by their Extensions.
	latinGreek         = 0xB7
	greekOnly          = 0x342
	greekCyrillic      = 0x483
	cyrillicHebrew     = 0x591
	greekArabic        = 0x640
	hebrewDevanagari   = 0x1CD0
	hanHangul          = 0x3006
	hebrewBopomofo     = 0x3007
	anyEastAsian       = 0x3001
	anyKana            = 0x30FC
	hiraganaOnly       = 0x30FD
	katakanaDevanagari = 0x30FE
	latinLast          = 0x1F601
	seventeen          = 0x1F602 // Latin, and 16 scripts up to MaxScript
)

// sample returns well-formed tables that also say much that has nothing to do with scripts.
func sample() api.Tables {
	return api.Tables{
		Category: spans{span(0xC0, 0xFF, api.Letter), span(0x300, 0x36F, api.Mark)},
		Class:    spans{span(0x300, inherited, 230), span(accent, accent, 220)},
		Joining:  spans{span(arabic, arabic, api.DualJoining)},
		Bidi:     spans{span(0x300, 0x36F, api.BidiNSM), span(0x5D0, 0x5EA, api.BidiR), span(0x627, 0x64A, api.BidiAL)},
		Script: spans{
			span(latinGreek, latinGreek, api.Common), span(0xC0, 0xD6, api.Latin), span(common, common, api.Common), span(0xD8, 0xFF, api.Latin),
			span(0x300, greekOnly, api.Inherited), span(0x370, 0x3FF, api.Greek), span(0x400, 0x482, api.Cyrillic),
			span(greekCyrillic, greekCyrillic, api.Inherited), span(0x5D0, 0x5EA, api.Hebrew), span(0x620, 0x64A, api.Arabic), span(0x900, 0x97F, 13),
			span(unknown, unknown, api.Unknown), span(anyEastAsian, anyEastAsian, api.Common), span(0x3005, hanHangul, api.Han),
			span(0x3041, 0x3096, api.Hiragana), span(0x30A1, 0x30FA, api.Katakana), span(anyKana, anyKana, api.Common), span(0x3105, 0x312F, api.Bopomofo),
			span(han, 0x9FA5, api.Han), span(0xD7FF, 0xD7FF, api.Hebrew), span(0xE000, 0xE000, api.Katakana), span(last, last, api.MaxScript),
			span(0x20000, 0x2FFFF, api.Han), span(api.MaxRune, api.MaxRune, api.Greek),
		},
		Status:    spans{span(0xAD, 0xAD, api.Ignored), span(0xC9, 0xC9, api.Mapped), span(0xE9, 0xE9, api.Valid)},
		Ignorable: spans{span(0xAD, 0xAD, 1)},
		Extensions: mappings{
			row(latinGreek, api.Latin, api.Greek), row(greekOnly, api.Greek), row(greekCyrillic, api.Greek, api.Cyrillic),
			row(cyrillicHebrew, api.Cyrillic, api.Hebrew), row(greekArabic, api.Greek, api.Arabic), row(hebrewDevanagari, api.Hebrew, 13),
			row(anyEastAsian, api.Han, api.Hiragana, api.Katakana, api.Hangul, api.Bopomofo), row(hanHangul, api.Han, api.Hangul),
			row(hebrewBopomofo, api.Bopomofo, api.Hebrew), row(anyKana, api.Hiragana, api.Katakana), row(hiraganaOnly, api.Hiragana),
			row(katakanaDevanagari, api.Katakana, 13), row(latinLast, api.Latin, api.MaxScript),
			row(seventeen, api.Latin, 16, 17, 18, 19, 20, 21, 22, 23, 24, 25, 26, 27, 28, 29, 59, api.MaxScript),
		},
		Maps:       mappings{row(0xC9, 0xE9)},
		Decomps:    mappings{row(0xC9, 'E', inherited), row(0xE9, 'e', inherited), row(0x1FB6, greek, greekOnly)},
		Excluded:   []int{0x1FB6},
		Prototypes: mappings{row('m', 'r', 'n'), row(cyrillic, 'a')},
	}
}

// scriptsOnly returns of tables what bears on scripts. Tests with many calls use it, because each call looks at all
// of the tables.
func scriptsOnly(t api.Tables) api.Tables {
	return api.Tables{Script: t.Script, Extensions: t.Extensions}
}

// setOf are the Sets of code points of the sample, written out.
var setOf = map[int]uint64{
	'a': set(3), 'Z': set(3), '0': every, '-': every, ' ': every, 0: every, 0x7F: every,
	latin: set(3), greek: set(4), cyrillic: set(5), han: set(6, 61, 62, 63), hiragana: set(7, 62), katakana: set(8, 62),
	hangul: set(9, 63), 0xD7A3: set(9, 63), jamo: set(9, 63), 0x1175: set(9, 63), 0x11C2: set(9, 63), bopomofo: set(10, 61), hebrew: set(11),
	arabic: set(12), devanagari: set(13), last: set(60), common: every, inherited: every, accent: every, unknown: 0, unnamed: 0, 0x80: 0, 0x1113: 0,
	latinGreek: set(3, 4), greekOnly: set(4), greekCyrillic: set(4, 5), cyrillicHebrew: set(5, 11), greekArabic: set(4, 12), hebrewDevanagari: set(11, 13),
	hanHangul: set(6, 9, 61, 62, 63), hebrewBopomofo: set(10, 11, 61), anyEastAsian: set(6, 7, 8, 9, 10, 61, 62, 63), anyKana: set(7, 8, 62),
	hiraganaOnly: set(7, 62), katakanaDevanagari: set(8, 13, 62), latinLast: set(3, 60),
	seventeen: set(3, 16, 17, 18, 19, 20, 21, 22, 23, 24, 25, 26, 27, 28, 29, 59, 60),
	0xD7FF:    set(11), 0xE000: set(8, 62), 0x20000: set(6, 61, 62, 63), api.MaxRune: set(4), api.MaxRune - 1: 0,
}

// violating returns tables that violate a rule of chapter 4, and none before it.
func violating(rule int) api.Tables {
	t := sample()
	switch rule {
	case 1:
		t.Script = nil
		for i := range api.MaxRows + 1 {
			t.Script = append(t.Script, span(0xE0000+i, 0xE0000+i, api.Common))
		}
	case 2:
		t.Script = slices.Insert(t.Script, 0, span('a', 'a', api.Common))
	case 3:
		t.Script[0].Value = api.MaxScript + 1
	case 4:
		t.Extensions[0].To = []int{api.Common, api.Latin}
	case 5:
		t.Maps[0].To = []int{'A'}
	case 6:
		t.Decomps[0].To = []int{0xC9}
	case 7:
		t.Excluded = []int{0xEA}
	case 8:
		t.Decomps = append(t.Decomps, row(api.MaxRune, 'e', inherited))
	case 9:
		t.Prototypes[0].To[0] = 0xE9
	}
	return t
}

// shown returns a list for a message, in hexadecimal and without most of a long one.
func shown(l []int) string {
	var b strings.Builder
	for i, c := range l {
		if i == 24 {
			b.WriteString(" .. (" + strconv.Itoa(len(l)) + " elements)")
			break
		}
		b.WriteString(" " + strconv.FormatInt(int64(c), 16))
	}
	return "[" + b.String() + " ]"
}

// wantSet compares the result of Set.
func wantSet(t *testing.T, name string, tables api.Tables, c int, want uint64) {
	t.Helper()
	if got := script.Set(tables, c); got != want {
		t.Errorf("%s: Set(%#x) = %#x, want %#x", name, c, got, want)
	}
}

// wantResolve compares the results of Resolve and Single for a list without an error.
func wantResolve(t *testing.T, name string, tables api.Tables, l []int, want uint64) {
	t.Helper()
	if got, e := script.Resolve(tables, l); got != want || e != api.OK {
		t.Errorf("%s: Resolve(%s) = %#x, %d, want %#x", name, shown(l), got, e, want)
	}
	if got := script.Single(tables, l); got != (want != 0) {
		t.Errorf("%s: Single(%s) = %t", name, shown(l), got)
	}
}

// wantCovered compares the result of Covered.
func wantCovered(t *testing.T, name string, tables api.Tables, l []int, scripts uint64, want bool) {
	t.Helper()
	if got := script.Covered(tables, l, scripts); got != want {
		t.Errorf("%s: Covered(%s, %#x) = %t", name, shown(l), scripts, got)
	}
}

// wantLevel compares the results of Level for a list without an error.
func wantLevel(t *testing.T, name string, tables api.Tables, l []int, want int) {
	t.Helper()
	if got, e := script.Level(tables, l); got != want || e != api.OK {
		t.Errorf("%s: Level(%s) = %d, %d, want %d", name, shown(l), got, e, want)
	}
}

// wantRefused compares the results of all functions for a list for which order.Order has an error.
func wantRefused(t *testing.T, name string, tables api.Tables, l []int, want api.Errno) {
	t.Helper()
	if got, e := script.Resolve(tables, l); got != 0 || e != want {
		t.Errorf("%s: Resolve(%s) = %#x, %d, want 0, %d", name, shown(l), got, e, want)
	}
	if script.Single(tables, l) {
		t.Errorf("%s: Single(%s) = true", name, shown(l))
	}
	for _, scripts := range []uint64{0, set(3), set(61), every} {
		wantCovered(t, name, tables, l, scripts, false)
	}
	if got, e := script.Level(tables, l); got != 0 || e != want {
		t.Errorf("%s: Level(%s) = %d, %d, want 0, %d", name, shown(l), got, e, want)
	}
}

// codePointOf returns a code point to which numbered gives a script.
func codePointOf(number int) int { return 0xF0000 + number }

// numbered returns tables with a code point for each script.
func numbered() api.Tables {
	var t api.Tables
	for k := range api.MaxScript + 1 {
		t.Script = append(t.Script, span(codePointOf(k), codePointOf(k), k))
	}
	return t
}

func TestTablesOfTheTests(t *testing.T) {
	for _, tables := range []api.Tables{sample(), scriptsOnly(sample()), numbered()} {
		if rule := table.Check(tables); rule != 0 {
			t.Errorf("Check = %d", rule)
		}
	}
	for rule := 1; rule <= 9; rule++ {
		if got := table.Check(violating(rule)); got != rule {
			t.Errorf("Check of the tables that violate rule %d = %d", rule, got)
		}
	}
}
