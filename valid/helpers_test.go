package valid_test

import (
	"slices"
	"strconv"
	"strings"
	"testing"

	"namedesk/api"
	"namedesk/compose"
	"namedesk/mapping"
	"namedesk/table"
	"namedesk/valid"
)

type (
	spans    = []api.Span
	mappings = []api.Mapping
)

const most = api.MaxRunes

// These keep the tables and labels of the tests short.
func span(from, to, value int) api.Span     { return api.Span{From: from, To: to, Value: value} }
func row(from int, to ...int) api.Mapping   { return api.Mapping{From: from, To: to} }
func repeat(c, count int) []int             { return slices.Repeat([]int{c}, count) }
func times(l []int, count int) []int        { return slices.Repeat(l, count) }
func join(lists ...[]int) []int             { return slices.Concat(lists...) }
func with(l []int, at int, c int) []int     { return slices.Replace(slices.Clone(l), at, at+1, c) }
func endingWith(size int, end ...int) []int { return join(repeat(plain, size-len(end)), end) }
func codes(s string) []int {
	var l []int
	for _, r := range s {
		l = append(l, int(r))
	}
	return l
}

// Code points of the sample.
const (
	plain = 'a'
	el    = 'l'
	hyph  = '-'
	stop  = '.'
	zwnj  = api.ZWNJ
	zwj   = api.ZWJ

	refusedByRow = 0x80
	refused      = 0x85 // without a row
	ignored      = 0xAD
	mapped       = 0xC9
	deviation    = 0xDF
	acuteE       = 0xE9 // e and acute
	roofE        = 0xEA // e and roof
	toDigit      = 0x2460

	acute       = 0x301
	roof        = 0x302
	devMark     = 0x31B
	below       = 0x323
	refusedMark = 0x324
	mappedMark  = 0x340
	ignoredMark = 0x34F
	mark0       = 0x488  // a mark, although it has the class 0
	ring        = 0x302A // a letter, although it has a class

	omega           = 0x3A9
	ka              = 0x915
	nukta           = 0x93C
	excluded        = 0x958  // ka and nukta, but never composed
	roofAcuteE      = 0x1EBF // roofE and acute
	singleton       = 0x2126 // omega
	notLess         = 0x226E // a less-than sign, which is Disallowed, and slash
	notMinus        = 0x2262 // a hyphen and slash
	slash           = 0x338
	markedMark      = 0x1AC0 // mark0 and acute, but a letter
	syllable        = 0xAC00
	syllable3       = 0xAC01 // with a trailing consonant
	leading         = 0x1100
	vowel           = 0x1161
	trailing        = 0x11A8
	left            = 0xA872
	right           = 0x627
	dual            = 0x628
	transparent     = 0x64B
	virama          = 0x94D
	viramaLetter    = 0xBCD
	middleDot       = 0xB7
	keraia          = 0x375
	greek           = 0x3B1
	geresh          = 0x5F3
	gershayim       = 0x5F4
	hebrew          = 0x5D0
	katakanaDot     = 0x30FB
	hiragana        = 0x3042
	han             = 0x4E00
	arabic0         = 0x660
	arabic9         = 0x669
	extended0       = 0x6F0
	extended9       = 0x6F9
	belowSurrogates = 0xD7FF
	aboveSurrogates = 0xE000
)

// permittedByStatus are the code points of the sample beside those of ASCII and Hangul that have the status Valid or
// Deviation, written out a second time.
var permittedByStatus = join(
	[]int{middleDot, deviation, 0xE0, 0xE8, acuteE, roofE, 0xFF, 0x300, acute, roof, devMark, below, slash, keraia, omega, greek, 0x3B2, mark0},
	[]int{hebrew, 0x5D1, geresh, gershayim, right, dual, transparent},
	[]int{0x660, 0x661, 0x662, 0x663, 0x664, 0x665, 0x666, 0x667, 0x668, 0x669, 0x6F0, 0x6F1, 0x6F2, 0x6F3, 0x6F4, 0x6F5, 0x6F6, 0x6F7, 0x6F8, 0x6F9},
	[]int{ka, nukta, virama, excluded, viramaLetter, markedMark, roofAcuteE, zwnj, zwj, singleton, notMinus, notLess, 0x3005, ring, hiragana, katakanaDot},
	[]int{han, 0x4E01, left, belowSurrogates, aboveSurrogates, api.MaxRune},
)

// marks are the code points of the sample with the category Mark, written out a second time.
var marks = []int{
	0x300, acute, roof, devMark, below, refusedMark, slash, mappedMark, ignoredMark, mark0, transparent, nukta, virama, aboveSurrogates,
}

// sample returns well-formed tables that also say much that has nothing to do with labels.
func sample() api.Tables {
	return api.Tables{
		Category: spans{
			span(refusedByRow, 0x81, api.Control), span(ignored, ignored, api.Control), span(middleDot, middleDot, api.Punctuation),
			span(0xC0, 0xFF, api.Letter), span(0x300, 0x302, api.Mark), span(devMark, devMark, api.Mark), span(below, refusedMark, api.Mark),
			span(slash, slash, api.Mark), span(mappedMark, mappedMark, api.Mark), span(ignoredMark, ignoredMark, api.Mark),
			span(keraia, keraia, api.Symbol), span(greek, greek, api.Letter), span(0x3B2, 0x3B2, api.Unassigned), span(mark0, mark0, api.Mark),
			span(transparent, transparent, api.Mark), span(arabic0, arabic9, api.Digit), span(nukta, nukta, api.Mark), span(virama, virama, api.Mark),
			span(toDigit, toDigit, api.Number), span(0x3000, 0x3000, api.Separator), span(ring, ring, api.Letter),
			span(aboveSurrogates, aboveSurrogates, api.Mark),
		},
		Class: spans{
			span(0x300, roof, 230), span(devMark, devMark, 216), span(below, refusedMark, 220), span(slash, slash, 1), span(mappedMark, mappedMark, 230),
			span(transparent, transparent, 27), span(nukta, nukta, 7), span(virama, virama, api.Virama), span(viramaLetter, viramaLetter, api.Virama),
			span(ring, ring, 218),
		},
		Joining: spans{
			span(0x300, roof, api.Transparent), span(right, right, api.RightJoining), span(dual, dual, api.DualJoining),
			span(transparent, transparent, api.Transparent), span(virama, virama, api.Transparent), span(zwj, zwj, api.JoinCausing),
			span(left, left, api.LeftJoining),
		},
		Bidi: spans{span(0x300, 0x36F, api.BidiNSM), span(hebrew, 0x5D1, api.BidiR), span(right, dual, api.BidiAL), span(arabic0, arabic9, api.BidiAN)},
		Script: spans{
			span(0xC0, 0xFF, api.Latin), span(0x300, 0x36F, api.Inherited), span(omega, 0x3B2, api.Greek), span(hebrew, 0x5D1, api.Hebrew),
			span(right, dual, api.Arabic), span(hiragana, hiragana, api.Hiragana), span(katakanaDot, katakanaDot, api.Common), span(han, 0x4E01, api.Han),
		},
		Status: spans{
			span(refusedByRow, 0x81, api.Disallowed), span(ignored, ignored, api.Ignored), span(middleDot, middleDot, api.Valid),
			span(mapped, mapped, api.Mapped), span(deviation, deviation, api.Deviation), span(0xE0, 0xE0, api.Valid), span(0xE8, roofE, api.Valid),
			span(0xFF, 0xFF, api.Valid), span(0x300, roof, api.Valid), span(devMark, devMark, api.Deviation), span(below, below, api.Valid),
			span(slash, slash, api.Valid), span(mappedMark, mappedMark, api.Mapped), span(ignoredMark, ignoredMark, api.Ignored),
			span(keraia, keraia, api.Valid), span(omega, omega, api.Valid), span(greek, 0x3B2, api.Valid), span(mark0, mark0, api.Valid),
			span(hebrew, 0x5D1, api.Valid), span(geresh, gershayim, api.Valid), span(right, dual, api.Valid), span(transparent, transparent, api.Valid),
			span(arabic0, arabic9, api.Valid), span(extended0, extended9, api.Valid), span(ka, ka, api.Valid), span(nukta, nukta, api.Valid),
			span(virama, virama, api.Valid), span(excluded, excluded, api.Valid), span(viramaLetter, viramaLetter, api.Valid),
			span(markedMark, markedMark, api.Valid), span(roofAcuteE, roofAcuteE, api.Valid), span(zwnj, zwj, api.Deviation),
			span(singleton, singleton, api.Valid), span(notMinus, notMinus, api.Valid), span(notLess, notLess, api.Valid),
			span(toDigit, toDigit, api.Mapped), span(0x3005, 0x3005, api.Valid), span(ring, ring, api.Valid), span(hiragana, hiragana, api.Valid),
			span(katakanaDot, katakanaDot, api.Valid), span(han, 0x4E01, api.Valid), span(left, left, api.Valid),
			span(belowSurrogates, belowSurrogates, api.Valid), span(aboveSurrogates, aboveSurrogates, api.Valid), span(api.MaxRune, api.MaxRune, api.Valid),
		},
		Ignorable:  spans{span(ignored, ignored, 1), span(zwnj, zwj, 1)},
		Extensions: mappings{row(0x3005, api.Han)},
		Maps:       mappings{row(mapped, acuteE), row(mappedMark, acute), row(toDigit, '1')},
		Decomps: mappings{
			row(mapped, 'E', acute), row(acuteE, 'e', acute), row(roofE, 'e', roof), row(excluded, ka, nukta), row(markedMark, mark0, acute),
			row(roofAcuteE, roofE, acute), row(singleton, omega), row(notMinus, hyph, slash), row(notLess, '<', slash),
		},
		Excluded:   []int{excluded},
		Prototypes: mappings{row('m', 'r', 'n'), row(arabic0, extended0)},
	}
}

// violating returns tables that violate a rule of chapter 4, and none before it.
func violating(rule int) api.Tables {
	t := sample()
	switch rule {
	case 1:
		t.Bidi = nil
		for i := range api.MaxRows + 1 {
			t.Bidi = append(t.Bidi, span(0xE0000+i, 0xE0000+i, api.BidiR))
		}
	case 2:
		t.Category = slices.Insert(t.Category, 0, span(plain, plain, api.Mark))
	case 3:
		t.Status[0].Value = api.Deviation + 1
	case 4:
		t.Maps[0].To = nil
	case 5:
		t.Maps[0].To = []int{'A'}
	case 6:
		t.Decomps[0].To = []int{mapped}
	case 7:
		t.Excluded = []int{0xEB}
	case 8:
		t.Decomps = append(t.Decomps, row(api.MaxRune, 'e', acute))
	case 9:
		t.Prototypes[0].To[0] = acuteE
	}
	return t
}

// shown returns a list for a message, in hexadecimal and without most of a long one.
func shown(l []int) string {
	var b strings.Builder
	for i, c := range l {
		if i == 24 {
			b.WriteString(" .. (" + strconv.Itoa(len(l)) + " elements)")
			break
		}
		b.WriteString(" " + strconv.FormatInt(int64(c), 16))
	}
	return "[" + b.String() + " ]"
}

// wantHyphens compares the result of Hyphens.
func wantHyphens(t *testing.T, name string, l []int, want bool) {
	t.Helper()
	if got := valid.Hyphens(l); got != want {
		t.Errorf("%s: Hyphens(%s) = %t", name, shown(l), got)
	}
}

// wantCheck compares the result of Check, and looks at the consequences of the chapter for a valid label.
func wantCheck(t *testing.T, name string, tables api.Tables, l []int, want api.Errno) {
	t.Helper()
	if got := valid.Check(tables, l); got != want {
		t.Errorf("%s: Check(%s) = %d, want %d", name, shown(l), got, want)
	}
	if want == api.OK {
		wantStable(t, name, tables, l)
	}
}

// wantStable compares a label that is valid with what mapping and normalization make of it.
func wantStable(t *testing.T, name string, tables api.Tables, l []int) {
	t.Helper()
	if !mapping.Stable(tables, l) {
		t.Errorf("%s: Stable(%s) = false", name, shown(l))
	}
	if nfc, e := compose.NFC(tables, l); e != api.OK || !slices.Equal(nfc, l) {
		t.Errorf("%s: NFC(%s) = %s, %d", name, shown(l), shown(nfc), e)
	}
}

// sampleLabel is a label with the result of Check for it.
type sampleLabel struct {
	name string
	l    []int
	want api.Errno
}

// wantLabels compares the result of Check for each row.
func wantLabels(t *testing.T, tables api.Tables, rows []sampleLabel) {
	t.Helper()
	for _, r := range rows {
		wantCheck(t, r.name, tables, r.l, r.want)
	}
}

func TestTablesOfTheTests(t *testing.T) {
	tables := sample()
	if rule := table.Check(tables); rule != 0 {
		t.Errorf("Check = %d", rule)
	}
	for rule := 1; rule <= 9; rule++ {
		if got := table.Check(violating(rule)); got != rule {
			t.Errorf("Check of the tables that violate rule %d = %d", rule, got)
		}
	}
	for c := 0x80; c <= api.MaxRune; c++ {
		status := table.Status(tables, c)
		isPermitted := slices.Contains(permittedByStatus, c) || c >= 0xAC00 && c <= 0xD7A3
		if got := status == api.Valid || status == api.Deviation; got != isPermitted {
			t.Errorf("the status of %#x is Valid or Deviation: %t", c, got)
		}
		if got := table.Category(tables, c) == api.Mark; got != slices.Contains(marks, c) {
			t.Errorf("the category of %#x is Mark: %t", c, got)
		}
	}
}
