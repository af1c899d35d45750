package idna_test

import (
	"slices"
	"strconv"
	"strings"
	"testing"

	"namedesk/api"
	"namedesk/idna"
	"namedesk/table"
)

type (
	spans    = []api.Span
	mappings = []api.Mapping
)

// These keep the tables and names of the tests short.
func span(from, to, value int) api.Span   { return api.Span{From: from, To: to, Value: value} }
func one(c, value int) api.Span           { return span(c, c, value) }
func row(from int, to ...int) api.Mapping { return api.Mapping{From: from, To: to} }
func repeat(c, count int) []int           { return slices.Repeat([]int{c}, count) }
func times(s string, count int) string    { return strings.Repeat(s, count) }
func dotted(labels ...string) string      { return strings.Join(labels, ".") }
func codes(s string) []int {
	l := []int{}
	for _, r := range s {
		l = append(l, int(r))
	}
	return l
}

// Code points of the sample, as parts of names.
const (
	refused     = "\u0080" // with a row
	unknown     = "\u0085" // without a row
	ignored     = "\u00AD"
	middleDot   = "\u00B7"
	bigAcuteE   = "\u00C9" // Mapped to acuteE
	deviation   = "\u00DF"
	acuteE      = "\u00E9" // e and acute
	refusedRoof = "\u00EA" // e and roof, but Disallowed
	mappedRoof  = "\u00F4" // o and roof, but Mapped
	ignoredRoof = "\u00FB" // u and roof, but Ignored
	smallU      = "\u00FC"
	digraph     = "\u0132" // Mapped to i and j
	acute       = "\u0301"
	roof        = "\u0302"
	below       = "\u0323"
	mappedMark  = "\u0341" // Mapped to acute
	mark0       = "\u0488" // a mark with the class 0
	omega       = "\u03A9"
	alef        = "\u05D0"
	bet         = "\u05D1"
	beh         = "\u0628" // joins on both sides
	number      = "\u0660" // an Arabic number
	ka          = "\u0915"
	nukta       = "\u093C"
	virama      = "\u094D"
	excluded    = "\u0958" // ka and nukta, but never composed
	jamo        = "\u1100" // Disallowed, like all jamo
	zwnj        = "\u200C"
	zwj         = "\u200D"
	twoStops    = "\u2025" // Mapped to two full stops
	ohm         = "\u2126" // omega
	kelvin      = "\u212A" // Mapped to k
	oneStop     = "\u2488" // Mapped to 1 and a full stop
	wideStop    = "\u3002" // Mapped to a full stop
	han         = "\u4E00"
	syllable    = "\uAC00"
	manyLetters = "\uFDFA" // Mapped to MaxMap letters
	manyAcute   = "\uFDFB" // Mapped to MaxMap times acuteE
	wideHyphen  = "\uFF0D" // Mapped to a hyphen
	wideX       = "\uFF38" // Mapped to x
	face        = "\U0001F600"
	wholePrefix = "\U0001F12F" // Mapped to the prefix
	last        = "\U0010FFFF"
)

// sample returns well-formed tables that also say much that has nothing to do with names. No decomposition has an ASCII
// second element.
func sample() api.Tables {
	return api.Tables{
		Category: spans{
			one(0x80, api.Control), span(0xE0, 0xFF, api.Letter), span(0x300, 0x302, api.Mark), one(0x323, api.Mark), one(0x341, api.Mark),
			one(0x488, api.Mark), one(0x660, api.Digit), one(0x93C, api.Mark), one(0x94D, api.Mark),
		},
		Class: spans{span(0x300, 0x302, 230), one(0x323, 220), one(0x341, 230), one(0x93C, 7), one(0x94D, api.Virama)},
		Joining: spans{
			span(0x300, 0x302, api.Transparent), one(0x628, api.DualJoining), one(0x94D, api.Transparent), one(api.ZWJ, api.JoinCausing),
		},
		Bidi: spans{
			one(0xAD, api.BidiBN), span(0x300, 0x36F, api.BidiNSM), span(0x5D0, 0x5EA, api.BidiR), one(0x628, api.BidiAL), one(0x660, api.BidiAN),
			span(api.ZWNJ, api.ZWJ, api.BidiBN), one(0x1F600, api.BidiON),
		},
		Script: spans{
			span(0xE0, 0xFF, api.Latin), span(0x300, 0x36F, api.Inherited), one(0x3A9, api.Greek), span(0x5D0, 0x5EA, api.Hebrew), one(0x628, api.Arabic),
			span(0x4E00, 0x9FFF, api.Han),
		},
		Status: spans{
			one(0x80, api.Disallowed), one(0xAD, api.Ignored), one(0xB7, api.Valid), one(0xC9, api.Mapped), one(0xDF, api.Deviation), one(0xE9, api.Valid),
			one(0xF4, api.Mapped), one(0xFB, api.Ignored), one(0xFC, api.Valid), one(0x132, api.Mapped), span(0x300, 0x302, api.Valid), one(0x323, api.Valid),
			one(0x341, api.Mapped), one(0x3A9, api.Valid), one(0x488, api.Valid), span(0x5D0, 0x5EA, api.Valid), one(0x628, api.Valid), one(0x660, api.Valid),
			one(0x6F0, api.Valid), one(0x915, api.Valid), one(0x93C, api.Valid), one(0x94D, api.Valid), one(0x958, api.Valid),
			span(api.ZWNJ, api.ZWJ, api.Deviation), one(0x2025, api.Mapped), one(0x2126, api.Valid), one(0x212A, api.Mapped), one(0x2488, api.Mapped),
			one(0x3002, api.Mapped), span(0x4E00, 0x9FFF, api.Valid), span(0xFDFA, 0xFDFB, api.Mapped), one(0xFF0D, api.Mapped), one(0xFF38, api.Mapped),
			one(0x1F12F, api.Mapped), one(0x1F600, api.Valid), one(api.MaxRune, api.Valid),
		},
		Ignorable:  spans{one(0xAD, 1), span(api.ZWNJ, api.ZWJ, 1)},
		Extensions: mappings{row(0x660, api.Hebrew, api.Arabic)},
		Maps: mappings{
			row(0xC9, 0xE9), row(0xF4, 'o'), row(0x132, 'i', 'j'), row(0x341, 0x301), row(0x2025, '.', '.'), row(0x212A, 'k'), row(0x2488, '1', '.'),
			row(0x3002, '.'), row(0xFDFA, repeat('a', api.MaxMap)...), row(0xFDFB, repeat(0xE9, api.MaxMap)...), row(0xFF0D, '-'), row(0xFF38, 'x'),
			row(0x1F12F, 'x', 'n', '-', '-'),
		},
		Decomps: mappings{
			row(0xC9, 'E', 0x301), row(0xE9, 'e', 0x301), row(0xEA, 'e', 0x302), row(0xF4, 'o', 0x302), row(0xFB, 'u', 0x302), row(0x958, 0x915, 0x93C),
			row(0x2126, 0x3A9),
		},
		Excluded:   []int{0x958},
		Prototypes: mappings{row('m', 'r', 'n'), row(0x660, '0')},
	}
}

// violating returns tables that violate a rule of chapter 4, and none before it.
func violating(rule int) api.Tables {
	t := sample()
	switch rule {
	case 1:
		t.Joining = nil
		for i := range api.MaxRows + 1 {
			t.Joining = append(t.Joining, one(0xE0000+i, api.Transparent))
		}
	case 2:
		t.Category = slices.Insert(t.Category, 0, one('a', api.Mark))
	case 3:
		t.Status[0].Value = api.Deviation + 1
	case 4:
		t.Maps[0].To = nil
	case 5:
		t.Maps[0].To = []int{'A'}
	case 6:
		t.Decomps[0].To = []int{0xC9}
	case 7:
		t.Excluded = []int{0xEB}
	case 8:
		t.Decomps = append(t.Decomps, row(api.MaxRune, 'e', 0x301))
	case 9:
		t.Prototypes[0].To[0] = 0xE9
	}
	return t
}

// outcome is what the three functions return for a name. If it is late, only ToASCII and ToUnicode return the error.
type outcome struct {
	unicode, ascii string
	at             int
	e              api.Errno
	isLate         bool
}

// These are the kinds of outcomes: both forms of the name; an error of Process; and an error of ToASCII for labels that
// Process returns.
func forms(unicode, ascii string) outcome              { return outcome{unicode: unicode, ascii: ascii} }
func fails(at int, e api.Errno) outcome                { return outcome{at: at, e: e} }
func late(unicode string, at int, e api.Errno) outcome { return outcome{unicode, "", at, e, true} }

// same is the outcome for a name in ASCII that is its own Unicode form and ASCII form.
func same(name string) outcome { return forms(name, name) }

// labels returns the result of Process.
func (o outcome) labels() [][]int {
	if o.e != api.OK && !o.isLate {
		return nil
	}
	var l [][]int
	for _, label := range strings.Split(o.unicode, ".") {
		l = append(l, codes(label))
	}
	return l
}

// shown returns a name for a message, without most of a long one.
func shown(s string) string {
	if len(s) > 80 {
		return strconv.QuoteToASCII(s[:80]) + ".. (" + strconv.Itoa(len(s)) + " bytes)"
	}
	return strconv.QuoteToASCII(s)
}

// wantOutcome compares the results of the three functions.
func wantOutcome(t *testing.T, name string, tables api.Tables, s string, want outcome) {
	t.Helper()
	wantProcess(t, name, tables, s, want)
	ascii, unicode := want.ascii, want.unicode
	if want.isLate {
		unicode = ""
	}
	if got, at, e := idna.ToASCII(tables, s); got != ascii || at != want.at || e != want.e {
		t.Errorf("%s: ToASCII(%s) = %s, %d, %d, want %s, %d, %d", name, shown(s), shown(got), at, e, shown(ascii), want.at, want.e)
	}
	if got, at, e := idna.ToUnicode(tables, s); got != unicode || at != want.at || e != want.e {
		t.Errorf("%s: ToUnicode(%s) = %s, %d, %d, want %s, %d, %d", name, shown(s), shown(got), at, e, shown(unicode), want.at, want.e)
	}
}

// wantProcess compares the results of Process.
func wantProcess(t *testing.T, name string, tables api.Tables, s string, want outcome) {
	t.Helper()
	wantAt, wantE := want.at, want.e
	if want.isLate {
		wantAt, wantE = 0, api.OK
	}
	got, at, e := idna.Process(tables, s)
	if !slices.EqualFunc(got, want.labels(), slices.Equal[[]int]) || at != wantAt || e != wantE {
		t.Errorf("%s: Process(%s) = %v, %d, %d, want %v, %d, %d", name, shown(s), got, at, e, want.labels(), wantAt, wantE)
	}
}

// wantSameAgain looks at the consequences of the chapter for a name with these forms: both lead to both.
func wantSameAgain(t *testing.T, name string, tables api.Tables, want outcome) {
	t.Helper()
	wantOutcome(t, name+", its ASCII form", tables, want.ascii, want)
	wantOutcome(t, name+", its Unicode form", tables, want.unicode, want)
}

// sampleName is a name with what the three functions return for it.
type sampleName struct {
	name string
	s    string
	want outcome
}

// wantNames compares the results for each row, and looks at the consequences of the chapter. They hold for the
// sample.
func wantNames(t *testing.T, tables api.Tables, rows []sampleName) {
	t.Helper()
	for _, r := range rows {
		wantOutcome(t, r.name, tables, r.s, r.want)
		if r.want.e == api.OK {
			wantSameAgain(t, r.name, tables, r.want)
		}
	}
}

func TestTablesOfTheTests(t *testing.T) {
	tables := sample()
	if rule := table.Check(tables); rule != 0 {
		t.Errorf("Check = %d", rule)
	}
	for rule := 1; rule <= 9; rule++ {
		if got := table.Check(violating(rule)); got != rule {
			t.Errorf("Check of the tables that violate rule %d = %d", rule, got)
		}
	}
	for _, m := range tables.Decomps {
		if len(m.To) == 2 && m.To[1] < 0x80 {
			t.Errorf("%#x has an ASCII second element", m.From)
		}
	}
}
