package table_test

import (
	"slices"
	"testing"

	"namedesk/api"
	"namedesk/table"
)

type (
	spans    = []api.Span
	mappings = []api.Mapping
)

// span keeps the tables of the tests short.
func span(from, to, value int) api.Span { return api.Span{From: from, To: to, Value: value} }

// mapping keeps the tables of the tests short.
func mapping(from int, to ...int) api.Mapping { return api.Mapping{From: from, To: to} }

// free is the first of 65536 code points that the sample says nothing about, so that rules can be
// violated there.
const free = 0xF0000

// sample returns well-formed tables with every list, every kind of value, and rows next to reserved
// code points.
func sample() api.Tables {
	return api.Tables{
		Category: spans{
			span(0x80, 0x9F, api.Control), span(0xA0, 0xA0, api.Separator), span(0xA9, 0xA9, api.Symbol),
			span(0xB2, 0xB3, api.Number), span(0xB7, 0xB7, api.Punctuation), span(0xC0, 0xFF, api.Letter),
			span(0x300, 0x36F, api.Mark), span(0x660, 0x669, api.Digit), span(0x94D, 0x94D, api.Mark),
			span(0x10FF, 0x10FF, api.Letter), span(0x1113, 0x1160, api.Unassigned), span(0x1176, 0x11A7, api.Letter),
			span(0x11C3, 0xABFF, api.Symbol), span(0xD7A4, 0xD7FF, api.Mark), span(0xE000, 0xE000, api.Number),
			span(api.MaxRune, api.MaxRune, api.Control),
		},
		Class: spans{
			span(0x80, 0x80, 1), span(0x300, 0x314, 230), span(0x323, 0x323, 220), span(0x94D, 0x94D, api.Virama),
			span(api.MaxRune, api.MaxRune, 254),
		},
		Joining: spans{
			span(0x627, 0x627, api.RightJoining), span(0x628, 0x628, api.DualJoining), span(0x640, 0x640, api.JoinCausing),
			span(0x64B, 0x65F, api.Transparent), span(0xA872, 0xA872, api.LeftJoining), span(0xA873, 0xA873, api.NonJoining),
		},
		Bidi: spans{
			span(0x80, 0x84, api.BidiBN), span(0xA3, 0xA3, api.BidiET), span(0xAB, 0xAB, api.BidiON), span(0xB2, 0xB3, api.BidiEN),
			span(0xC0, 0xFF, api.BidiL), span(0x300, 0x36F, api.BidiNSM), span(0x5D0, 0x5EA, api.BidiR), span(0x627, 0x64A, api.BidiAL),
			span(0x660, 0x669, api.BidiAN), span(0x2029, 0x2029, api.BidiOther), span(0x2044, 0x2044, api.BidiCS), span(0x207A, 0x207B, api.BidiES),
		},
		Script: spans{
			span(0xB7, 0xB7, api.Common), span(0xC0, 0xFF, api.Latin), span(0x300, 0x36F, api.Inherited), span(0x3B1, 0x3C9, api.Greek),
			span(0x430, 0x44F, api.Cyrillic), span(0x5D0, 0x5EA, api.Hebrew), span(0x627, 0x64A, api.Arabic), span(0x11C3, 0x11C3, api.Hangul),
			span(0x3041, 0x3096, api.Hiragana), span(0x30A1, 0x30FA, api.Katakana), span(0x4E00, 0x9FFF, api.Han),
			span(0xE000, 0xE000, api.Unknown), span(0xE001, 0xE001, api.MaxScript),
		},
		Status: spans{
			span(0x80, 0xAC, api.Disallowed), span(0xAD, 0xAD, api.Ignored), span(0xB7, 0xB7, api.Valid), span(0xC0, 0xC1, api.Mapped),
			span(0xDF, 0xDF, api.Deviation), span(0xE0, 0xFF, api.Valid), span(0x10FF, 0x10FF, api.Valid),
		},
		Ignorable: spans{span(0xAD, 0xAD, 1), span(0x200B, 0x200F, 1)},
		Extensions: mappings{
			mapping(0xB7, api.Latin, api.Greek), mapping(0x3001, api.Han, api.Hiragana, api.Katakana, api.Hangul, api.Bopomofo),
			mapping(api.MaxRune, api.MaxScript),
		},
		Maps: mappings{mapping(0xC0, 0xE0), mapping(0xC1, 'a', 0xB7, 0xDF)},
		Decomps: mappings{
			mapping(0xC5, 'A', 0x30A), mapping(0xE0, 'a', 0x300), mapping(0xE1, 'a', 0x301), mapping(0x344, 0x308, 0x301),
			mapping(0x374, 0x2B9), mapping(0x958, 0x915, 0x93C), mapping(0x1EA1, 'a', 0x323), mapping(0x1EA5, 0xE2, 0x301),
			mapping(0x212B, 0xC5),
		},
		Excluded:   []int{0x958, 0x212B},
		Prototypes: mappings{mapping('-', 0x2010), mapping('0', 'o'), mapping('m', 'r', 'n'), mapping(0x430, 'a'), mapping(0x1113, 0x1112, 0xDF)},
	}
}

// bases are the tables to which the tests add rows.
var bases = []struct {
	name  string
	build func() api.Tables
}{
	{"no rows", func() api.Tables { return api.Tables{} }},
	{"sample", sample},
}

// spanList is one of the lists of spans, and the least and the greatest value in it.
type spanList struct {
	name        string
	of          func(*api.Tables) *spans
	least, most int
}

var spanLists = []spanList{
	{"Category", func(t *api.Tables) *spans { return &t.Category }, 0, 8},
	{"Class", func(t *api.Tables) *spans { return &t.Class }, 1, 254},
	{"Joining", func(t *api.Tables) *spans { return &t.Joining }, 0, 5},
	{"Bidi", func(t *api.Tables) *spans { return &t.Bidi }, 0, 11},
	{"Script", func(t *api.Tables) *spans { return &t.Script }, 0, 60},
	{"Status", func(t *api.Tables) *spans { return &t.Status }, 0, 4},
	{"Ignorable", func(t *api.Tables) *spans { return &t.Ignorable }, 1, 1},
}

// mappingList is one of the lists of mappings, and a sequence of one element that is permitted there.
type mappingList struct {
	name string
	of   func(*api.Tables) *mappings
	to   int
}

var mappingLists = []mappingList{
	{"Extensions", func(t *api.Tables) *mappings { return &t.Extensions }, api.Latin},
	{"Maps", func(t *api.Tables) *mappings { return &t.Maps }, 'x'},
	{"Decomps", func(t *api.Tables) *mappings { return &t.Decomps }, 'x'},
	{"Prototypes", func(t *api.Tables) *mappings { return &t.Prototypes }, 'x'},
}

// give adds a span to l, before the first one with a greater From.
func give(l *spans, from, to, value int) {
	at := slices.IndexFunc(*l, func(s api.Span) bool { return s.From > from })
	if at < 0 {
		at = len(*l)
	}
	*l = slices.Insert(*l, at, span(from, to, value))
}

// assign adds a mapping to l, before the first one with a greater From.
func assign(l *mappings, from int, to ...int) {
	at := slices.IndexFunc(*l, func(m api.Mapping) bool { return m.From > from })
	if at < 0 {
		at = len(*l)
	}
	*l = slices.Insert(*l, at, mapping(from, to...))
}

// assignMap adds an element to Maps, and its status.
func assignMap(t *api.Tables, from int, to ...int) {
	give(&t.Status, from, from, api.Mapped)
	assign(&t.Maps, from, to...)
}

// exclude adds an element to Excluded, before the first one that is greater.
func exclude(t *api.Tables, c int) {
	at, _ := slices.BinarySearch(t.Excluded, c)
	t.Excluded = slices.Insert(t.Excluded, at, c)
}

// wantRule adds rows to each of the bases, and compares the result of Check.
func wantRule(t *testing.T, name string, want int, change func(*api.Tables)) {
	t.Helper()
	for _, base := range bases {
		tables := base.build()
		change(&tables)
		if rule := table.Check(tables); rule != want {
			t.Errorf("%s, added to %s: Check = %d, want %d", name, base.name, rule, want)
		}
	}
}

// clone returns a copy of tables that shares no memory with them.
func clone(t api.Tables) api.Tables {
	for _, l := range spanLists {
		*l.of(&t) = slices.Clone(*l.of(&t))
	}
	for _, l := range mappingLists {
		*l.of(&t) = slices.Clone(*l.of(&t))
		for i, m := range *l.of(&t) {
			(*l.of(&t))[i].To = slices.Clone(m.To)
		}
	}
	t.Excluded = slices.Clone(t.Excluded)
	return t
}

// equal reports whether tables are equal, where lists without elements may be nil or empty.
func equal(a, b api.Tables) bool {
	for _, l := range spanLists {
		if !slices.Equal(*l.of(&a), *l.of(&b)) {
			return false
		}
	}
	for _, l := range mappingLists {
		if !slices.EqualFunc(*l.of(&a), *l.of(&b), func(x, y api.Mapping) bool {
			return x.From == y.From && slices.Equal(x.To, y.To)
		}) {
			return false
		}
	}
	return slices.Equal(a.Excluded, b.Excluded)
}
