package table_test

import (
	"math"
	"slices"
	"testing"

	"namedesk/api"
	"namedesk/table"
)

// reservedRanges are the ranges of the definition; two of them that touch are one here.
var reservedRanges = []struct {
	name        string
	first, last int
}{
	{"ASCII", 0, 127},
	{"leading consonants", 0x1100, 0x1112},
	{"vowels", 0x1161, 0x1175},
	{"trailing consonants", 0x11A8, 0x11C2},
	{"syllables", 0xAC00, 0xD7A3},
	{"surrogates", 0xD800, 0xDFFF},
}

// isReserved reports whether the definition calls c reserved.
func isReserved(c int) bool {
	for _, r := range reservedRanges {
		if c >= r.first && c <= r.last {
			return true
		}
	}
	return false
}

// outside are numbers that are no code points.
var outside = []int{math.MinInt, math.MinInt + 1, -api.MaxRune, -1, api.MaxRune + 1, math.MaxInt - 1, math.MaxInt}

func TestWellFormed(t *testing.T) {
	wantRule(t, "nothing", 0, func(*api.Tables) {})
	empty := api.Tables{
		Category: spans{}, Class: spans{}, Joining: spans{}, Bidi: spans{}, Script: spans{}, Status: spans{}, Ignorable: spans{},
		Extensions: mappings{}, Maps: mappings{}, Decomps: mappings{}, Excluded: []int{}, Prototypes: mappings{},
	}
	if rule := table.Check(empty); rule != 0 {
		t.Errorf("empty lists: Check = %d", rule)
	}
}

// fill puts n rows into a list of spans, with the value that is permitted in all of them.
func fill(l *spans, n int) {
	*l = nil
	for i := range n {
		*l = append(*l, span(free+2*i, free+2*i, 1))
	}
}

// fillMappings puts n rows into a list of mappings.
func fillMappings(l *mappings, n, to int) {
	*l = nil
	for i := range n {
		*l = append(*l, mapping(free+i, to))
	}
}

func TestRule1(t *testing.T) {
	for _, rows := range []struct{ count, want int }{{api.MaxRows, 0}, {api.MaxRows + 1, 1}, {3 * api.MaxRows, 1}} {
		for _, l := range spanLists {
			var tables api.Tables
			fill(l.of(&tables), rows.count)
			wantCheck(t, l.name, tables, rows.want)
		}
		for _, l := range mappingLists {
			var tables api.Tables
			tables.Status = spans{span(free, free+api.MaxRows-1, api.Mapped)}
			if l.name != "Maps" {
				tables.Status = nil
			}
			fillMappings(l.of(&tables), rows.count, l.to)
			wantCheck(t, l.name, tables, rows.want)
		}
		var tables api.Tables
		fillMappings(&tables.Decomps, min(rows.count, api.MaxRows), 'x')
		for i := range rows.count {
			tables.Excluded = append(tables.Excluded, free+i)
		}
		wantCheck(t, "Excluded", tables, rows.want)
	}
}

func wantCheck(t *testing.T, name string, tables api.Tables, want int) {
	t.Helper()
	if rule := table.Check(tables); rule != want {
		t.Errorf("%s: Check = %d, want %d", name, rule, want)
	}
}

// Rule 2: lists of spans that are not valid.
func TestRule2OfSpans(t *testing.T) {
	for _, l := range spanLists {
		for _, bad := range []spans{
			{span(free+5, free+4, 1)},
			{span(free, free+5, 1), span(free+5, free+9, 1)},
			{span(free+9, free+9, 1), span(free, free, 1)},
			{span(free, free, 1), span(free, free, 1)},
			{span(free, api.MaxRune+1, 1)},
			{span(api.MaxRune+1, api.MaxRune+1, 1)},
			{span(free, math.MaxInt, 1)},
			{span(math.MinInt, math.MinInt, 1)},
			{span(free, math.MinInt, 1)},
		} {
			tables := sample()
			*l.of(&tables) = bad
			wantCheck(t, l.name, tables, 2)
			wantCheck(t, l.name+" alone", only(l, bad), 2)
		}
		// The values are those of the first rule that is violated, whatever they are.
		wantCheck(t, l.name, only(l, spans{span(free+5, free+4, math.MaxInt)}), 2)
	}
}

// only returns tables with a single list.
func only(l spanList, rows spans) api.Tables {
	var tables api.Tables
	*l.of(&tables) = rows
	return tables
}

// Rule 2: each reserved code point, and the neighbours of their ranges.
func TestRule2OfReservedInSpans(t *testing.T) {
	for _, l := range spanLists {
		for c := range 0xE200 {
			want := wantIfReserved(isReserved(c))
			if rule := table.Check(only(l, spans{span(c, c, 1)})); rule != want {
				t.Fatalf("%s with %#x: Check = %d, want %d", l.name, c, rule, want)
			}
		}
		wantCheck(t, l.name+" with all code points", only(l, spans{span(0, api.MaxRune, 1)}), 2)
		wantCheck(t, l.name+" with all others", only(l, spans{
			span(0x80, 0x10FF, 1), span(0x1113, 0x1160, 1), span(0x1176, 0x11A7, 1), span(0x11C3, 0xABFF, 1),
			span(0xD7A4, 0xD7FF, 1), span(0xE000, api.MaxRune, 1),
		}), 0)
		for _, r := range reservedRanges {
			touching := spans{
				span(r.last, r.last+1, 1), span(r.first, r.last, 1), span(r.first, r.last+9, 1),
				span(r.first+1, r.last-1, 1), span(r.last, 0xE100, 1),
			}
			if r.first > 0 {
				touching = append(touching,
					span(r.first-1, r.first, 1), span(r.first-9, r.last, 1), span(r.first-1, r.last+1, 1), span(0x80, r.first, 1))
			}
			for _, s := range touching {
				wantCheck(t, l.name+" with "+r.name, only(l, spans{s}), 2)
			}
			if r.first > 0 {
				wantCheck(t, l.name+" with "+r.name+" at last", only(l, spans{span(0xA0, 0xA0, 1), span(r.last, r.last+1, 1)}), 2)
			}
		}
	}
}

func wantIfReserved(isReserved bool) int {
	if isReserved {
		return 2
	}
	return 0
}

// withMapping returns tables with one element of a list of mappings, which violates at most rule 2.
func withMapping(l mappingList, from int) api.Tables {
	var tables api.Tables
	assign(l.of(&tables), from, 0x2603)
	switch l.name {
	case "Extensions":
		tables.Extensions[0].To[0] = api.Han
	case "Maps":
		tables.Status = spans{span(from, from, api.Mapped)}
		tables.Maps[0].To[0] = 'x'
	}
	return tables
}

// Rule 2: the From of the lists of mappings, and the elements of Excluded.
func TestRule2OfMappings(t *testing.T) {
	for _, l := range mappingLists {
		for _, rows := range [][]int{
			{free, free}, {free + 1, free}, {free, free + 1, free + 1}, {free + 5, free + 6, free + 4}, {0xA0, api.MaxRune, 0xA0},
		} {
			for _, base := range bases {
				tables := base.build()
				*l.of(&tables) = nil
				for _, from := range rows {
					*l.of(&tables) = append(*l.of(&tables), mapping(from, l.to))
				}
				wantCheck(t, l.name, tables, 2)
			}
		}
		for _, c := range outside {
			wantRule(t, l.name, 2, func(tables *api.Tables) { assign(l.of(tables), c, l.to) })
		}
		wantCheck(t, l.name, withMapping(l, api.MaxRune), 0)
	}
}

func TestRule2OfExcluded(t *testing.T) {
	for _, rows := range [][]int{{free, free}, {free + 1, free}, {free, free + 1, free + 1}, {free, free + 1, free}} {
		var tables api.Tables
		assign(&tables.Decomps, free, 'x')
		assign(&tables.Decomps, free+1, 'x')
		tables.Excluded = rows
		wantCheck(t, "Excluded", tables, 2)
	}
	for _, c := range outside {
		wantRule(t, "Excluded", 2, func(tables *api.Tables) { exclude(tables, c) })
	}
}

// Rule 2: each reserved code point as a From and in Excluded, and which may have prototypes.
func TestRule2OfReservedInMappings(t *testing.T) {
	for c := range 0xE200 {
		for _, l := range mappingLists {
			tables := withMapping(l, c)
			want := wantIfReserved(isReserved(c))
			if l.name == "Prototypes" && isLetterDigitHyphen(c) {
				want = 0
			}
			if l.name == "Maps" && want == 2 {
				// The span of Status must not be what is refused.
				tables.Status = nil
			}
			if c == 0x2603 && l.name == "Decomps" {
				want = 6
			}
			if c == 0x2603 && l.name == "Prototypes" {
				want = 9
			}
			if rule := table.Check(tables); rule != want {
				t.Fatalf("%s of %#x: Check = %d, want %d", l.name, c, rule, want)
			}
		}
		want := wantIfReserved(isReserved(c))
		if want == 0 {
			want = 7
		}
		if rule := table.Check(api.Tables{Excluded: []int{c}}); rule != want {
			t.Fatalf("Excluded with %#x: Check = %d, want %d", c, rule, want)
		}
	}
}

// isLetterDigitHyphen reports whether c is one of the code points that may have a prototype although
// they are reserved.
func isLetterDigitHyphen(c int) bool {
	return slices.Contains([]rune("abcdefghijklmnopqrstuvwxyz0123456789-"), rune(c))
}

// Rule 3: each permitted value, and those next to them.
func TestRule3(t *testing.T) {
	for _, l := range spanLists {
		for value := l.least; value <= l.most; value++ {
			wantRule(t, l.name, 0, func(tables *api.Tables) {
				give(l.of(tables), free, free, value)
				if l.name == "Status" && value == api.Mapped {
					assign(&tables.Maps, free, 'x')
				}
			})
		}
		for _, value := range []int{l.least - 1, l.most + 1, -1, 256, -l.most, math.MinInt, math.MaxInt} {
			for _, at := range []int{0x81, free, free + 0xFFFF} {
				tables := only(l, spans{span(0x90, 0x9F, 1), span(0xA0, 0xA0, 1)})
				give(l.of(&tables), at, at, value)
				wantCheck(t, l.name, tables, 3)
			}
		}
	}
}

// Rule 4: the number of elements.
func TestRule4OfSizes(t *testing.T) {
	for _, l := range mappingLists {
		for size := range 3 * api.MaxMap {
			to := make([]int, size)
			for i := range to {
				to[i] = 'a'
				if l.name == "Extensions" {
					to[i] = api.Latin + i
				}
			}
			want := 0
			switch {
			case size == 0 || size > api.MaxMap:
				want = 4
			case l.name == "Decomps" && size > 2:
				want = 6
			}
			wantRule(t, l.name, want, func(tables *api.Tables) {
				if l.name == "Maps" {
					assignMap(tables, free, to...)
				} else {
					assign(l.of(tables), free, to...)
				}
			})
		}
		wantRule(t, l.name+" with nil", 4, func(tables *api.Tables) { assign(l.of(tables), free) })
		wantRule(t, l.name+" with nil and another row", 4, func(tables *api.Tables) {
			assign(l.of(tables), free)
			assign(l.of(tables), free+1, l.to)
		})
	}
}

// Rule 4: the numbers of scripts.
func TestRule4OfScripts(t *testing.T) {
	for _, c := range []struct {
		to   []int
		want int
	}{
		{[]int{3}, 0},
		{[]int{60}, 0},
		{[]int{3, 60}, 0},
		{[]int{3, 4, 5, 59, 60}, 0},
		{[]int{2}, 4},
		{[]int{1}, 4},
		{[]int{0}, 4},
		{[]int{-1}, 4},
		{[]int{61}, 4},
		{[]int{math.MinInt}, 4},
		{[]int{math.MaxInt}, 4},
		{[]int{2, 3}, 4},
		{[]int{60, 61}, 4},
		{[]int{3, 3}, 4},
		{[]int{4, 3}, 4},
		{[]int{3, 5, 5}, 4},
		{[]int{3, 5, 4}, 4},
		{[]int{3, 5, 3}, 4},
		{[]int{3, math.MaxInt}, 4},
	} {
		wantRule(t, "Extensions", c.want, func(tables *api.Tables) { assign(&tables.Extensions, free, c.to...) })
		wantRule(t, "Extensions, second of two", c.want, func(tables *api.Tables) {
			assign(&tables.Extensions, free-1, 3)
			assign(&tables.Extensions, free, c.to...)
		})
		wantRule(t, "Extensions, first of two", c.want, func(tables *api.Tables) {
			assign(&tables.Extensions, free, c.to...)
			assign(&tables.Extensions, free+1, 3)
		})
	}
}

// Rule 4: scalar values, at each place of a sequence.
func TestRule4OfScalars(t *testing.T) {
	wrong := append([]int{0xD800, 0xDBFF, 0xDC00, 0xDFFF}, outside...)
	right := []int{0, 0x7F, 0x80, 0xD7FF, 0xE000, 0xFFFF, 0x10000, api.MaxRune}
	for _, l := range mappingLists[1:] {
		for _, size := range []int{1, 2, api.MaxMap} {
			if l.name == "Decomps" {
				size = min(size, 2)
			}
			for at := range size {
				to := slices.Repeat([]int{'a'}, size)
				for _, to[at] = range wrong {
					wantCheck(t, l.name, withSequence(l, to), 4)
				}
				for _, to[at] = range right {
					wantCheck(t, l.name, withSequence(l, to), 0)
				}
			}
		}
	}
}

// withSequence returns tables with one element of a list of mappings. Whatever can be permitted is.
func withSequence(l mappingList, to []int) api.Tables {
	tables := api.Tables{Status: spans{
		span(0x80, 0x10FF, api.Valid), span(0xD7A4, 0xD7FF, api.Valid), span(0xE000, free-1, api.Valid), span(free+1, api.MaxRune, api.Valid),
	}}
	assign(l.of(&tables), free, slices.Clone(to)...)
	if l.name == "Maps" {
		give(&tables.Status, free, free, api.Mapped)
		for i, c := range to {
			// No table can make these valid.
			if c == 0 || c == 0x7F {
				tables.Maps[0].To[i] = 'b'
			}
		}
	}
	return tables
}

// Rule 5: the From of Maps and the code points that are Mapped.
func TestRule5OfFrom(t *testing.T) {
	type change = func(*api.Tables)
	for _, c := range []struct {
		name   string
		want   int
		change change
	}{
		{"both", 0, func(t *api.Tables) { assignMap(t, free, 'x') }},
		{"only Maps", 5, func(t *api.Tables) { assign(&t.Maps, free, 'x') }},
		{"only Status", 5, func(t *api.Tables) { give(&t.Status, free, free, api.Mapped) }},
		{"Disallowed", 5, func(t *api.Tables) { give(&t.Status, free, free, api.Disallowed); assign(&t.Maps, free, 'x') }},
		{"Valid", 5, func(t *api.Tables) { give(&t.Status, free, free, api.Valid); assign(&t.Maps, free, 'x') }},
		{"Ignored", 5, func(t *api.Tables) { give(&t.Status, free, free, api.Ignored); assign(&t.Maps, free, 'x') }},
		{"Deviation", 5, func(t *api.Tables) { give(&t.Status, free, free, api.Deviation); assign(&t.Maps, free, 'x') }},
		{"three of three", 0, mapped(free, free+2, free, free+1, free+2)},
		{"three of three in two spans", 0, func(t *api.Tables) {
			give(&t.Status, free, free, api.Mapped)
			mapped(free+1, free+2, free, free+1, free+2)(t)
		}},
		{"first missing in Maps", 5, mapped(free, free+2, free+1, free+2)},
		{"second missing in Maps", 5, mapped(free, free+2, free, free+2)},
		{"third missing in Maps", 5, mapped(free, free+2, free, free+1)},
		{"first missing in Status", 5, mapped(free+1, free+2, free, free+1, free+2)},
		{"third missing in Status", 5, mapped(free, free+1, free, free+1, free+2)},
		{"the wrong one behind", 5, mapped(free, free+1, free+1, free+2)},
		{"the wrong one before", 5, mapped(free+1, free+2, free, free+1)},
		{"all different", 5, mapped(free, free+1, free+2, free+3)},
		{"very many in Status", 5, mapped(free, api.MaxRune-1, free)},
		{"MaxRows + 1 in Status", 5, mapped(free, free+api.MaxRows, free)},
	} {
		wantRule(t, c.name, c.want, c.change)
	}
}

// mapped returns a function that gives the status Mapped to the code points from first to last, and
// elements of Maps to those of froms.
func mapped(first, last int, froms ...int) func(*api.Tables) {
	return func(t *api.Tables) {
		give(&t.Status, first, last, api.Mapped)
		for _, from := range froms {
			assign(&t.Maps, from, 'x')
		}
	}
}

// Rule 5: the statuses of the elements of To, at each place.
func TestRule5OfTo(t *testing.T) {
	element := free + 1
	for _, c := range []struct {
		name    string
		element int
		status  int // of the element, -1 for none
		want    int
	}{
		{"without a row", element, -1, 5},
		{"Disallowed", element, api.Disallowed, 5},
		{"Valid", element, api.Valid, 0},
		{"Ignored", element, api.Ignored, 5},
		{"Deviation", element, api.Deviation, 0},
		{"itself", free, -1, 5},
		{"a", 'a', -1, 0}, {"z", 'z', -1, 0}, {"0", '0', -1, 0}, {"9", '9', -1, 0}, {"hyphen", '-', -1, 0}, {"full stop", '.', -1, 0},
		{"A", 'A', -1, 5}, {"Z", 'Z', -1, 5}, {"space", ' ', -1, 5}, {"0", 0, -1, 5}, {"31", 31, -1, 5}, {"127", 127, -1, 5},
		{"comma", ',', -1, 5}, {"slash", '/', -1, 5}, {"colon", ':', -1, 5}, {"at", '@', -1, 5}, {"bracket", '[', -1, 5},
		{"accent", '`', -1, 5}, {"brace", '{', -1, 5},
		{"first syllable", 0xAC00, -1, 0}, {"last syllable", 0xD7A3, -1, 0},
		{"leading consonant", 0x1100, -1, 5}, {"vowel", 0x1161, -1, 5}, {"trailing consonant", 0x11C2, -1, 5},
	} {
		for at := range 3 {
			wantRule(t, c.name, c.want, func(tables *api.Tables) {
				to := []int{'p', 'q', 'r'}
				to[at] = c.element
				assignMap(tables, free, to...)
				if c.status >= 0 {
					give(&tables.Status, c.element, c.element, c.status)
				}
			})
		}
	}
	wantRule(t, "an element that is Mapped", 5, func(tables *api.Tables) {
		assignMap(tables, free, element)
		assignMap(tables, element, 'x')
	})
	wantRule(t, "second row", 5, func(tables *api.Tables) {
		assignMap(tables, free, 'x')
		assignMap(tables, element, 'X')
	})
}

// Rule 6: what a decomposition consists of, at each place.
func TestRule6OfElements(t *testing.T) {
	rows := []struct{ element, want int }{
		{'.', 6}, {'-', 0}, {'/', 0}, {'a', 0}, {'A', 0}, {0, 0}, {127, 0}, {free + 1, 0}, {api.MaxRune - 1, 0}, {0xE000, 0},
	}
	for _, r := range reservedRanges[1:5] {
		rows = append(rows, []struct{ element, want int }{
			{r.first - 1, 0}, {r.first, 6}, {r.first + 1, 6}, {r.last - 1, 6}, {r.last, 6}, {r.last + 1, 0},
		}...)
	}
	for _, row := range rows {
		if row.element == 0xD800 {
			continue // behind the syllables there is a gap before the surrogates
		}
		for _, to := range [][]int{{row.element}, {row.element, 'x'}, {'x', row.element}, {row.element, row.element}} {
			wantRule(t, "Decomps", row.want, func(tables *api.Tables) { assign(&tables.Decomps, free, to...) })
		}
	}
	wantRule(t, "three elements", 6, func(tables *api.Tables) { assign(&tables.Decomps, free, 'x', 'y', 'z') })
}

// decompCase is a list of decompositions.
type decompCase struct {
	name string
	want int
	rows mappings
}

// Rule 6: decompositions that lead back into themselves.
func TestRule6OfCycles(t *testing.T) {
	a, b, c, d := free, free+1, free+2, free+3
	for _, test := range []decompCase{
		{"itself", 6, mappings{mapping(a, a)}},
		{"itself first", 6, mappings{mapping(a, a, 'x')}},
		{"itself second", 6, mappings{mapping(a, 'x', a)}},
		{"two", 6, mappings{mapping(a, b), mapping(b, a)}},
		{"two, first", 6, mappings{mapping(a, b, 'x'), mapping(b, a, 'x')}},
		{"two, second", 6, mappings{mapping(a, 'x', b), mapping(b, 'x', a)}},
		{"three", 6, mappings{mapping(a, b), mapping(b, c), mapping(c, a)}},
		{"three, backwards", 6, mappings{mapping(a, c), mapping(b, a), mapping(c, b)}},
		{"three with others", 6, mappings{mapping(a, 'x', b), mapping(b, c, 'x'), mapping(c, 'x', a)}},
		{"leads to a cycle", 6, mappings{mapping(a, b), mapping(b, c), mapping(c, b)}},
		{"leads to a cycle at last", 6, mappings{mapping(a, 'x'), mapping(b, a), mapping(c, c)}},
		{"a chain", 0, mappings{mapping(a, b), mapping(b, c), mapping(c, d)}},
		{"a chain backwards", 0, mappings{mapping(b, a), mapping(c, b), mapping(d, c)}},
		{"two ways to the same", 0, mappings{mapping(a, b, c), mapping(b, d), mapping(c, d)}},
		{"twice the same", 0, mappings{mapping(a, b, b), mapping(b, c, c)}},
	} {
		wantRule(t, test.name, test.want, test.addTo)
	}
	for _, size := range []int{2, 10, api.MaxRows} {
		chain := oneByOne(size)
		wantCheck(t, "a chain", api.Tables{Decomps: chain}, 0)
		chain[size-1].To = []int{free}
		wantCheck(t, "a long cycle", api.Tables{Decomps: chain}, 6)
		chain[size-1].To = []int{free + size - 1}
		wantCheck(t, "a chain that ends in a cycle", api.Tables{Decomps: chain}, 6)
	}
}

func (test decompCase) addTo(tables *api.Tables) {
	for _, m := range test.rows {
		assign(&tables.Decomps, m.From, m.To...)
	}
}

// oneByOne returns decompositions each of which leads to the next one.
func oneByOne(n int) mappings {
	var rows mappings
	for i := range n {
		rows = append(rows, mapping(free+i, free+i+1))
	}
	return rows
}

// Rule 6: full decompositions at and over MaxMap.
func TestRule6OfSizes(t *testing.T) {
	for size := 2; size < 40; size++ {
		want := 0
		if size > api.MaxMap {
			want = 6
		}
		var left, right, down mappings // n code points are added one by one
		for i := range size - 1 {
			left = append(left, mapping(free+i, free+i+1, 'x'))
			right = append(right, mapping(free+i, 'x', free+i+1))
			down = append(down, mapping(free+1+i, free+i, 'x'))
		}
		for _, rows := range []mappings{left, right, down} {
			wantRule(t, "added one by one", want, decompCase{rows: rows}.addTo)
		}
	}
	for levels := 1; levels <= api.MaxRows; levels++ {
		var rows mappings
		for i := range levels {
			rows = append(rows, mapping(free+i, free+i+1, free+i+1))
		}
		want := 0
		if levels > 4 { // 2^4 <= MaxMap < 2^5
			want = 6
		}
		wantCheck(t, "doubled", api.Tables{Decomps: rows}, want)
	}
	// 16 code points, and two or three more.
	rows := mappings{
		mapping(free, free+1, free+5), mapping(free+1, free+2, free+2), mapping(free+2, free+3, free+3),
		mapping(free+3, free+4, free+4), mapping(free+4, 'x', 'y'), mapping(free+5, 'y', 'z'),
	}
	wantRule(t, "18 code points", 0, decompCase{rows: rows}.addTo)
	rows[5].To[1] = free + 6
	rows = append(rows, mapping(free+6, 'z', 'x'))
	wantRule(t, "19 code points", 6, decompCase{rows: rows}.addTo)
	rows = rows[1:]
	wantRule(t, "16 code points", 0, decompCase{rows: rows}.addTo)
}

func TestRule7(t *testing.T) {
	wantRule(t, "no decomposition", 7, func(tables *api.Tables) { exclude(tables, free) })
	wantRule(t, "only in a decomposition", 7, func(tables *api.Tables) {
		assign(&tables.Decomps, free, free+1)
		exclude(tables, free+1)
	})
	wantRule(t, "one of two", 7, func(tables *api.Tables) {
		assign(&tables.Decomps, free, 'x')
		exclude(tables, free)
		exclude(tables, free+1)
	})
	wantRule(t, "the other one of two", 7, func(tables *api.Tables) {
		assign(&tables.Decomps, free+1, 'x')
		exclude(tables, free)
		exclude(tables, free+1)
	})
	wantRule(t, "both", 0, func(tables *api.Tables) {
		assign(&tables.Decomps, free, 'x')
		assign(&tables.Decomps, free+1, 'x', 'y')
		exclude(tables, free)
		exclude(tables, free+1)
	})
	// Prototypes and Maps make no difference.
	wantRule(t, "other lists", 7, func(tables *api.Tables) {
		assign(&tables.Prototypes, free, 'x')
		assignMap(tables, free, 'x')
		exclude(tables, free)
	})
}

// Rule 8: two decompositions with the same To, and each condition for being composable broken alone.
func TestRule8(t *testing.T) {
	// a and b have the same To: f and s. g, l and m are further code points.
	a, b, f, s, g, l, m := free, free+1, free+2, free+3, free+4, free+5, free+6
	class := func(t *api.Tables, c, value int) { give(&t.Class, c, c, value) }
	for _, test := range []struct {
		name   string
		want   int
		change func(*api.Tables)
	}{
		{"both composable", 8, func(t *api.Tables) {}},
		{"From of the first excluded", 0, func(t *api.Tables) { exclude(t, a) }},
		{"From of the second excluded", 0, func(t *api.Tables) { exclude(t, b) }},
		{"another one excluded", 8, func(t *api.Tables) { assign(&t.Decomps, m, 'x'); exclude(t, m) }},
		{"From of the first with a class", 0, func(t *api.Tables) { class(t, a, 1) }},
		{"From of the second with a class", 0, func(t *api.Tables) { class(t, b, 254) }},
		{"first element with a class", 0, func(t *api.Tables) { class(t, f, 1) }},
		{"first element with a class, also the second one", 0, func(t *api.Tables) { class(t, f, 1); class(t, s, 230) }},
		{"second element with a class", 8, func(t *api.Tables) { class(t, s, 1) }},
		{"second element with a singleton", 0, func(t *api.Tables) { assign(&t.Decomps, s, 'x') }},
		{"second element with a composable decomposition", 0, func(t *api.Tables) { assign(&t.Decomps, s, 'x', 'y') }},
		{"second element with an excluded decomposition", 0, func(t *api.Tables) { assign(&t.Decomps, s, 'x', 'y'); exclude(t, s) }},
		{"first element with a composable decomposition", 8, func(t *api.Tables) { assign(&t.Decomps, f, g, l) }},
		{"first element with a singleton", 0, func(t *api.Tables) { assign(&t.Decomps, f, g) }},
		{"first element with an excluded decomposition", 0, func(t *api.Tables) { assign(&t.Decomps, f, g, l); exclude(t, f) }},
		{"first of the first with a class", 0, func(t *api.Tables) { assign(&t.Decomps, f, g, l); class(t, g, 1) }},
		{"first of the first with a singleton", 0, func(t *api.Tables) { assign(&t.Decomps, f, g, l); assign(&t.Decomps, g, m) }},
		{"first of the first with a composable one", 8, func(t *api.Tables) { assign(&t.Decomps, f, g, l); assign(&t.Decomps, g, m, l) }},
		{"first of the first with an excluded one", 0, func(t *api.Tables) {
			assign(&t.Decomps, f, g, l)
			assign(&t.Decomps, g, m, l)
			exclude(t, g)
		}},
		{"second of the first with a decomposition", 0, func(t *api.Tables) { assign(&t.Decomps, f, g, l); assign(&t.Decomps, l, m) }},
		{"equal classes", 8, func(t *api.Tables) { assign(&t.Decomps, f, g, l); class(t, l, 220); class(t, s, 220) }},
		{"greater class", 8, func(t *api.Tables) { assign(&t.Decomps, f, g, l); class(t, l, 220); class(t, s, 221) }},
		{"less class", 0, func(t *api.Tables) { assign(&t.Decomps, f, g, l); class(t, l, 220); class(t, s, 219) }},
		{"class 1 after 2", 0, func(t *api.Tables) { assign(&t.Decomps, f, g, l); class(t, l, 2); class(t, s, 1) }},
		{"class 0 after another", 8, func(t *api.Tables) { assign(&t.Decomps, f, g, l); class(t, l, 220) }},
		{"another class after 0", 8, func(t *api.Tables) { assign(&t.Decomps, f, g, l); class(t, s, 1) }},
		{"classes 2, 3, 4", 8, func(t *api.Tables) {
			assign(&t.Decomps, f, g, l)
			assign(&t.Decomps, g, 'x', m)
			class(t, m, 2)
			class(t, l, 3)
			class(t, s, 4)
		}},
		{"classes 4, 3, 4", 0, func(t *api.Tables) {
			assign(&t.Decomps, f, g, l)
			assign(&t.Decomps, g, 'x', m)
			class(t, m, 4)
			class(t, l, 3)
			class(t, s, 4)
		}},
		{"classes 4, 0, 3", 8, func(t *api.Tables) {
			assign(&t.Decomps, f, g, l)
			assign(&t.Decomps, g, 'x', m)
			class(t, m, 4)
			class(t, s, 3)
		}},
		{"prototypes and statuses make no difference", 8, func(t *api.Tables) {
			give(&t.Ignorable, a, s, 1)
			assignMap(t, a, 'x')
		}},
	} {
		wantRule(t, test.name, test.want, func(tables *api.Tables) {
			assign(&tables.Decomps, a, f, s)
			assign(&tables.Decomps, b, f, s)
			test.change(tables)
		})
		// Further ones are not among those that must differ, if they are excluded.
		wantRule(t, test.name+", with excluded ones", test.want, func(tables *api.Tables) {
			for _, c := range []int{a - 1, a, b, m + 1} {
				assign(&tables.Decomps, c, f, s)
			}
			exclude(tables, a-1)
			exclude(tables, m+1)
			test.change(tables)
		})
	}
}

// Rule 8: decompositions with other To.
func TestRule8OfDifferentTo(t *testing.T) {
	a, b, c, f, s := free, free+1, free+2, free+8, free+9
	for _, test := range []decompCase{
		{"the same", 8, mappings{mapping(a, f, s), mapping(b, f, s)}},
		{"the same, not next to each other", 8, mappings{mapping(a, f, s), mapping(b, s, f), mapping(c, f, s)}},
		{"the same, with ASCII", 8, mappings{mapping(a, 'q', 'w'), mapping(b, 'q', 'w')}},
		{"twice the same element", 8, mappings{mapping(a, f, f), mapping(b, f, f)}},
		{"in the other order", 0, mappings{mapping(a, f, s), mapping(b, s, f)}},
		{"another first", 0, mappings{mapping(a, f, s), mapping(b, 'q', s)}},
		{"another second", 0, mappings{mapping(a, f, s), mapping(b, f, 'q')}},
		{"the same single element", 0, mappings{mapping(a, f), mapping(b, f)}},
		{"one element and two", 0, mappings{mapping(a, f), mapping(b, f, s)}},
		{"the same full decomposition", 0, mappings{mapping(a, f, s), mapping(b, a), mapping(c, b)}},
	} {
		wantRule(t, test.name, test.want, test.addTo)
	}
}

func TestRule9(t *testing.T) {
	element := free + 1
	for _, test := range []struct {
		name    string
		element int
		want    int
		change  func(*api.Tables)
	}{
		{"an ordinary element", element, 0, func(t *api.Tables) {}},
		{"a From of Prototypes", element, 9, func(t *api.Tables) { assign(&t.Prototypes, element, 'x') }},
		{"From itself", free, 9, func(t *api.Tables) {}},
		{"with a singleton", element, 9, func(t *api.Tables) { assign(&t.Decomps, element, 'x') }},
		{"with a decomposition", element, 9, func(t *api.Tables) { assign(&t.Decomps, element, 'x', 'y') }},
		{"with an excluded decomposition", element, 9, func(t *api.Tables) { assign(&t.Decomps, element, 'x', 'y'); exclude(t, element) }},
		{"in a decomposition", element, 0, func(t *api.Tables) { assign(&t.Decomps, free+2, element) }},
		{"ignorable", element, 9, func(t *api.Tables) { give(&t.Ignorable, element, element, 1) }},
		{"ignorable at the end of a span", element, 9, func(t *api.Tables) { give(&t.Ignorable, element, element+9, 1) }},
		{"before an ignorable one", element, 0, func(t *api.Tables) { give(&t.Ignorable, element+1, element+1, 1) }},
		{"Mapped, with a class and of several scripts", element, 0, func(t *api.Tables) {
			assignMap(t, element, 'x')
			give(&t.Class, element, element, 1)
			assign(&t.Extensions, element, 3)
		}},
		{"before the syllables", 0xABFF, 0, func(t *api.Tables) {}},
		{"first syllable", 0xAC00, 9, func(t *api.Tables) {}},
		{"second syllable", 0xAC01, 9, func(t *api.Tables) {}},
		{"last syllable", 0xD7A3, 9, func(t *api.Tables) {}},
		{"after the syllables", 0xD7A4, 0, func(t *api.Tables) {}},
		{"leading consonant", 0x1100, 0, func(t *api.Tables) {}},
		{"vowel", 0x1161, 0, func(t *api.Tables) {}},
		{"trailing consonant", 0x11A8, 0, func(t *api.Tables) {}},
		{"letter", 'x', 0, func(t *api.Tables) {}},
		{"letter that is a From", 'x', 9, func(t *api.Tables) { assign(&t.Prototypes, 'x', 'y') }},
		{"capital letter", 'X', 0, func(t *api.Tables) {}},
		{"full stop", '.', 0, func(t *api.Tables) {}},
		{"0", 0, 0, func(t *api.Tables) {}},
		{"From with a singleton", 'x', 9, func(t *api.Tables) { assign(&t.Decomps, free, 'x') }},
		{"From with a decomposition", 'x', 9, func(t *api.Tables) { assign(&t.Decomps, free, 'x', 'y') }},
		{"From ignorable", 'x', 9, func(t *api.Tables) { give(&t.Ignorable, free, free, 1) }},
		{"From before an ignorable one", 'x', 0, func(t *api.Tables) { give(&t.Ignorable, element, element, 1) }},
	} {
		for at := range 3 {
			wantRule(t, test.name, test.want, func(tables *api.Tables) {
				to := []int{'p', 'q', 'r'}
				to[at] = test.element
				assign(&tables.Prototypes, free, to...)
				test.change(tables)
			})
		}
	}
}

// violations violate one rule each, without a difference to the other ones.
var violations = []func(*api.Tables){
	func(t *api.Tables) {
		for i := range api.MaxRows + 1 {
			give(&t.Joining, free+0x8000+2*i, free+0x8000+2*i, 1)
		}
	},
	func(t *api.Tables) { give(&t.Script, 'A', 'A', api.Latin) },
	func(t *api.Tables) { give(&t.Category, free, free, api.Control+1) },
	func(t *api.Tables) { assign(&t.Extensions, free) },
	func(t *api.Tables) { assign(&t.Maps, free, 'x') },
	func(t *api.Tables) { assign(&t.Decomps, free+1, free+1) },
	func(t *api.Tables) { exclude(t, free+2) },
	func(t *api.Tables) {
		assign(&t.Decomps, free+3, 'x', 'y')
		assign(&t.Decomps, free+4, 'x', 'y')
	},
	func(t *api.Tables) { assign(&t.Prototypes, free+5, free+5) },
}

// Promise 4.1: the number is that of the first rule, for all sets of violated rules.
func TestFirstRule(t *testing.T) {
	for set := range 1 << len(violations) {
		want := 0
		for i := range violations {
			if set>>i&1 == 1 && want == 0 {
				want = i + 1
			}
		}
		wantRule(t, "several violations", want, func(tables *api.Tables) {
			for i, violate := range violations {
				if set>>i&1 == 1 {
					violate(tables)
				}
			}
		})
	}
}

// Rules may be violated by the same row: the first one counts.
func TestFirstRuleOfOneRow(t *testing.T) {
	for _, test := range []struct {
		name   string
		want   int
		change func(*api.Tables)
	}{
		{"a reserved code point with a wrong value", 2, func(t *api.Tables) { give(&t.Category, 5, 5, 99) }},
		{"a reserved From with a wrong To", 2, func(t *api.Tables) { assign(&t.Decomps, 'a', 'a', -1, 0) }},
		{"a reserved From in Maps", 2, func(t *api.Tables) { assign(&t.Maps, 'A', 'a') }},
		{"a From that is no code point, and no To", 2, func(t *api.Tables) { assign(&t.Prototypes, -1) }},
		{"a value that is too great and Mapped", 3, func(t *api.Tables) { give(&t.Status, free, free, 99); assign(&t.Maps, free, 'x') }},
		{"no To and not Mapped", 4, func(t *api.Tables) { assign(&t.Maps, free) }},
		{"a surrogate that is not Valid", 4, func(t *api.Tables) { assignMap(t, free, 0xD800) }},
		{"too many elements in Decomps", 4, func(t *api.Tables) { assign(&t.Decomps, free, make([]int, api.MaxMap+1)...) }},
		{"three times itself", 6, func(t *api.Tables) { assign(&t.Decomps, free, free, free, free); exclude(t, free+1) }},
		{"a prototype of a cycle", 6, func(t *api.Tables) { assign(&t.Decomps, free, free); assign(&t.Prototypes, free, free) }},
	} {
		wantRule(t, test.name, test.want, test.change)
	}
}
