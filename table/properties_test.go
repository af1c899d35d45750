package table_test

import (
	"math"
	"math/rand"
	"reflect"
	"slices"
	"testing"

	"namedesk/api"
	"namedesk/table"
)

// facts are all properties of a code point.
type facts struct {
	category, class, joining, bidi, script, status int
	ignorable, excluded                            bool
	scripts, maps, decomp, prototype               []int
}

// factsOf returns what the functions of the package say about c.
func factsOf(t api.Tables, c int) facts {
	return facts{
		table.Category(t, c), table.Class(t, c), table.Joining(t, c), table.Bidi(t, c), table.Script(t, c), table.Status(t, c),
		table.Ignorable(t, c), table.Excluded(t, c),
		table.Scripts(t, c), table.Maps(t, c), table.Decomp(t, c), table.Prototype(t, c),
	}
}

func (f facts) equal(g facts) bool {
	return f.category == g.category && f.class == g.class && f.joining == g.joining && f.bidi == g.bidi &&
		f.script == g.script && f.status == g.status && f.ignorable == g.ignorable && f.excluded == g.excluded &&
		slices.Equal(f.scripts, g.scripts) && slices.Equal(f.maps, g.maps) &&
		slices.Equal(f.decomp, g.decomp) && slices.Equal(f.prototype, g.prototype)
}

// fixedRows are the fixed properties of the chapter, one range after the other.
var fixedRows = []struct {
	from, to                       int
	category, bidi, script, status int
}{
	{0, 31, api.Control, api.BidiOther, api.Common, api.Disallowed},
	{32, 32, api.Separator, api.BidiOther, api.Common, api.Disallowed},
	{33, 44, api.Punctuation, api.BidiON, api.Common, api.Disallowed},
	{45, 45, api.Punctuation, api.BidiES, api.Common, api.Valid},
	{46, 46, api.Punctuation, api.BidiCS, api.Common, api.Valid},
	{47, 47, api.Punctuation, api.BidiON, api.Common, api.Disallowed},
	{48, 57, api.Digit, api.BidiEN, api.Common, api.Valid},
	{58, 64, api.Punctuation, api.BidiON, api.Common, api.Disallowed},
	{65, 90, api.Letter, api.BidiL, api.Latin, api.Mapped},
	{91, 96, api.Punctuation, api.BidiON, api.Common, api.Disallowed},
	{97, 122, api.Letter, api.BidiL, api.Latin, api.Valid},
	{123, 126, api.Punctuation, api.BidiON, api.Common, api.Disallowed},
	{127, 127, api.Control, api.BidiOther, api.Common, api.Disallowed},
	{0x1100, 0x1112, api.Letter, api.BidiL, api.Hangul, api.Disallowed},
	{0x1161, 0x1175, api.Letter, api.BidiL, api.Hangul, api.Disallowed},
	{0x11A8, 0x11C2, api.Letter, api.BidiL, api.Hangul, api.Disallowed},
	{0xAC00, 0xD7A3, api.Letter, api.BidiL, api.Hangul, api.Valid},
}

// fixedFacts returns the fixed properties of c.
func fixedFacts(c int) facts {
	var f facts
	for _, row := range fixedRows {
		if c >= row.from && c <= row.to {
			f = facts{category: row.category, bidi: row.bidi, script: row.script, status: row.status}
		}
	}
	if c >= 65 && c <= 90 {
		f.maps = []int{c + 32}
	}
	return f
}

// expectedFacts returns what the lists of well-formed tables say about c, looking at each row.
func expectedFacts(t api.Tables, c int) facts {
	f := fixedFacts(c)
	lookUp := func(l spans, value *int) {
		for _, s := range l {
			if s.From <= c && c <= s.To {
				*value = s.Value
			}
		}
	}
	lookUp(t.Category, &f.category)
	lookUp(t.Class, &f.class)
	lookUp(t.Joining, &f.joining)
	lookUp(t.Bidi, &f.bidi)
	lookUp(t.Script, &f.script)
	lookUp(t.Status, &f.status)
	ignorable := 0
	lookUp(t.Ignorable, &ignorable)
	f.ignorable = ignorable == 1
	f.excluded = slices.Contains(t.Excluded, c)
	lookUpSequence := func(l mappings, to *[]int) {
		for _, m := range l {
			if m.From == c {
				*to = m.To
			}
		}
	}
	lookUpSequence(t.Extensions, &f.scripts)
	lookUpSequence(t.Maps, &f.maps)
	lookUpSequence(t.Decomps, &f.decomp)
	lookUpSequence(t.Prototypes, &f.prototype)
	return f
}

func wantFacts(t *testing.T, tables api.Tables, c int, want facts) {
	t.Helper()
	if f := factsOf(tables, c); !f.equal(want) {
		t.Fatalf("%#x has the properties %v, want %v", c, f, want)
	}
}

// Promise 4.2: fixed properties, and no others without rows.
func TestFixedProperties(t *testing.T) {
	for c := range api.MaxRune + 1 {
		wantFacts(t, api.Tables{}, c, fixedFacts(c))
	}
}

// Promise 4.2: each code point in tables with rows.
func TestPropertiesOfEachCodePoint(t *testing.T) {
	tables := sample()
	for c := range api.MaxRune + 1 {
		wantFacts(t, tables, c, expectedFacts(tables, c))
	}
}

// Promise 4.2, written out by hand.
func TestProperties(t *testing.T) {
	tables := sample()
	for _, want := range []struct {
		c int
		f facts
	}{
		{0x80, facts{category: api.Control, class: 1, bidi: api.BidiBN}},
		{0xAD, facts{status: api.Ignored, ignorable: true}},
		{0xB7, facts{category: api.Punctuation, script: api.Common, status: api.Valid, scripts: []int{api.Latin, api.Greek}}},
		{0xC1, facts{category: api.Letter, script: api.Latin, status: api.Mapped, maps: []int{'a', 0xB7, 0xDF}}},
		{0xDF, facts{category: api.Letter, script: api.Latin, status: api.Deviation}},
		{0xE0, facts{category: api.Letter, script: api.Latin, status: api.Valid, decomp: []int{'a', 0x300}}},
		{0x300, facts{category: api.Mark, class: 230, bidi: api.BidiNSM, script: api.Inherited}},
		{0x315, facts{category: api.Mark, bidi: api.BidiNSM, script: api.Inherited}},
		{0x430, facts{script: api.Cyrillic, prototype: []int{'a'}}},
		{0x628, facts{joining: api.DualJoining, bidi: api.BidiAL, script: api.Arabic}},
		{0x65F, facts{joining: api.Transparent}},
		{0x94D, facts{category: api.Mark, class: api.Virama}},
		{0x958, facts{excluded: true, decomp: []int{0x915, 0x93C}}},
		{0x1112, facts{category: api.Letter, script: api.Hangul}},
		{0x1113, facts{prototype: []int{0x1112, 0xDF}}},
		{0x200F, facts{category: api.Symbol, ignorable: true}},
		{0x2010, facts{category: api.Symbol}},
		{'m', facts{category: api.Letter, script: api.Latin, status: api.Valid, prototype: []int{'r', 'n'}}},
		{'M', facts{category: api.Letter, script: api.Latin, status: api.Mapped, maps: []int{'m'}}},
		{'0', facts{category: api.Digit, bidi: api.BidiEN, script: api.Common, status: api.Valid, prototype: []int{'o'}}},
		{'-', facts{category: api.Punctuation, bidi: api.BidiES, script: api.Common, status: api.Valid, prototype: []int{0x2010}}},
		{api.MaxRune, facts{category: api.Control, class: 254, scripts: []int{api.MaxScript}}},
	} {
		wantFacts(t, tables, want.c, want.f)
	}
}

// Promise 4.2: what is not a scalar value has no properties.
func TestPropertiesOfOtherNumbers(t *testing.T) {
	numbers := []int{math.MinInt32, -0xE0, -2, 0x110000 + 'a', 1<<32 + 'a', 1<<32 + 0xE0, -1<<32 + 'a', math.MaxInt32}
	for c := 0xD800; c <= 0xDFFF; c++ {
		numbers = append(numbers, c)
	}
	for _, base := range bases {
		for _, c := range append(numbers, outside...) {
			wantFacts(t, base.build(), c, facts{})
		}
	}
}

// Each number of rows gives a binary search other places to look at.
func TestSearchInEachLength(t *testing.T) {
	for n := range api.MaxRows + 1 {
		var tables api.Tables
		for i := range n {
			from := free + 4*i
			tables.Class = append(tables.Class, span(from, from+2, 1+i%254))
			tables.Ignorable = append(tables.Ignorable, span(from+1, from+1, 1))
			tables.Decomps = append(tables.Decomps, mapping(from, from+1))
			tables.Excluded = append(tables.Excluded, from)
			tables.Prototypes = append(tables.Prototypes, mapping(from+2, from+3))
			tables.Extensions = append(tables.Extensions, mapping(from+3, 3+i%58))
		}
		if n%16 == 0 {
			wantCheck(t, "rows", tables, 0)
		}
		for c := free - 1; c <= free+4*n; c++ {
			wantFacts(t, tables, c, expectedFacts(tables, c))
		}
	}
}

// Consequence: values are within the limits of rule 3.
func TestValuesAreWithinLimits(t *testing.T) {
	tables := sample()
	for c := -1; c <= api.MaxRune+1; c++ {
		f := factsOf(tables, c)
		for i, value := range []int{f.category, f.class, f.joining, f.bidi, f.script, f.status} {
			if value < 0 || value > spanLists[i].most {
				t.Fatalf("%#x: %s = %d", c, spanLists[i].name, value)
			}
		}
	}
}

// The example of the chapter.
func TestExampleOfTheChapter(t *testing.T) {
	var none api.Tables
	if rule := table.Check(none); rule != 0 {
		t.Errorf("Check = %d", rule)
	}
	if status := table.Status(none, 97); status != api.Valid {
		t.Errorf("Status of 97 is %d", status)
	}
	if maps := table.Maps(none, 65); !slices.Equal(maps, []int{97}) {
		t.Errorf("Maps of 65 is %v", maps)
	}
	if script := table.Script(none, 0xAC00); script != api.Hangul {
		t.Errorf("Script of 0xAC00 is %d", script)
	}
	if category := table.Category(none, 0xE9); category != api.Unassigned {
		t.Errorf("Category of 0xE9 is %d", category)
	}
}

// Rule R1: tables that are not well-formed, however strange, do no harm.
func TestStrangeTables(t *testing.T) {
	random := rand.New(rand.NewSource(4))
	numbers := append([]int{0, 1, 'a', 'm', 'A', 0xE0, 0x300, 0xAC00, 0xD800, 0xFFFF, api.MaxRune, free}, outside...)
	pick := func() int { return numbers[random.Intn(len(numbers))] }
	sequence := func(most int) []int {
		var l []int
		for range random.Intn(most + 1) {
			l = append(l, pick())
		}
		return l
	}
	for range 3000 {
		tables := api.Tables{Excluded: sequence(5)}
		for _, l := range spanLists {
			for range random.Intn(4) {
				*l.of(&tables) = append(*l.of(&tables), span(pick(), pick(), pick()))
			}
		}
		for _, l := range mappingLists {
			for range random.Intn(4) {
				*l.of(&tables) = append(*l.of(&tables), mapping(pick(), sequence(3)...))
			}
		}
		useAll(t, tables, numbers)
	}
	useAll(t, api.Tables{Category: make(spans, 1<<16), Maps: make(mappings, 1<<16), Decomps: mappings{mapping(0, make([]int, 1<<16)...)}}, numbers)
	useAll(t, api.Tables{Excluded: make([]int, 1<<16)}, numbers)
}

// useAll calls every function of the package.
func useAll(t *testing.T, tables api.Tables, numbers []int) {
	t.Helper()
	for _, c := range numbers {
		factsOf(tables, c)
	}
	if rule := table.Check(tables); rule == 0 {
		return
	}
	if s, e := table.Encode(tables); s != "" || e != api.ErrTable {
		t.Fatalf("Encode of tables that are not well-formed = %q, %d", s, e)
	}
}

// Rule R2: arguments are left as they are, with their unused capacity, and no result shares memory.
func TestArgumentsAreNotModified(t *testing.T) {
	tables := sample()
	for _, l := range spanLists {
		*l.of(&tables) = append(slices.Grow(*l.of(&tables), 8), span(-7, -8, -9))[:len(*l.of(&tables))]
	}
	for _, l := range mappingLists {
		rows := append(slices.Grow(*l.of(&tables), 8), mapping(-7, -8))[:len(*l.of(&tables))]
		for i := range rows {
			rows[i].To = append(slices.Grow(rows[i].To, 8), -7)[:len(rows[i].To)]
		}
		*l.of(&tables) = rows
	}
	tables.Excluded = append(slices.Grow(tables.Excluded, 8), -7)[:len(tables.Excluded)]
	before := withCapacity(tables)
	table.Check(tables)
	if _, e := table.Encode(tables); e != api.OK {
		t.Fatalf("Encode: %d", e)
	}
	for c := range 0x2200 {
		f := factsOf(tables, c)
		for _, l := range [][]int{f.scripts, f.maps, f.decomp, f.prototype} {
			l = l[:cap(l)]
			for i := range l {
				l[i] = -1
			}
		}
	}
	if !reflect.DeepEqual(withCapacity(tables), before) {
		t.Error("the tables have changed")
	}
}

// withCapacity returns a copy of tables in which the unused capacity has become elements.
func withCapacity(t api.Tables) api.Tables {
	for _, l := range spanLists {
		rows := *l.of(&t)
		*l.of(&t) = slices.Clone(rows[:cap(rows)])
	}
	for _, l := range mappingLists {
		rows := *l.of(&t)
		rows = slices.Clone(rows[:cap(rows)])
		for i, m := range rows {
			rows[i].To = slices.Clone(m.To[:cap(m.To)])
		}
		*l.of(&t) = rows
	}
	t.Excluded = slices.Clone(t.Excluded[:cap(t.Excluded)])
	return t
}

// Rule R2: two calls return different memory.
func TestResultsAreNew(t *testing.T) {
	tables := sample()
	for _, c := range []struct {
		name string
		of   func() []int
	}{
		{"Scripts", func() []int { return table.Scripts(tables, 0xB7) }},
		{"Maps", func() []int { return table.Maps(tables, 0xC1) }},
		{"Maps of A", func() []int { return table.Maps(tables, 'A') }},
		{"Decomp", func() []int { return table.Decomp(tables, 0xE0) }},
		{"Prototype", func() []int { return table.Prototype(tables, 'm') }},
	} {
		first, second := c.of(), c.of()
		want := slices.Clone(second)
		first[0] = -1
		if third := c.of(); !slices.Equal(second, want) || !slices.Equal(third, want) {
			t.Errorf("%s: a change of one result changed another: %v, %v", c.name, second, third)
		}
	}
}
