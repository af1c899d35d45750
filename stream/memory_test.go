package stream_test

import (
	"reflect"
	"slices"
	"testing"

	"namedesk/api"
	"namedesk/stream"
)

// spare returns a copy of l with unused capacity that is filled.
func spare[T any](l []T, filling T) []T {
	return append(append(make([]T, 0, len(l)+3), l...), filling, filling, filling)[:len(l)]
}

// whole returns l with its unused capacity.
func whole[T any](l []T) []T { return l[:cap(l)] }

// spanLists returns the lists of spans of tables.
func spanLists(t *api.Tables) []*spans {
	return []*spans{&t.Category, &t.Class, &t.Joining, &t.Bidi, &t.Script, &t.Status, &t.Ignorable}
}

// mappingLists returns the lists of mappings of tables.
func mappingLists(t *api.Tables) []*mappings {
	return []*mappings{&t.Extensions, &t.Maps, &t.Decomps, &t.Prototypes}
}

// spareTables returns tables all of whose lists have unused capacity.
func spareTables() api.Tables {
	t := sample()
	for _, l := range spanLists(&t) {
		*l = spare(*l, api.Span{From: -7, To: -8, Value: -9})
	}
	for _, l := range mappingLists(&t) {
		*l = spare(*l, mapping(-7, -8, -9))
		for i := range *l {
			(*l)[i].To = spare((*l)[i].To, -7)
		}
	}
	t.Excluded = spare(t.Excluded, -7)
	return t
}

// wholeTables returns tables where the unused capacity is a part of each list.
func wholeTables(t api.Tables) api.Tables {
	for _, l := range spanLists(&t) {
		*l = whole(*l)
	}
	for _, l := range mappingLists(&t) {
		*l = slices.Clone(whole(*l))
		for i := range *l {
			(*l)[i].To = whole((*l)[i].To)
		}
	}
	t.Excluded = whole(t.Excluded)
	return t
}

// spoilTables changes every number of tables, and of their unused capacity.
func spoilTables(t api.Tables) {
	t = wholeTables(t)
	for _, l := range spanLists(&t) {
		for i := range *l {
			(*l)[i] = api.Span{From: 'a', To: 'z', Value: 1}
		}
	}
	for _, l := range mappingLists(&t) {
		for _, m := range *l {
			overwrite(m.To)
		}
	}
	overwrite(t.Excluded)
}

// overwrite changes each element of l, and its unused capacity.
func overwrite(l []int) {
	for i := range whole(l) {
		whole(l)[i] = -7
	}
}

// wantTablesStay compares tables with what they were before the calls.
func wantTablesStay(t *testing.T, name string, tables api.Tables) {
	t.Helper()
	if !reflect.DeepEqual(wholeTables(tables), wholeTables(spareTables())) {
		t.Errorf("%s: the tables have become %v", name, wholeTables(tables))
	}
}

// visited are code points whose results read all of the tables that normalization reads.
var visited = []int{'e', acute230, below220, 'c', 'b', secondFirst, 0x958, 0x2126, 0x212B, 'g', 'h', markOnLetters, markFirst, 0x1100, 0x1161, 0x11A8, 0xAC01, 0xD800, 'x'}

func TestTablesStay(t *testing.T) {
	tables := spareTables()
	for _, c := range visited {
		stream.Boundary(tables, c)
	}
	wantTablesStay(t, "Boundary", tables)
	stream.New(tables, 0)
	s := newStream(t, tables, 3)
	wantTablesStay(t, "New", tables)
	for _, c := range visited {
		s.Push(c)
	}
	s.End()
	wantTablesStay(t, "Push and End", tables)
}

// resultsOf pushes l into a stream, ends it, and returns all results, one for each call.
func resultsOf(s *stream.Stream, l []int) [][]int {
	var results [][]int
	for _, c := range l {
		result, e := s.Push(c)
		results = append(results, slices.Clone(result), []int{int(e), s.Held()})
	}
	return append(results, slices.Clone(s.End()))
}

// A stream does not notice that the caller changes the tables, whether it holds something or not.
func TestChangedTables(t *testing.T) {
	want := resultsOf(newStream(t, sample(), 3), visited)
	tables := spareTables()
	s := newStream(t, tables, 3)
	spoilTables(tables)
	for range 2 {
		if got := resultsOf(s, visited); !reflect.DeepEqual(got, want) {
			t.Errorf("with changed tables: %#x, want %#x", got, want)
		}
	}
	for at := range visited {
		tables, got := spareTables(), [][]int(nil)
		s := newStream(t, tables, 3)
		for i, c := range visited {
			if i == at {
				spoilTables(tables)
			}
			result, e := s.Push(c)
			got = append(got, slices.Clone(result), []int{int(e), s.Held()})
		}
		if got = append(got, slices.Clone(s.End())); !reflect.DeepEqual(got, want) {
			t.Errorf("with tables changed before code point %d: %#x, want %#x", at, got, want)
		}
	}
}

// Each list alone: the caller makes other well-formed tables of those that were given.
func TestChangedListOfTables(t *testing.T) {
	const from, first, second = 0xF0010, 0xF0000, 0xE0000
	given := func() api.Tables {
		return api.Tables{
			Class:    spans{{From: second, To: second, Value: 10}},
			Decomps:  mappings{mapping(from, first, second), mapping(from+1, first, second)},
			Excluded: []int{from + 1},
		}
	}
	for _, row := range []struct {
		name   string
		change func(tables api.Tables)
	}{
		{"class", func(tables api.Tables) { tables.Class[0] = api.Span{From: first, To: first, Value: 10} }},
		{"the number of a decomposition", func(tables api.Tables) { tables.Decomps[0].From = from - 1 }},
		{"an element of a decomposition", func(tables api.Tables) { tables.Decomps[0].To[0] = 'a' }},
		{"another element of a decomposition", func(tables api.Tables) { tables.Decomps[0].To[1] = 'a' }},
		{"a decomposition", func(tables api.Tables) { tables.Decomps[0].To = []int{'a'} }},
		{"excluded", func(tables api.Tables) { tables.Excluded[0] = from }},
	} {
		tables := given()
		s := newStream(t, tables, 2)
		row.change(tables)
		wantPushes(t, row.name, s, first, second)
		wantRefused(t, row.name, s, second, api.ErrFull)
		wantPush(t, row.name, s, from+1, []int{from}, 1)
		wantPush(t, row.name, s, from, []int{from}, 1)
		wantEnd(t, row.name, s, from)
	}
}

// What the caller does with a result changes neither the stream nor another result.
func TestResultsAreNewMemory(t *testing.T) {
	tables := sample()
	s, other := newStream(t, tables, 4), newStream(t, tables, 4)
	var results, copies [][]int
	for range 3 {
		for _, c := range visited {
			result, _ := s.Push(c)
			want, _ := other.Push(c)
			results, copies = append(results, result), append(copies, slices.Clone(want))
		}
		results, copies = append(results, s.End()), append(copies, slices.Clone(other.End()))
	}
	for i, result := range results {
		if !slices.Equal(result, copies[i]) {
			t.Errorf("after later calls, result %d is %#x, want %#x", i, result, copies[i])
		}
		overwrite(result)
	}
	if got, want := resultsOf(s, visited), resultsOf(other, visited); !reflect.DeepEqual(got, want) {
		t.Errorf("after a change of all results: %#x, want %#x", got, want)
	}
}

// Results are changed while the stream holds something.
func TestChangedResults(t *testing.T) {
	s := newStream(t, sample(), 4)
	want := resultsOf(newStream(t, sample(), 4), visited)
	for range 2 {
		var got [][]int
		for _, c := range visited {
			result, e := s.Push(c)
			got = append(got, slices.Clone(result), []int{int(e), s.Held()})
			overwrite(result)
		}
		last := s.End()
		got = append(got, slices.Clone(last))
		overwrite(last)
		if !reflect.DeepEqual(got, want) {
			t.Errorf("with changed results: %#x, want %#x", got, want)
		}
	}
}

// A result that is its own NFC is no part of what the stream holds either.
func TestResultsOfWhatIsNormal(t *testing.T) {
	s := newStream(t, api.Tables{}, 4)
	wantPushes(t, "jamo", s, 0x1161, 0x1161, 0x1161)
	first, _ := s.Push('a')
	wantPushes(t, "jamo", s, 0x11A8)
	overwrite(first)
	second := s.End()
	if !slices.Equal(second, []int{'a', 0x11A8}) {
		t.Errorf("End = %#x", second)
	}
	wantPushes(t, "jamo", s, 0x1162, 0x1163)
	if !slices.Equal(second, []int{'a', 0x11A8}) {
		t.Errorf("after further pushes, the result of End is %#x", second)
	}
	overwrite(second)
	wantEnd(t, "jamo", s, 0x1162, 0x1163)
}
