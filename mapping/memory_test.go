package mapping_test

import (
	"reflect"
	"slices"
	"testing"

	"namedesk/api"
	"namedesk/mapping"
)

// spare returns a copy of l with unused capacity that is filled.
func spare[T any](l []T, filling T) []T {
	return append(append(make([]T, 0, len(l)+3), l...), filling, filling, filling)[:len(l)]
}

// whole returns l with its unused capacity.
func whole[T any](l []T) []T { return l[:cap(l)] }

// spareTables returns the sample, where each list has unused capacity.
func spareTables() api.Tables {
	t := sample()
	for _, l := range []*spans{&t.Category, &t.Class, &t.Joining, &t.Bidi, &t.Script, &t.Status, &t.Ignorable} {
		*l = spare(*l, span(-7, -8, -9))
	}
	for _, l := range []*mappings{&t.Extensions, &t.Maps, &t.Decomps, &t.Prototypes} {
		for i := range *l {
			(*l)[i].To = spare((*l)[i].To, -7)
		}
		*l = spare(*l, row(-7, -8, -9))
	}
	t.Excluded = spare([]int{valid}, -7)
	return t
}

// wholeTables returns tables where the unused capacity is a part of each list.
func wholeTables(t api.Tables) api.Tables {
	for _, l := range []*spans{&t.Category, &t.Class, &t.Joining, &t.Bidi, &t.Script, &t.Status, &t.Ignorable} {
		*l = whole(*l)
	}
	for _, l := range []*mappings{&t.Extensions, &t.Maps, &t.Decomps, &t.Prototypes} {
		*l = slices.Clone(whole(*l))
		for i := range *l {
			(*l)[i].To = whole((*l)[i].To)
		}
	}
	t.Excluded = whole(t.Excluded)
	return t
}

// wantStay compares tables and a list with what they were before the calls.
func wantStay(t *testing.T, name string, tables api.Tables, l, list []int) {
	t.Helper()
	if !slices.Equal(whole(l), whole(spare(list, -7))) {
		t.Errorf("%s: %s has become %s", name, shown(list), shown(whole(l)))
	}
	if !reflect.DeepEqual(wholeTables(tables), wholeTables(spareTables())) {
		t.Errorf("%s: the tables have become %v", name, wholeTables(tables))
	}
}

// memoryLists contain lists that stay, lists in which something is mapped or ignored, and lists with errors.
var memoryLists = [][]int{
	nil, {}, {'a'}, {'A'}, {deviation}, {ignored}, {toOne}, {toTwo}, {toEighteen}, {toEighteen, toEighteen}, {ignored, ignored, 'b'},
	{'a', 'b', deviation, above230, below220}, {'A', toThree, ignored, deviation, toUnordered, joiner, below220}, {deviation, 'A', refused},
	{deviation, toTwo, 0xD800}, {refused}, repeat(deviation, most), repeat(toTwo, most/2), repeat(toTwo, most), repeat('A', most+1),
}

// Rule R2: tables and lists stay as they are, with their unused capacity.
func TestArgumentsStay(t *testing.T) {
	for _, list := range memoryLists {
		tables, l := spareTables(), spare(list, -7)
		mapping.Map(tables, l)
		wantStay(t, "Map", tables, l, list)
		mapping.Stable(tables, l)
		wantStay(t, "Stable", tables, l, list)
		mapping.Deviations(tables, l)
		wantStay(t, "Deviations", tables, l, list)
	}
}

// overwrite changes each element of l, and its unused capacity.
func overwrite(l []int) {
	for i := range whole(l) {
		whole(l)[i] = -7
	}
}

// Rule R2: results share no memory with the tables, the list, or each other.
func TestResultsAreNewMemory(t *testing.T) {
	for _, f := range []struct {
		name string
		call func(api.Tables, []int) []int
	}{
		{"Map", func(t api.Tables, l []int) []int {
			mapped, _, _ := mapping.Map(t, l)
			return mapped
		}},
		{"Deviations", mapping.Deviations},
	} {
		for _, list := range memoryLists {
			tables, l := spareTables(), spare(list, -7)
			first, second := f.call(tables, l), f.call(tables, l)
			want := slices.Clone(second)
			overwrite(first)
			wantStay(t, "after a change of a result of "+f.name, tables, l, list)
			if !slices.Equal(second, want) {
				t.Errorf("after a change of one result of %s, the other one is %s, want %s", f.name, shown(second), shown(want))
			}
			overwrite(l)
			if !slices.Equal(second, want) {
				t.Errorf("after a change of the list, the result of %s is %s, want %s", f.name, shown(second), shown(want))
			}
			if third := f.call(tables, list); !slices.Equal(third, want) {
				t.Errorf("after all changes, the result of %s is %s, want %s", f.name, shown(third), shown(want))
			}
		}
	}
}

// Rule R2: tables are not kept from one call to the next.
func TestTablesAreNotRetained(t *testing.T) {
	tables := api.Tables{
		Status: spans{span(toOne, toOne, api.Mapped), span(deviation, deviation, api.Deviation)},
		Maps:   mappings{row(toOne, 'x', 'y')},
	}
	l := []int{toOne, deviation}
	mapped, _, _ := mapping.Map(tables, l)
	deviations := mapping.Deviations(tables, l)
	tables.Maps[0].To[0] = 'z'
	tables.Status[1].Value = api.Ignored
	if !slices.Equal(mapped, []int{'x', 'y', deviation}) || !slices.Equal(deviations, []int{1}) {
		t.Errorf("after a change of the tables, the results are %s and %s", shown(mapped), shown(deviations))
	}
	wantMap(t, "changed tables", tables, l, []int{'z', 'y'})
	wantDeviations(t, "changed tables", tables, l)
}
