package joiner_test

import (
	"reflect"
	"slices"
	"testing"

	"namedesk/api"
	"namedesk/joiner"
)

// spare returns a copy of l with unused capacity that is filled.
func spare[T any](l []T, filling T) []T {
	return append(append(make([]T, 0, len(l)+3), l...), filling, filling, filling)[:len(l)]
}

// whole returns l with its unused capacity.
func whole[T any](l []T) []T { return l[:cap(l)] }

// spareTables returns the sample, where each list has unused capacity.
func spareTables() api.Tables {
	t := sample()
	for _, l := range []*spans{&t.Category, &t.Class, &t.Joining, &t.Bidi, &t.Script, &t.Status, &t.Ignorable} {
		*l = spare(*l, span(-7, -8, -9))
	}
	for _, l := range []*mappings{&t.Extensions, &t.Maps, &t.Decomps, &t.Prototypes} {
		for i := range *l {
			(*l)[i].To = spare((*l)[i].To, -7)
		}
		*l = spare(*l, row(-7, -8, -9))
	}
	t.Excluded = spare(t.Excluded, -7)
	return t
}

// wholeTables returns tables where the unused capacity is a part of each list.
func wholeTables(t api.Tables) api.Tables {
	for _, l := range []*spans{&t.Category, &t.Class, &t.Joining, &t.Bidi, &t.Script, &t.Status, &t.Ignorable} {
		*l = whole(*l)
	}
	for _, l := range []*mappings{&t.Extensions, &t.Maps, &t.Decomps, &t.Prototypes} {
		*l = slices.Clone(whole(*l))
		for i := range *l {
			(*l)[i].To = whole((*l)[i].To)
		}
	}
	t.Excluded = whole(t.Excluded)
	return t
}

// wantStay compares tables and a list with what they were before the calls.
func wantStay(t *testing.T, name string, tables api.Tables, l, list []int) {
	t.Helper()
	if !slices.Equal(whole(l), whole(spare(list, -7))) {
		t.Errorf("%s: %s has become %s", name, shown(list), shown(whole(l)))
	}
	if !reflect.DeepEqual(wholeTables(tables), wholeTables(spareTables())) {
		t.Errorf("%s: the tables have become %v", name, wholeTables(tables))
	}
}

// Rule R2: tables and lists stay as they are, with their unused capacity.
func TestArgumentsStay(t *testing.T) {
	for _, list := range [][]int{
		nil, {}, {plain}, {zwj}, {zwnj}, {dual, zwnj, right}, {dual, transparent, transparent7, zwnj, transparent, right}, {virama, zwj, virama, zwj},
		{'e', 0x302, rightMark, transparent7, virama, zwj}, {plain, zwj, 0x302, transparent7}, {dual, zwnj, 0xD800},
		repeat(dual, most), repeat(zwj, most), repeat(transparent, most+1),
	} {
		tables, l := spareTables(), spare(list, -7)
		for _, i := range []int{-1, 0, 1, len(l) / 2, len(l) - 1, len(l), len(l) + 1} {
			joiner.Left(tables, l, i)
			wantStay(t, "Left", tables, l, list)
			joiner.Right(tables, l, i)
			wantStay(t, "Right", tables, l, list)
			joiner.Permitted(tables, l, i)
			wantStay(t, "Permitted", tables, l, list)
		}
		joiner.Check(tables, l)
		wantStay(t, "Check", tables, l, list)
	}
}

// Rules R2 and R3: neither tables nor lists are kept from one call to the next.
func TestArgumentsAreNotRetained(t *testing.T) {
	tables, l := sample(), []int{dual, transparent, zwnj, right, virama, zwj}
	wantNeighbours(t, "before", tables, l, 2, 0, 3)
	wantExactly(t, "before", tables, l)
	l[1], l[4] = plain, plain
	wantNeighbours(t, "another list in the same memory", tables, l, 2, 1, 3)
	wantExactly(t, "another list in the same memory", tables, l, 2, 5)
	l[1], l[4] = transparent, virama
	for i := range tables.Joining {
		tables.Joining[i].Value = api.Transparent
	}
	for i := range tables.Class {
		tables.Class[i].Value = 220
	}
	wantNeighbours(t, "other tables in the same memory", tables, l, 2, -1, -1)
	wantExactly(t, "other tables in the same memory", tables, l, 2, 5)
}
