package order_test

import (
	"reflect"
	"slices"
	"testing"

	"namedesk/api"
	"namedesk/order"
)

// spare returns a copy of l with unused capacity that is filled.
func spare[T any](l []T, filling T) []T {
	return append(append(make([]T, 0, len(l)+3), l...), filling, filling, filling)[:len(l)]
}

// whole returns l with its unused capacity.
func whole[T any](l []T) []T { return l[:cap(l)] }

// spareTables returns the sample, where each list has unused capacity.
func spareTables() api.Tables {
	t := sample()
	for _, l := range []*spans{&t.Category, &t.Class, &t.Joining, &t.Bidi, &t.Script, &t.Status, &t.Ignorable} {
		*l = spare(*l, api.Span{From: -7, To: -8, Value: -9})
	}
	for _, l := range []*mappings{&t.Extensions, &t.Maps, &t.Decomps, &t.Prototypes} {
		for i := range *l {
			(*l)[i].To = spare((*l)[i].To, -7)
		}
		*l = spare(*l, api.Mapping{From: -7, To: []int{-8, -9}})
	}
	t.Excluded = spare(t.Excluded, -7)
	return t
}

// wholeTables returns tables where the unused capacity is a part of each list.
func wholeTables(t api.Tables) api.Tables {
	for _, l := range []*spans{&t.Category, &t.Class, &t.Joining, &t.Bidi, &t.Script, &t.Status, &t.Ignorable} {
		*l = whole(*l)
	}
	for _, l := range []*mappings{&t.Extensions, &t.Maps, &t.Decomps, &t.Prototypes} {
		*l = slices.Clone(whole(*l))
		for i := range *l {
			(*l)[i].To = whole((*l)[i].To)
		}
	}
	t.Excluded = whole(t.Excluded)
	return t
}

var memoryLists = [][]int{
	nil, {}, {'a'}, {above230}, {'a', 'b'}, {below220, above230}, {above230, below220}, {'a', above230, below220, 'b', iota240, first1},
	{above230, below220, 0xD800}, slices.Repeat([]int{above230, below220}, api.MaxRunes/2+1),
}

func TestArgumentsStay(t *testing.T) {
	for _, list := range memoryLists {
		tables, l := spareTables(), spare(list, -7)
		order.Order(tables, l)
		order.Sorted(tables, l)
		order.Runs(tables, l)
		if !slices.Equal(whole(l), whole(spare(list, -7))) {
			t.Errorf("%#x has become %#x", list, whole(l))
		}
		if !reflect.DeepEqual(wholeTables(tables), wholeTables(spareTables())) {
			t.Errorf("%#x: the tables have become %v", list, wholeTables(tables))
		}
	}
}

// overwrite changes each element of l, and its unused capacity.
func overwrite(l []int) {
	for i := range whole(l) {
		whole(l)[i] = -7
	}
}

func TestResultsAreNewMemory(t *testing.T) {
	tables := sample()
	for _, f := range []struct {
		name string
		call func(api.Tables, []int) ([]int, api.Errno)
	}{{"Order", order.Order}, {"Runs", order.Runs}} {
		for _, list := range memoryLists {
			l := spare(list, -7)
			first, _ := f.call(tables, l)
			second, _ := f.call(tables, l)
			want := slices.Clone(second)
			overwrite(first)
			if !slices.Equal(whole(l), whole(spare(list, -7))) {
				t.Errorf("after a change of the result of %s, %#x is %#x", f.name, list, whole(l))
			}
			if !slices.Equal(second, want) {
				t.Errorf("after a change of one result of %s, the other one is %#x, want %#x", f.name, second, want)
			}
			overwrite(l)
			if !slices.Equal(second, want) {
				t.Errorf("after a change of the list, the result of %s is %#x, want %#x", f.name, second, want)
			}
			third, _ := f.call(tables, list)
			if !slices.Equal(third, want) {
				t.Errorf("after all changes, the result of %s is %#x, want %#x", f.name, third, want)
			}
		}
	}
}

func TestTablesAreNotRetained(t *testing.T) {
	l := []int{'a', above230, below220}
	tables := sample()
	ordered, _ := order.Order(tables, l)
	runs, _ := order.Runs(tables, l)
	for i := range tables.Class {
		tables.Class[i].Value = 5
	}
	if !slices.Equal(ordered, []int{'a', below220, above230}) || !slices.Equal(runs, []int{1, 3}) {
		t.Errorf("after a change of the tables, the results are %#x and %d", ordered, runs)
	}
	wantOrder(t, "changed tables", tables, l, l, []int{1, 3})
}
