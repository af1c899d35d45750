package context_test

import (
	"reflect"
	"slices"
	"testing"

	"namedesk/api"
	"namedesk/context"
)

// spare returns a copy of l with unused capacity that is filled.
func spare[T any](l []T, filling T) []T {
	return append(append(make([]T, 0, len(l)+3), l...), filling, filling, filling)[:len(l)]
}

// whole returns l with its unused capacity.
func whole[T any](l []T) []T { return l[:cap(l)] }

// spareTables returns the sample, where each list has unused capacity.
func spareTables() api.Tables {
	t := sample()
	for _, l := range []*spans{&t.Category, &t.Class, &t.Joining, &t.Bidi, &t.Script, &t.Status, &t.Ignorable} {
		*l = spare(*l, span(-7, -8, -9))
	}
	for _, l := range []*mappings{&t.Extensions, &t.Maps, &t.Decomps, &t.Prototypes} {
		for i := range *l {
			(*l)[i].To = spare((*l)[i].To, -7)
		}
		*l = spare(*l, row(-7, -8, -9))
	}
	t.Excluded = spare(t.Excluded, -7)
	return t
}

// wholeTables returns tables where the unused capacity is a part of each list.
func wholeTables(t api.Tables) api.Tables {
	for _, l := range []*spans{&t.Category, &t.Class, &t.Joining, &t.Bidi, &t.Script, &t.Status, &t.Ignorable} {
		*l = whole(*l)
	}
	for _, l := range []*mappings{&t.Extensions, &t.Maps, &t.Decomps, &t.Prototypes} {
		*l = slices.Clone(whole(*l))
		for i := range *l {
			(*l)[i].To = whole((*l)[i].To)
		}
	}
	t.Excluded = whole(t.Excluded)
	return t
}

// wantStay compares tables and a list with what they were before the calls.
func wantStay(t *testing.T, name string, tables api.Tables, l, list []int) {
	t.Helper()
	if !slices.Equal(whole(l), whole(spare(list, -7))) {
		t.Errorf("%s: %s has become %s", name, shown(list), shown(whole(l)))
	}
	if !reflect.DeepEqual(wholeTables(tables), wholeTables(spareTables())) {
		t.Errorf("%s: the tables have become %v", name, wholeTables(tables))
	}
}

// Rule R2: tables and lists stay as they are, with their unused capacity.
func TestArgumentsStay(t *testing.T) {
	lists := append([][]int{
		nil, {}, amongOthers, {'e', 0x302, inherited, hebrewMark, virama, geresh}, {plain, middleDot, 0x302, hebrewMark}, {keraia, greek, 0xD800},
		repeat(plain, most+1),
	}, listsWithoutErrors...)
	for _, list := range lists {
		tables, l := spareTables(), spare(list, -7)
		for _, i := range []int{-1, 0, 1, len(l) / 2, len(l) - 1, len(l), len(l) + 1} {
			context.Permitted(tables, l, i)
			wantStay(t, "Permitted", tables, l, list)
		}
		context.Check(tables, l)
		wantStay(t, "Check", tables, l, list)
	}
}

// Rules R2 and R3: what stands in the unused capacity of a list is no element of it.
func TestUnusedCapacityDoesNotMatter(t *testing.T) {
	for _, filling := range []int{el, greek, hebrew, han, hiragana, katakana, arabic0, extended0, middleDot, -1, 0xD800} {
		for _, list := range [][]int{{el, middleDot}, {plain, keraia}, {plain, katakanaDot}} {
			wantExactly(t, "not permitted", sample(), spare(list, filling), 1)
		}
		for _, list := range [][]int{{}, {plain}, {arabic0}, {extended0, extended9}, {el, middleDot, el}} {
			wantExactly(t, "permitted", sample(), spare(list, filling))
		}
	}
	wantExactly(t, "0xB7 first, with l before the list", sample(), []int{el, middleDot, el}[1:], 0)
	wantExactly(t, "0x5F3 first, with Hebrew before the list", sample(), []int{hebrew, geresh, plain}[1:], 0)
	wantExactly(t, "0x30FB first, with Han before the list", sample(), []int{han, katakanaDot, plain}[1:], 0)
	wantExactly(t, "a digit first, with one of the other kind before the list", sample(), []int{arabic0, extended0, plain}[1:])
}

// Rules R2 and R3: neither tables nor lists are kept from one call to the next.
func TestArgumentsAreNotRetained(t *testing.T) {
	tables, l := sample(), slices.Clone(amongOthers)
	wantExactly(t, "before", tables, l)
	l[2], l[7], l[9], l[16], l[20] = plain, plain, plain, plain, extended0
	wantExactly(t, "another list in the same memory", tables, l, 3, 6, 10, 14, 18, 20)
	copy(l, amongOthers)
	wantExactly(t, "the first list again", tables, l)
	for i := range tables.Script {
		tables.Script[i].Value = api.Cyrillic
	}
	wantExactly(t, "other tables in the same memory", tables, l, 6, 10, 12, 14)
	wantExactly(t, "other tables", sample(), l)
}
