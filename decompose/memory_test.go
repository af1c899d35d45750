package decompose_test

import (
	"reflect"
	"slices"
	"testing"

	"namedesk/api"
	"namedesk/decompose"
)

// spare returns a copy of l with unused capacity that is filled.
func spare[T any](l []T, filling T) []T {
	return append(append(make([]T, 0, len(l)+3), l...), filling, filling, filling)[:len(l)]
}

// whole returns l with its unused capacity.
func whole[T any](l []T) []T { return l[:cap(l)] }

// spareTables returns tables whose lists have unused capacity: the classes, the decompositions and what
// these lead to.
func spareTables() api.Tables {
	t := sample()
	t.Class = spare(t.Class, api.Span{From: -7, To: -8, Value: -9})
	t.Decomps = spare(t.Decomps, mapping(-7, -8, -9))
	for i := range t.Decomps {
		t.Decomps[i].To = spare(t.Decomps[i].To, -7)
	}
	t.Excluded = spare(t.Excluded, -7)
	return t
}

// wholeTables returns tables where the unused capacity is a part of each list.
func wholeTables(t api.Tables) api.Tables {
	t.Class, t.Excluded = whole(t.Class), whole(t.Excluded)
	t.Decomps = slices.Clone(whole(t.Decomps))
	for i := range t.Decomps {
		t.Decomps[i].To = whole(t.Decomps[i].To)
	}
	return t
}

// wantStay compares tables and a list with what they were before the calls.
func wantStay(t *testing.T, name string, tables api.Tables, l, list []int) {
	t.Helper()
	if !slices.Equal(whole(l), whole(spare(list, -7))) {
		t.Errorf("%s: %#x has become %#x", name, list, whole(l))
	}
	wantTablesStay(t, name, tables)
}

// wantTablesStay compares tables with what they were before the calls.
func wantTablesStay(t *testing.T, name string, tables api.Tables) {
	t.Helper()
	if !reflect.DeepEqual(wholeTables(tables), wholeTables(spareTables())) {
		t.Errorf("%s: the tables have become %v", name, wholeTables(tables))
	}
}

// memoryLists contain lists that are their own NFD, lists that are not, and lists with errors.
var memoryLists = [][]int{
	nil, {}, {'a'}, {acute230}, {'a', 'b'}, {below220, acute230}, {acute230, below220}, {0xE9}, {0x2126}, {0x212B}, {threeSteps},
	{0xAC00}, {0xAC01}, {0xE9, below220, 0xE8, cover1, 0xAC01, unordered}, {0xE9, 0xD800}, repeat(0xE9, api.MaxRunes), repeat('a', api.MaxRunes+1),
}

func TestArgumentsStay(t *testing.T) {
	for _, list := range memoryLists {
		tables, l := spareTables(), spare(list, -7)
		decompose.NFD(tables, l)
		wantStay(t, "NFD", tables, l, list)
		decompose.IsNFD(tables, l)
		wantStay(t, "IsNFD", tables, l, list)
		decompose.Equivalent(tables, l, []int{0xE9})
		wantStay(t, "Equivalent", tables, l, list)
		decompose.Equivalent(tables, []int{0xE9}, l)
		wantStay(t, "Equivalent", tables, l, list)
		decompose.Equivalent(tables, l, l)
		wantStay(t, "Equivalent of the same", tables, l, list)
		for _, c := range l {
			decompose.One(tables, c)
		}
		wantStay(t, "One", tables, l, list)
	}
}

// overwrite changes each element of l, and its unused capacity.
func overwrite(l []int) {
	for i := range whole(l) {
		whole(l)[i] = -7
	}
}

func TestOneReturnsNewMemory(t *testing.T) {
	tables := spareTables()
	for _, c := range []int{'a', acute230, 0xE9, 0x2126, 0x212B, 0x1EC7, aMarks, eAndE, threeSteps, 0xAC00, 0xAC01} {
		first, second := decompose.One(tables, c), decompose.One(tables, c)
		overwrite(first)
		if !slices.Equal(second, fullOf(c)) {
			t.Errorf("after a change of one result of One(%#x), the other one is %#x", c, second)
		}
		wantTablesStay(t, "after a change of a result of One", tables)
		wantOne(t, "after a change of a result", tables, c, fullOf(c)...)
	}
}

func TestNFDReturnsNewMemory(t *testing.T) {
	tables := spareTables()
	for _, list := range memoryLists {
		l := spare(list, -7)
		first, _ := decompose.NFD(tables, l)
		second, _ := decompose.NFD(tables, l)
		want := slices.Clone(second)
		overwrite(first)
		wantStay(t, "after a change of a result of NFD", tables, l, list)
		if !slices.Equal(second, want) {
			t.Errorf("after a change of one result of NFD, the other one is %#x, want %#x", second, want)
		}
		overwrite(l)
		if !slices.Equal(second, want) {
			t.Errorf("after a change of the list, the result of NFD is %#x, want %#x", second, want)
		}
		if third, _ := decompose.NFD(tables, list); !slices.Equal(third, want) {
			t.Errorf("after all changes, the result of NFD is %#x, want %#x", third, want)
		}
	}
}

func TestTablesAreNotRetained(t *testing.T) {
	tables, l := sample(), []int{0xE9, below220}
	one := decompose.One(tables, 0xE9)
	nfd, _ := decompose.NFD(tables, l)
	at := slices.IndexFunc(tables.Decomps, func(m api.Mapping) bool { return m.From == 0xE9 })
	tables.Decomps[at].To[0] = 'f'
	tables.Class[0].Value = 3
	if !slices.Equal(one, []int{'e', acute230}) || !slices.Equal(nfd, []int{'e', below220, acute230}) {
		t.Errorf("after a change of the tables, the results are %#x and %#x", one, nfd)
	}
	wantOne(t, "changed tables", tables, 0xE9, 'f', acute230)
	wantNFD(t, "changed tables", tables, l, []int{'f', acute230, below220})
}
