package compose_test

import (
	"reflect"
	"slices"
	"testing"

	"namedesk/api"
	"namedesk/compose"
)

// spare returns a copy of l with unused capacity that is filled.
func spare[T any](l []T, filling T) []T {
	return append(append(make([]T, 0, len(l)+3), l...), filling, filling, filling)[:len(l)]
}

// whole returns l with its unused capacity.
func whole[T any](l []T) []T { return l[:cap(l)] }

// spareTables returns tables whose lists have unused capacity: the classes, the decompositions and what
// these lead to.
func spareTables() api.Tables {
	t := sample()
	t.Class = spare(t.Class, api.Span{From: -7, To: -8, Value: -9})
	t.Decomps = spare(t.Decomps, mapping(-7, -8, -9))
	for i := range t.Decomps {
		t.Decomps[i].To = spare(t.Decomps[i].To, -7)
	}
	t.Excluded = spare(t.Excluded, -7)
	return t
}

// wholeTables returns tables where the unused capacity is a part of each list.
func wholeTables(t api.Tables) api.Tables {
	t.Class, t.Excluded = whole(t.Class), whole(t.Excluded)
	t.Decomps = slices.Clone(whole(t.Decomps))
	for i := range t.Decomps {
		t.Decomps[i].To = whole(t.Decomps[i].To)
	}
	return t
}

// wantStay compares tables and a list with what they were before the calls.
func wantStay(t *testing.T, name string, tables api.Tables, l, list []int) {
	t.Helper()
	if !slices.Equal(whole(l), whole(spare(list, -7))) {
		t.Errorf("%s: %#x has become %#x", name, list, whole(l))
	}
	wantTablesStay(t, name, tables)
}

// wantTablesStay compares tables with what they were before the calls.
func wantTablesStay(t *testing.T, name string, tables api.Tables) {
	t.Helper()
	if !reflect.DeepEqual(wholeTables(tables), wholeTables(spareTables())) {
		t.Errorf("%s: the tables have become %v", name, wholeTables(tables))
	}
}

// memoryLists contain lists that are their own NFC, lists that are not, and lists with errors.
var memoryLists = [][]int{
	nil, {}, {'a'}, {acute230}, {'a', 'b'}, {below220, acute230}, {acute230, below220}, {'e', acute230}, {0xE9}, {0x2126}, {0x212B},
	{'d', 'd', 'd'}, {0x1100, 0x1161, 0x11A8}, {0xAC00, 0x11A8}, {0xAC01}, {0x958}, {lesserMark},
	{'e', cover1, hat230, below220, 0xAC01, excludedTwin}, {'e', acute230, 0xD800}, repeat('d', api.MaxRunes),
	repeat(0xE9, api.MaxRunes), repeat('a', api.MaxRunes+1),
}

func TestArgumentsStay(t *testing.T) {
	for _, list := range memoryLists {
		tables, l := spareTables(), spare(list, -7)
		compose.NFC(tables, l)
		wantStay(t, "NFC", tables, l, list)
		compose.IsNFC(tables, l)
		wantStay(t, "IsNFC", tables, l, list)
		compose.Quick(tables, l)
		wantStay(t, "Quick", tables, l, list)
	}
	tables := spareTables()
	for pair := range wholes {
		compose.Pair(tables, pair[0], pair[1])
		compose.Second(tables, pair[1])
	}
	compose.Pair(tables, 'x', 'y')
	wantTablesStay(t, "Pair and Second", tables)
}

// overwrite changes each element of l, and its unused capacity.
func overwrite(l []int) {
	for i := range whole(l) {
		whole(l)[i] = -7
	}
}

func TestNFCReturnsNewMemory(t *testing.T) {
	tables := spareTables()
	for _, list := range memoryLists {
		l := spare(list, -7)
		first, _ := compose.NFC(tables, l)
		second, _ := compose.NFC(tables, l)
		want := slices.Clone(second)
		overwrite(first)
		wantStay(t, "after a change of a result of NFC", tables, l, list)
		if !slices.Equal(second, want) {
			t.Errorf("after a change of one result of NFC, the other one is %#x, want %#x", second, want)
		}
		overwrite(l)
		if !slices.Equal(second, want) {
			t.Errorf("after a change of the list, the result of NFC is %#x, want %#x", second, want)
		}
		if third, _ := compose.NFC(tables, list); !slices.Equal(third, want) {
			t.Errorf("after all changes, the result of NFC is %#x, want %#x", third, want)
		}
	}
}

func TestTablesAreNotRetained(t *testing.T) {
	tables, l := sample(), []int{'e', acute230}
	nfc, _ := compose.NFC(tables, l)
	wantPair(t, "before a change of the tables", tables, 'e', acute230, 0xE9)
	wantQuick(t, "before a change of the tables", tables, []int{0xE9}, api.Yes)
	at := slices.IndexFunc(tables.Decomps, func(m api.Mapping) bool { return m.From == 0xE9 })
	tables.Decomps[at].To[0] = 'j'
	if !slices.Equal(nfc, []int{0xE9}) {
		t.Errorf("after a change of the tables, the result is %#x", nfc)
	}
	wantPair(t, "changed tables", tables, 'e', acute230, 0)
	wantPair(t, "changed tables", tables, 'j', acute230, 0xE9)
	wantNFC(t, "changed tables", tables, l, l)
	wantNFC(t, "changed tables", tables, []int{'j', acute230}, []int{0xE9})
	tables.Excluded = append([]int{0xE9}, tables.Excluded...)
	wantPair(t, "excluded now", tables, 'j', acute230, 0)
	wantQuick(t, "excluded now", tables, []int{0xE9}, api.No)
}
