package order_test

import (
	"slices"
	"testing"

	"namedesk/api"
	"namedesk/order"
)

type (
	spans    = []api.Span
	mappings = []api.Mapping
)

// The code points with a class other than 0 in the sample; their names end with the class.
const (
	first1    = 0x334
	other1    = 0x335
	virama9   = 0x94D
	stem216   = 0x1D165
	below220  = 0x323
	below220b = 0x324
	below220c = 0x325
	above230  = 0x301
	above230b = 0x300
	above230c = 0x302
	iota240   = 0x345
	last254   = api.MaxRune
)

// classes are the classes of the sample, written out a second time: the expected results are computed
// with these.
var classes = map[int]int{
	first1: 1, other1: 1, virama9: 9, stem216: 216, below220: 220, below220b: 220, below220c: 220,
	above230: 230, above230b: 230, above230c: 230, iota240: 240, last254: 254, 0xD7FF: 7, 0xE000: 8,
}

// sample returns well-formed tables that also say much that has nothing to do with the order.
func sample() api.Tables {
	return api.Tables{
		Category: spans{{From: 0xC0, To: 0xFF, Value: api.Letter}, {From: 0x300, To: 0x36F, Value: api.Mark}},
		Class: spans{
			{From: 0x300, To: 0x302, Value: 230}, {From: 0x323, To: 0x325, Value: 220}, {From: 0x334, To: 0x335, Value: 1},
			{From: 0x345, To: 0x345, Value: 240}, {From: 0x94D, To: 0x94D, Value: api.Virama}, {From: 0xD7FF, To: 0xD7FF, Value: 7},
			{From: 0xE000, To: 0xE000, Value: 8}, {From: 0x1D165, To: 0x1D165, Value: 216}, {From: last254, To: last254, Value: 254},
		},
		Joining:    spans{{From: 0x300, To: 0x36F, Value: api.Transparent}},
		Bidi:       spans{{From: 0x300, To: 0x36F, Value: api.BidiNSM}},
		Script:     spans{{From: 0x300, To: 0x36F, Value: api.Inherited}},
		Status:     spans{{From: 0xAD, To: 0xAD, Value: api.Ignored}, {From: 0xC9, To: 0xC9, Value: api.Mapped}, {From: 0xE9, To: 0xE9, Value: api.Valid}},
		Ignorable:  spans{{From: 0xAD, To: 0xAD, Value: 1}, {From: 0x200B, To: 0x200F, Value: 1}},
		Extensions: mappings{{From: 0xB7, To: []int{api.Latin, api.Greek}}},
		Maps:       mappings{{From: 0xC9, To: []int{0xE9}}},
		Decomps:    mappings{{From: 0xE9, To: []int{'e', above230}}, {From: 0x344, To: []int{above230, above230b}}, {From: 0x958, To: []int{0x915, 0x93C}}},
		Excluded:   []int{0x958},
		Prototypes: mappings{{From: 'm', To: []int{'r', 'n'}}},
	}
}

// violating returns tables that violate a rule of chapter 4, and none before it.
func violating(rule int) api.Tables {
	t := sample()
	switch rule {
	case 1:
		t.Class = nil
		for i := range api.MaxRows + 1 {
			t.Class = append(t.Class, api.Span{From: 0xF0000 + i, To: 0xF0000 + i, Value: 230})
		}
	case 2:
		t.Class = spans{{From: 'a', To: 'a', Value: 230}}
	case 3:
		t.Class[0].Value = 255
	case 4:
		t.Prototypes[0].To = nil
	case 5:
		t.Maps = nil
	case 6:
		t.Decomps = mappings{{From: 0xE8, To: []int{0xE9}}, {From: 0xE9, To: []int{0xE8}}}
		t.Excluded = nil
	case 7:
		t.Excluded = []int{0x959}
	case 8:
		t.Decomps = append(t.Decomps, api.Mapping{From: 0x95A, To: []int{'e', above230}})
	case 9:
		t.Prototypes[0].To[0] = 0xE9
	}
	return t
}

// classOf returns the class that the sample gives to c.
func classOf(c int) int { return classes[c] }

// wantOrder compares the results of all functions for a list without an error.
func wantOrder(t *testing.T, name string, tables api.Tables, l, want, runs []int) {
	t.Helper()
	if got, e := order.Order(tables, l); !slices.Equal(got, want) || e != api.OK {
		t.Errorf("%s: Order(%#x) = %#x, %d, want %#x", name, l, got, e, want)
	}
	if got := order.Sorted(tables, l); got != slices.Equal(l, want) {
		t.Errorf("%s: Sorted(%#x) = %t, want %t", name, l, got, slices.Equal(l, want))
	}
	if got, e := order.Runs(tables, l); !slices.Equal(got, runs) || e != api.OK {
		t.Errorf("%s: Runs(%#x) = %d, %d, want %d", name, l, got, e, runs)
	}
}

// wantError compares the results of all functions for arguments with an error.
func wantError(t *testing.T, name string, tables api.Tables, l []int, want api.Errno) {
	t.Helper()
	if got, e := order.Order(tables, l); len(got) != 0 || e != want {
		t.Errorf("%s: Order = %d elements, %d, want none, %d", name, len(got), e, want)
	}
	if order.Sorted(tables, l) {
		t.Errorf("%s: Sorted = true", name)
	}
	if got, e := order.Runs(tables, l); len(got) != 0 || e != want {
		t.Errorf("%s: Runs = %d, %d, want no elements, %d", name, got, e, want)
	}
}
