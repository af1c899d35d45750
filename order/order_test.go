package order_test

import (
	"math"
	"slices"
	"testing"

	"namedesk/api"
	"namedesk/order"
	"namedesk/table"
)

// notScalar are numbers that are no scalar values.
var notScalar = []int{
	0xD800, 0xD801, 0xDBFF, 0xDC00, 0xDFFE, 0xDFFF, api.MaxRune + 1, 0x110000 + 'a', 0x110000 + above230,
	-1, -'a', -above230, 'a' + 1<<32, above230 + 1<<32, above230 - 1<<32, math.MaxInt32, math.MinInt32,
	math.MaxInt - 1, math.MaxInt, math.MinInt, math.MinInt + 1, math.MinInt + above230,
}

func TestSampleIsWellFormed(t *testing.T) {
	if rule := table.Check(sample()); rule != 0 {
		t.Errorf("Check = %d", rule)
	}
	for rule := 1; rule <= 9; rule++ {
		if got := table.Check(violating(rule)); got != rule {
			t.Errorf("Check of the tables that violate rule %d = %d", rule, got)
		}
	}
	for c := range api.MaxRune + 1 {
		if got := table.Class(sample(), c); got != classOf(c) {
			t.Errorf("Class(%#x) = %d, want %d", c, got, classOf(c))
		}
	}
}

func TestSamples(t *testing.T) {
	for _, row := range []struct {
		name    string
		l, want []int
		runs    []int
	}{
		{"nil", nil, nil, nil},
		{"no elements", []int{}, nil, nil},
		{"a letter", []int{'a'}, []int{'a'}, nil},
		{"a mark", []int{above230}, []int{above230}, []int{0, 1}},
		{"example of the chapter", []int{'a', above230, below220}, []int{'a', below220, above230}, []int{1, 3}},
		{"two marks alone", []int{above230, below220}, []int{below220, above230}, []int{0, 2}},
		{"two marks in order", []int{below220, above230}, []int{below220, above230}, []int{0, 2}},
		{"a mark before a letter", []int{above230, 'a'}, []int{above230, 'a'}, []int{0, 1}},
		{"a mark behind a letter", []int{'a', above230}, []int{'a', above230}, []int{1, 2}},
		{"letters", []int{'b', 'a', 'c'}, []int{'b', 'a', 'c'}, nil},

		{"equal classes", []int{above230, above230b}, []int{above230, above230b}, []int{0, 2}},
		{"equal classes the other way", []int{above230b, above230}, []int{above230b, above230}, []int{0, 2}},
		{"the same mark", []int{above230, above230, above230}, []int{above230, above230, above230}, []int{0, 3}},
		{"a mark passes equal ones", []int{above230c, above230, above230b, below220}, []int{below220, above230c, above230, above230b}, []int{0, 4}},
		{"equal ones pass a mark", []int{above230, below220c, below220, below220b}, []int{below220c, below220, below220b, above230}, []int{0, 4}},
		{"equal ones pass equal ones",
			[]int{above230c, below220b, above230, below220c, above230b, below220},
			[]int{below220b, below220c, below220, above230c, above230, above230b}, []int{0, 6}},
		{"three classes with equal ones",
			[]int{above230, below220c, other1, above230b, first1, below220, above230},
			[]int{other1, first1, below220c, below220, above230, above230b, above230}, []int{0, 7}},

		{"descending", []int{last254, iota240, above230, below220, stem216, virama9, first1},
			[]int{first1, virama9, stem216, below220, above230, iota240, last254}, []int{0, 7}},
		{"ascending", []int{first1, virama9, stem216, below220, above230, iota240, last254},
			[]int{first1, virama9, stem216, below220, above230, iota240, last254}, []int{0, 7}},
		{"mixed", []int{below220, last254, first1, iota240, virama9, above230, stem216},
			[]int{first1, virama9, stem216, below220, above230, iota240, last254}, []int{0, 7}},
		{"the last one first", []int{virama9, stem216, below220, above230, first1},
			[]int{first1, virama9, stem216, below220, above230}, []int{0, 5}},
		{"the first one last", []int{iota240, virama9, stem216, below220, above230},
			[]int{virama9, stem216, below220, above230, iota240}, []int{0, 5}},
		{"the first and the last scalar value around surrogates", []int{0xE000, 0xD7FF}, []int{0xD7FF, 0xE000}, []int{0, 2}},

		{"class 0 at the beginning", []int{'a', 'b', above230, below220}, []int{'a', 'b', below220, above230}, []int{2, 4}},
		{"class 0 at the end", []int{above230, below220, 'a', 'b'}, []int{below220, above230, 'a', 'b'}, []int{0, 2}},
		{"class 0 at both ends", []int{'a', above230, below220, 'b'}, []int{'a', below220, above230, 'b'}, []int{1, 3}},
		{"class 0 between", []int{above230, 'a', below220}, []int{above230, 'a', below220}, []int{0, 1, 2, 3}},
		{"class 0 between two runs", []int{above230, below220, 'a', iota240, first1},
			[]int{below220, above230, 'a', first1, iota240}, []int{0, 2, 3, 5}},
		{"class 0 next to each other between two runs", []int{above230, below220, 'b', 'a', iota240, first1},
			[]int{below220, above230, 'b', 'a', first1, iota240}, []int{0, 2, 4, 6}},
		{"class 0 between single marks", []int{last254, 'c', above230, 'b', below220, 'a', first1},
			[]int{last254, 'c', above230, 'b', below220, 'a', first1}, []int{0, 1, 2, 3, 4, 5, 6, 7}},
		{"class 0 before each of three runs", []int{'a', above230, below220, 'b', first1, 'c', iota240, above230, below220},
			[]int{'a', below220, above230, 'b', first1, 'c', below220, above230, iota240}, []int{1, 3, 4, 5, 6, 9}},
	} {
		wantOrder(t, row.name, sample(), row.l, row.want, row.runs)
	}
}

// Everything that has no class has the class 0, whatever else tables say about it.
func TestClassZeroEndsRuns(t *testing.T) {
	for _, c := range []int{
		0, '-', '.', 'A', 0x7F, 0x80, 0xAD, 0xC9, 0xE9, 0x2FF, 0x303, 0x322, 0x326, 0x344, 0x958, 0x1100, 0x1161, 0x11A8,
		api.ZWNJ, api.ZWJ, 0xABFF, 0xAC00, 0xAC01, 0xD7A3, 0xD7FE, 0xE001, 0xFFFF, 0x10000, 0x1D164, last254 - 1,
	} {
		l := []int{c, last254, first1, c, c, above230, below220, c}
		want := []int{c, first1, last254, c, c, below220, above230, c}
		wantOrder(t, "class 0", sample(), l, want, []int{1, 3, 5, 7})
		wantOrder(t, "class 0 between two marks", sample(), []int{above230, c, below220}, []int{above230, c, below220}, []int{0, 1, 2, 3})
	}
}

func TestWithoutClasses(t *testing.T) {
	l := []int{'b', above230, below220, 'a', last254, first1, 0, api.MaxRune}
	wantOrder(t, "no tables", api.Tables{}, l, l, nil)
}

// The result depends on the tables of this call, not on those of an earlier one.
func TestOtherClasses(t *testing.T) {
	other := api.Tables{Class: spans{{From: above230, To: above230, Value: 1}, {From: below220, To: below220, Value: 2}}}
	l := []int{below220, above230, below220b, above230, below220}
	for range 3 {
		wantOrder(t, "sample", sample(), l, []int{below220, below220b, below220, above230, above230}, []int{0, 5})
		wantOrder(t, "other", other, l, []int{above230, below220, below220b, above230, below220}, []int{0, 2, 3, 5})
	}
}

// allClasses returns tables with a code point for each class, and these in ascending order.
func allClasses() (api.Tables, []int) {
	var t api.Tables
	var l []int
	for class := 1; class <= 254; class++ {
		c := 0xF0000 + class
		t.Class = append(t.Class, api.Span{From: c, To: c, Value: class})
		l = append(l, c)
	}
	return t, l
}

func TestEveryPairOfClasses(t *testing.T) {
	tables, l := allClasses()
	for i, a := range l {
		for _, b := range l[i:] {
			if got, e := order.Order(tables, []int{b, a}); !slices.Equal(got, []int{a, b}) || e != api.OK {
				t.Fatalf("Order(%#x, %#x) = %#x, %d", b, a, got, e)
			}
			if !order.Sorted(tables, []int{a, b}) || order.Sorted(tables, []int{b, a}) != (a == b) {
				t.Fatalf("Sorted of %#x and %#x", a, b)
			}
		}
	}
}

func TestEveryClassInARun(t *testing.T) {
	tables, l := allClasses()
	reversed := slices.Clone(l)
	slices.Reverse(reversed)
	wantOrder(t, "ascending", tables, l, l, []int{0, 254})
	wantOrder(t, "descending", tables, reversed, l, []int{0, 254})
	for shift := range l {
		wantOrder(t, "shifted", tables, append(slices.Clone(l[shift:]), l[:shift]...), l, []int{0, 254})
	}
}

func TestMaxRunes(t *testing.T) {
	const most = api.MaxRunes
	half := func(a, b int) []int {
		return append(slices.Repeat([]int{a}, most/2), slices.Repeat([]int{b}, most/2)...)
	}
	letters := slices.Repeat([]int{'a'}, most)
	wantOrder(t, "letters", sample(), letters, letters, nil)
	marks := slices.Repeat([]int{above230}, most)
	wantOrder(t, "marks", sample(), marks, marks, []int{0, most})
	wantOrder(t, "two halves", sample(), half(above230, below220), half(below220, above230), []int{0, most})
	wantOrder(t, "two halves in order", sample(), half(below220, above230), half(below220, above230), []int{0, most})
	wantOrder(t, "alternating", sample(), slices.Repeat([]int{above230, below220}, most/2), half(below220, above230), []int{0, most})
	wantOrder(t, "marks before letters", sample(), half(above230, 'a'), half(above230, 'a'), []int{0, most / 2})
	wantOrder(t, "letters before marks", sample(), half('a', above230), half('a', above230), []int{most / 2, most})

	var runs []int
	for i := 0; i < most; i += 4 {
		runs = append(runs, i+1, i+4)
	}
	wantOrder(t, "many runs", sample(), slices.Repeat([]int{'a', above230, below220, first1}, most/4),
		slices.Repeat([]int{'a', first1, below220, above230}, most/4), runs)

	one := append([]int{above230, below220}, slices.Repeat([]int{'a'}, most-2)...)
	wantOrder(t, "out of order at the beginning", sample(), one,
		append([]int{below220, above230}, slices.Repeat([]int{'a'}, most-2)...), []int{0, 2})
	slices.Reverse(one)
	one[most-2], one[most-1] = above230, below220
	wantOrder(t, "out of order at the end", sample(), one,
		append(slices.Repeat([]int{'a'}, most-2), below220, above230), []int{most - 2, most})
}

func TestErrFull(t *testing.T) {
	for _, size := range []int{api.MaxRunes + 1, api.MaxRunes + 2, 2 * api.MaxRunes, 1 << 16} {
		for _, tables := range []api.Tables{{}, sample()} {
			wantError(t, "letters", tables, slices.Repeat([]int{'a'}, size), api.ErrFull)
			wantError(t, "marks", tables, slices.Repeat([]int{above230}, size), api.ErrFull)
		}
	}
	unordered := slices.Repeat([]int{above230}, api.MaxRunes+1)
	unordered[api.MaxRunes] = below220
	wantError(t, "out of order", sample(), unordered, api.ErrFull)
}

func TestErrRange(t *testing.T) {
	lists := [][]int{
		{'x'}, {'a', 'b', 'c'}, {below220, above230}, {above230, below220}, {'a', first1, below220, 'b', above230},
		slices.Repeat([]int{above230}, api.MaxRunes), slices.Repeat([]int{'a'}, api.MaxRunes),
	}
	for _, l := range lists {
		for _, c := range notScalar {
			for _, at := range []int{0, len(l) / 2, len(l) - 1} {
				wrong := slices.Clone(l)
				wrong[at] = c
				wantError(t, "not a scalar value", sample(), wrong, api.ErrRange)
				wantError(t, "not a scalar value, no tables", api.Tables{}, wrong, api.ErrRange)
			}
		}
	}
	wantError(t, "only surrogates", sample(), []int{0xD800, 0xDC00}, api.ErrRange)
}

func TestEveryNumberIsScalarOrNot(t *testing.T) {
	tables := api.Tables{Class: sample().Class}
	for c := -0x100; c < 0x10000; c++ {
		if want := c >= 0 && (c < 0xD800 || c > 0xDFFF); order.Sorted(tables, []int{c}) != want {
			t.Errorf("Sorted(%#x) = %t", c, !want)
		}
	}
	for c := api.MaxRune - 0x100; c < api.MaxRune+0x100; c++ {
		if want := c <= api.MaxRune; order.Sorted(tables, []int{c}) != want {
			t.Errorf("Sorted(%#x) = %t", c, !want)
		}
	}
}

func TestErrTable(t *testing.T) {
	long := slices.Repeat([]int{'a'}, api.MaxRunes+1)
	longWrong := slices.Repeat([]int{-1}, api.MaxRunes+1)
	for rule := 1; rule <= 9; rule++ {
		tables := violating(rule)
		for _, l := range [][]int{nil, {}, {'a'}, {above230}, {below220, above230}, {'a', above230, below220}} {
			wantError(t, "only the tables", tables, l, api.ErrTable)
		}
		wantError(t, "tables and length", tables, long, api.ErrTable)
		wantError(t, "tables and a surrogate", tables, []int{'a', 0xD800}, api.ErrTable)
		wantError(t, "tables, length and numbers", tables, longWrong, api.ErrTable)
	}
}

func TestLengthIsCheckedBeforeNumbers(t *testing.T) {
	for _, c := range notScalar {
		for _, at := range []int{0, 1, api.MaxRunes - 1, api.MaxRunes} {
			l := slices.Repeat([]int{'a'}, api.MaxRunes+1)
			l[at] = c
			wantError(t, "length and a number", sample(), l, api.ErrFull)
		}
		wantError(t, "length and all numbers", sample(), slices.Repeat([]int{c}, api.MaxRunes+1), api.ErrFull)
	}
}
