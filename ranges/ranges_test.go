package ranges_test

import (
	"math"
	"math/rand"
	"slices"
	"testing"

	"namedesk/api"
	"namedesk/ranges"
)

type spans = []api.Span

// span keeps the tables of the tests short.
func span(from, to, value int) api.Span { return api.Span{From: from, To: to, Value: value} }

// validLists are lists that the definition allows, with the ends of their values.
var validLists = []struct {
	name   string
	list   spans
	lo, hi int // the first and the last code point with a value
	count  int
	normal spans
}{
	{"one code point", spans{span(65, 65, 7)}, 65, 65, 1, spans{span(65, 65, 7)}},
	{"first code point", spans{span(0, 0, 1)}, 0, 0, 1, spans{span(0, 0, 1)}},
	{"last code point", spans{span(api.MaxRune, api.MaxRune, 1)}, api.MaxRune, api.MaxRune, 1, spans{span(api.MaxRune, api.MaxRune, 1)}},
	{"all code points", spans{span(0, api.MaxRune, 1)}, 0, api.MaxRune, api.MaxRune + 1, spans{span(0, api.MaxRune, 1)}},
	{"both ends", spans{span(0, 0, 1), span(api.MaxRune, api.MaxRune, 1)}, 0, api.MaxRune, 2, spans{span(0, 0, 1), span(api.MaxRune, api.MaxRune, 1)}},
	{"a gap of one, same value", spans{span(10, 20, 1), span(22, 30, 1)}, 10, 30, 20, spans{span(10, 20, 1), span(22, 30, 1)}},
	{"touching, other value", spans{span(10, 20, 1), span(21, 30, 2)}, 10, 30, 21, spans{span(10, 20, 1), span(21, 30, 2)}},
	{"touching, same value", spans{span(10, 20, 1), span(21, 30, 1)}, 10, 30, 21, spans{span(10, 30, 1)}},
	{"three touching, same value", spans{span(10, 20, 1), span(21, 21, 1), span(22, 30, 1)}, 10, 30, 21, spans{span(10, 30, 1)}},
	{"touching, same value first and last", spans{span(1, 1, 5), span(2, 2, 6), span(3, 3, 5)}, 1, 3, 3, spans{span(1, 1, 5), span(2, 2, 6), span(3, 3, 5)}},
	{"touching, value 0", spans{span(1, 1, 0), span(2, 3, 0)}, 1, 3, 3, spans{span(1, 3, 0)}},
	{"all code points in two", spans{span(0, 99, 4), span(100, api.MaxRune, 4)}, 0, api.MaxRune, api.MaxRune + 1, spans{span(0, api.MaxRune, 4)}},
	{"surrogates are code points", spans{span(0xD800, 0xDFFF, 1)}, 0xD800, 0xDFFF, 0x800, spans{span(0xD800, 0xDFFF, 1)}},
	{"any value", spans{span(1, 1, math.MinInt), span(2, 2, -1), span(3, 3, math.MaxInt)}, 1, 3, 3, spans{span(1, 1, math.MinInt), span(2, 2, -1), span(3, 3, math.MaxInt)}},
	{"MaxRows spans apart", apart(api.MaxRows), 0, 2 * (api.MaxRows - 1), api.MaxRows, apart(api.MaxRows)},
	{"MaxRows spans that touch", touching(api.MaxRows), 0, api.MaxRows - 1, api.MaxRows, spans{span(0, api.MaxRows-1, 1)}},
}

// invalidLists violate one condition of the definition each.
var invalidLists = []struct {
	name string
	list spans
}{
	{"From is negative", spans{span(-1, 5, 1)}},
	{"From and To are negative", spans{span(-2, -1, 1)}},
	{"From is the least number", spans{span(math.MinInt, 5, 1)}},
	{"To is less than From", spans{span(6, 5, 1)}},
	{"To is less than From, second span", spans{span(1, 2, 1), span(6, 5, 1)}},
	{"To is the least number", spans{span(0, math.MinInt, 1)}},
	{"To is MaxRune + 1", spans{span(5, api.MaxRune+1, 1)}},
	{"To is the greatest number", spans{span(5, math.MaxInt, 1)}},
	{"From is MaxRune + 1", spans{span(api.MaxRune+1, api.MaxRune+1, 1)}},
	{"From and To are the greatest number", spans{span(math.MaxInt, math.MaxInt, 1)}},
	{"a span after the greatest number", spans{span(math.MaxInt, math.MaxInt, 1), span(1, 2, 1)}},
	{"overlap of one code point", spans{span(10, 20, 1), span(20, 30, 2)}},
	{"overlap with the same value", spans{span(10, 20, 1), span(15, 30, 1)}},
	{"the same span twice", spans{span(10, 20, 1), span(10, 20, 1)}},
	{"a span in another", spans{span(10, 20, 1), span(12, 14, 2)}},
	{"descending", spans{span(22, 30, 1), span(10, 20, 2)}},
	{"descending at the end", spans{span(1, 2, 1), span(22, 30, 1), span(10, 20, 2)}},
	{"last span negative", spans{span(1, 2, 1), span(-1, -1, 1)}},
	{"last span too great", spans{span(1, 2, 1), span(3, api.MaxRune+1, 1)}},
	{"MaxRows + 1 spans apart", apart(api.MaxRows + 1)},
	{"MaxRows + 1 spans that touch", touching(api.MaxRows + 1)},
	{"3 * MaxRows spans", apart(3 * api.MaxRows)},
}

// apart returns n spans of one code point each, with gaps of one code point.
func apart(n int) spans {
	var l spans
	for i := range n {
		l = append(l, span(2*i, 2*i, 1))
	}
	return l
}

// touching returns n spans of one code point each, with the same value and without gaps.
func touching(n int) spans {
	var l spans
	for i := range n {
		l = append(l, span(i, i, 1))
	}
	return l
}

// Promise 2.1.
func TestCheck(t *testing.T) {
	for _, v := range validLists {
		for _, bounds := range [][2]int{{v.lo, v.hi}, {v.lo - 1, v.hi + 1}, {0, api.MaxRune}, {math.MinInt, math.MaxInt}} {
			if !ranges.Check(v.list, bounds[0], bounds[1]) {
				t.Errorf("%s: not accepted from %d to %d", v.name, bounds[0], bounds[1])
			}
		}
		for _, bounds := range [][2]int{{v.lo + 1, v.hi}, {v.lo, v.hi - 1}, {v.lo + 1, math.MaxInt}, {math.MinInt, v.hi - 1}, {math.MaxInt, math.MinInt}} {
			if ranges.Check(v.list, bounds[0], bounds[1]) {
				t.Errorf("%s: accepted from %d to %d", v.name, bounds[0], bounds[1])
			}
		}
	}
	for _, v := range invalidLists {
		for _, bounds := range [][2]int{{0, api.MaxRune}, {math.MinInt, math.MaxInt}} {
			if ranges.Check(v.list, bounds[0], bounds[1]) {
				t.Errorf("%s: accepted from %d to %d", v.name, bounds[0], bounds[1])
			}
		}
	}
}

// A list without spans has none outside of any bounds, even if the bounds contain nothing.
func TestCheckWithoutSpans(t *testing.T) {
	for _, l := range []spans{nil, {}} {
		for _, bounds := range [][2]int{{0, api.MaxRune}, {5, 4}, {-3, -2}, {math.MaxInt, math.MinInt}} {
			if !ranges.Check(l, bounds[0], bounds[1]) {
				t.Errorf("not accepted from %d to %d", bounds[0], bounds[1])
			}
		}
	}
}

// Promise 2.2, with the edges of each span.
func TestFind(t *testing.T) {
	for _, v := range validLists {
		for _, c := range probes(v.list) {
			wantFound(t, v.name, v.list, c)
		}
	}
	l := spans{span(10, 20, 3), span(30, 40, 0), span(41, 50, -2)}
	for _, want := range []struct {
		c, value int
		found    bool
	}{
		{9, 0, false}, {10, 3, true}, {15, 3, true}, {20, 3, true}, {21, 0, false},
		{29, 0, false}, {30, 0, true}, {40, 0, true}, {41, -2, true}, {50, -2, true}, {51, 0, false},
	} {
		if value, found := ranges.Find(l, want.c); value != want.value || found != want.found {
			t.Errorf("Find(%d) = %d, %t, want %d, %t", want.c, value, found, want.value, want.found)
		}
	}
}

// Each number of spans gives a binary search other places to look at.
func TestFindInEachLength(t *testing.T) {
	for n := range api.MaxRows + 1 {
		var l spans
		for i := range n {
			l = append(l, span(3*i+1, 3*i+2, i+1))
		}
		for c := -1; c <= 3*n+3; c++ {
			wantFound(t, "spans with gaps", l, c)
		}
	}
}

func TestFindInInvalidList(t *testing.T) {
	for _, v := range invalidLists {
		for _, c := range probes(v.list) {
			if value, found := ranges.Find(v.list, c); value != 0 || found {
				t.Errorf("%s: Find(%d) = %d, %t", v.name, c, value, found)
			}
		}
	}
}

// Promise 2.3.
func TestNormal(t *testing.T) {
	for _, v := range validLists {
		if l := ranges.Normal(v.list); !slices.Equal(l, v.normal) {
			t.Errorf("%s: %v, want %v", v.name, l, v.normal)
		}
		if l := ranges.Normal(ranges.Normal(v.list)); !slices.Equal(l, v.normal) {
			t.Errorf("%s: twice: %v, want %v", v.name, l, v.normal)
		}
	}
	for _, v := range invalidLists {
		if l := ranges.Normal(v.list); l != nil {
			t.Errorf("%s: %v, want nil", v.name, l)
		}
	}
	if l := ranges.Normal(nil); len(l) != 0 {
		t.Errorf("no spans: %v", l)
	}
}

// change is a call of Set or Clear, and its result.
type change struct {
	name            string
	list            spans
	from, to, value int
	want            spans
}

// Promise 2.4: Set.
func TestSet(t *testing.T) {
	one, two := spans{span(10, 20, 1)}, spans{span(10, 20, 1), span(30, 40, 2)}
	for _, c := range []change{
		{"in the middle", one, 15, 16, 2, spans{span(10, 14, 1), span(15, 16, 2), span(17, 20, 1)}},
		{"in the middle, same value", one, 15, 16, 1, one},
		{"no list", nil, 5, 6, 3, spans{span(5, 6, 3)}},
		{"value 0 is a value", one, 15, 15, 0, spans{span(10, 14, 1), span(15, 15, 0), span(16, 20, 1)}},
		{"value 0 where there is none", one, 30, 30, 0, spans{span(10, 20, 1), span(30, 30, 0)}},
		{"least value", one, 30, 30, math.MinInt, spans{span(10, 20, 1), span(30, 30, math.MinInt)}},
		{"greatest value", one, 1, 1, math.MaxInt, spans{span(1, 1, math.MaxInt), span(10, 20, 1)}},
		{"before, with a gap", one, 5, 8, 1, spans{span(5, 8, 1), span(10, 20, 1)}},
		{"before, touching, same value", one, 5, 9, 1, spans{span(5, 20, 1)}},
		{"before, touching, other value", one, 5, 9, 2, spans{span(5, 9, 2), span(10, 20, 1)}},
		{"after, with a gap", one, 22, 25, 1, spans{span(10, 20, 1), span(22, 25, 1)}},
		{"after, touching, same value", one, 21, 25, 1, spans{span(10, 25, 1)}},
		{"after, touching, other value", one, 21, 25, 2, spans{span(10, 20, 1), span(21, 25, 2)}},
		{"first code point of a span", one, 10, 10, 2, spans{span(10, 10, 2), span(11, 20, 1)}},
		{"last code point of a span", one, 20, 20, 2, spans{span(10, 19, 1), span(20, 20, 2)}},
		{"a whole span", one, 10, 20, 2, spans{span(10, 20, 2)}},
		{"more than a span", one, 9, 21, 2, spans{span(9, 21, 2)}},
		{"over the beginning, same value", one, 5, 12, 1, spans{span(5, 20, 1)}},
		{"over the end, same value", one, 18, 25, 1, spans{span(10, 25, 1)}},
		{"the gap, value of the first", two, 21, 29, 1, spans{span(10, 29, 1), span(30, 40, 2)}},
		{"the gap, value of the second", two, 21, 29, 2, spans{span(10, 20, 1), span(21, 40, 2)}},
		{"the gap between same values", spans{span(10, 20, 1), span(22, 30, 1)}, 21, 21, 1, spans{span(10, 30, 1)}},
		{"end of one and beginning of the next", two, 15, 35, 3, spans{span(10, 14, 1), span(15, 35, 3), span(36, 40, 2)}},
		{"the second gets the value of the first", spans{span(10, 20, 1), span(21, 30, 2), span(31, 40, 1)}, 21, 30, 1, spans{span(10, 40, 1)}},
		{"all code points", two, 0, api.MaxRune, 2, spans{span(0, api.MaxRune, 2)}},
		{"first code point", two, 0, 0, 2, spans{span(0, 0, 2), span(10, 20, 1), span(30, 40, 2)}},
		{"last code point", two, api.MaxRune, api.MaxRune, 2, spans{span(10, 20, 1), span(30, 40, 2), span(api.MaxRune, api.MaxRune, 2)}},
		{"first code point of all", spans{span(0, api.MaxRune, 1)}, 0, 0, 2, spans{span(0, 0, 2), span(1, api.MaxRune, 1)}},
		{"last code point of all", spans{span(0, api.MaxRune, 1)}, api.MaxRune, api.MaxRune, 2, spans{span(0, api.MaxRune-1, 1), span(api.MaxRune, api.MaxRune, 2)}},
		{"a list that is not normal", spans{span(1, 2, 1), span(3, 4, 1), span(50, 51, 2), span(52, 53, 2)}, 20, 20, 9, spans{span(1, 4, 1), span(20, 20, 9), span(50, 53, 2)}},
	} {
		l, e := ranges.Set(c.list, c.from, c.to, c.value)
		wantSpans(t, c.name, l, e, c.want)
	}
}

// Promise 2.4: Clear.
func TestClear(t *testing.T) {
	one, two := spans{span(10, 20, 1)}, spans{span(10, 20, 1), span(30, 40, 2)}
	for _, c := range []change{
		{"no list", nil, 5, 6, 0, nil},
		{"in the middle", one, 15, 16, 0, spans{span(10, 14, 1), span(17, 20, 1)}},
		{"where there is none", two, 21, 29, 0, two},
		{"before", two, 0, 9, 0, two},
		{"after", two, 41, api.MaxRune, 0, two},
		{"first code point of a span", one, 10, 10, 0, spans{span(11, 20, 1)}},
		{"last code point of a span", one, 20, 20, 0, spans{span(10, 19, 1)}},
		{"a whole span", two, 10, 20, 0, spans{span(30, 40, 2)}},
		{"more than a span", two, 25, 41, 0, spans{span(10, 20, 1)}},
		{"over the beginning", one, 5, 12, 0, spans{span(13, 20, 1)}},
		{"over the end", one, 18, 25, 0, spans{span(10, 17, 1)}},
		{"end of one and beginning of the next", two, 15, 35, 0, spans{span(10, 14, 1), span(36, 40, 2)}},
		{"all code points", two, 0, api.MaxRune, 0, nil},
		{"first code point of all", spans{span(0, api.MaxRune, 1)}, 0, 0, 0, spans{span(1, api.MaxRune, 1)}},
		{"last code point of all", spans{span(0, api.MaxRune, 1)}, api.MaxRune, api.MaxRune, 0, spans{span(0, api.MaxRune-1, 1)}},
		{"value 0 remains a value", spans{span(10, 20, 0)}, 15, 15, 0, spans{span(10, 14, 0), span(16, 20, 0)}},
		{"a list that is not normal", spans{span(1, 2, 1), span(3, 4, 1), span(50, 51, 2), span(52, 53, 2)}, 20, 20, 0, spans{span(1, 4, 1), span(50, 53, 2)}},
		{"at the seam of a list that is not normal", spans{span(1, 2, 1), span(3, 4, 1)}, 2, 2, 0, spans{span(1, 1, 1), span(3, 4, 1)}},
	} {
		l, e := ranges.Clear(c.list, c.from, c.to)
		wantSpans(t, c.name, l, e, c.want)
	}
}

// Promise 2.4: each error, and that an earlier one hides the later ones.
func TestErrorsOfSetAndClear(t *testing.T) {
	notRanges := [][2]int{
		{-1, 5}, {-2, -1}, {6, 5}, {5, api.MaxRune + 1}, {api.MaxRune + 1, api.MaxRune + 1}, {api.MaxRune, 0},
		{math.MinInt, math.MaxInt}, {math.MaxInt, math.MinInt}, {math.MaxInt, math.MaxInt}, {math.MinInt, math.MinInt},
	}
	for _, v := range invalidLists {
		for _, r := range append(notRanges, [2]int{0, 0}, [2]int{0, api.MaxRune}) {
			wantErrors(t, v.name, v.list, r[0], r[1], api.ErrArg)
		}
	}
	for _, v := range validLists {
		for _, r := range notRanges {
			wantErrors(t, v.name, v.list, r[0], r[1], api.ErrRange)
		}
	}
	// A change at 1 cuts the first span in two.
	wide := wideSpans(api.MaxRows)
	wantErrors(t, "MaxRows spans", wide, 1, 1, api.ErrFull)
	wantErrors(t, "MaxRows spans", wide, 1, -1, api.ErrRange)
	wantErrors(t, "MaxRows spans", wide, 5, api.MaxRune+1, api.ErrRange)
	wantErrors(t, "MaxRows + 1 spans", wideSpans(api.MaxRows+1), 1, 1, api.ErrArg)
	wantErrors(t, "MaxRows + 1 spans", wideSpans(api.MaxRows+1), 1, -1, api.ErrArg)
}

// wideSpans returns n spans of three code points each, with gaps of one code point.
func wideSpans(n int) spans {
	var l spans
	for i := range n {
		l = append(l, span(4*i, 4*i+2, 1))
	}
	return l
}

func wantErrors(t *testing.T, name string, l spans, from, to int, want api.Errno) {
	t.Helper()
	if got, e := ranges.Set(l, from, to, 2); e != want || len(got) != 0 {
		t.Errorf("%s: Set from %d to %d: %v, %d, want the error %d", name, from, to, got, e, want)
	}
	if got, e := ranges.Clear(l, from, to); e != want || len(got) != 0 {
		t.Errorf("%s: Clear from %d to %d: %v, %d, want the error %d", name, from, to, got, e, want)
	}
}

// Promise 2.4: ErrFull counts the spans of the normal list, and nothing else.
func TestLimitOfSet(t *testing.T) {
	last := api.MaxRows - 1
	for _, c := range []struct {
		name            string
		list            spans
		from, to, value int
		full            bool
	}{
		{"splits one of MaxRows - 2", wideSpans(last - 1), 1, 1, 2, false},
		{"splits one of MaxRows - 1", wideSpans(last), 1, 1, 2, true},
		{"cuts one of MaxRows - 1", wideSpans(last), 0, 0, 2, false},
		{"cuts one of MaxRows", wideSpans(last + 1), 0, 0, 2, true},
		{"cuts the end of one of MaxRows", wideSpans(last + 1), 4*last + 2, 4*last + 2, 2, true},
		{"one more than MaxRows - 1, after", wideSpans(last), 4*last + 9, 4*last + 9, 1, false},
		{"one more than MaxRows, after", wideSpans(last + 1), 4*last + 9, 4*last + 9, 1, true},
		{"one more than MaxRows, in a gap", wideSpans(last + 1), 3, 3, 2, true},
		{"MaxRows, joins two", wideSpans(last + 1), 3, 3, 1, false},
		{"MaxRows, same value", wideSpans(last + 1), 1, 1, 1, false},
		{"MaxRows, a whole span", wideSpans(last + 1), 4, 6, 2, false},
		{"MaxRows, cuts two", wideSpans(last + 1), 1, 5, 2, true},
		{"MaxRows, replaces one and cuts two", wideSpans(last + 1), 1, 9, 2, false},
		{"MaxRows, longer at the end", wideSpans(last + 1), 4*last + 3, 4*last + 3, 1, false},
		{"MaxRows, all", wideSpans(last + 1), 0, api.MaxRune, 2, false},
		{"MaxRows that touch, split", touching(last + 1), 7, 7, 2, false},
		{"MaxRows with a seam", withSeam(last + 1), 4*last + 9, 4*last + 9, 2, false},
		{"MaxRows with a seam, split", withSeam(last + 1), 5, 5, 2, true},
	} {
		got, e := ranges.Set(c.list, c.from, c.to, c.value)
		want := naiveOverlay(c.list, spans{span(c.from, c.to, c.value)})
		wantLimited(t, c.name, got, e, want, c.full)
	}
}

// withSeam returns n spans of three code points each, of which only the first two touch, with the
// same value: the normal list has one span less.
func withSeam(n int) spans {
	l := wideSpans(n)
	l[0].To++
	return l
}

func TestLimitOfClear(t *testing.T) {
	last := api.MaxRows - 1
	for _, c := range []struct {
		name     string
		list     spans
		from, to int
		full     bool
	}{
		{"splits one of MaxRows - 1", wideSpans(last), 1, 1, false},
		{"splits the first of MaxRows", wideSpans(last + 1), 1, 1, true},
		{"splits the last of MaxRows", wideSpans(last + 1), 4*last + 1, 4*last + 1, true},
		{"cuts one of MaxRows", wideSpans(last + 1), 0, 0, false},
		{"cuts two of MaxRows", wideSpans(last + 1), 1, 5, false},
		{"MaxRows, in a gap", wideSpans(last + 1), 3, 3, false},
		{"MaxRows, a whole span", wideSpans(last + 1), 4, 6, false},
		{"MaxRows, all", wideSpans(last + 1), 0, api.MaxRune, false},
		{"MaxRows with a seam, split", withSeam(last + 1), 9, 9, false},
		{"MaxRows that touch, split", touching(last + 1), 7, 7, false},
	} {
		got, e := ranges.Clear(c.list, c.from, c.to)
		want := naiveClear(c.list, c.from, c.to)
		wantLimited(t, c.name, got, e, want, c.full)
	}
}

// wantLimited compares a result with the spans that it should have, or ErrFull if these are too
// many; full says by hand which of the two it is.
func wantLimited(t *testing.T, name string, got spans, e api.Errno, want spans, full bool) {
	t.Helper()
	if full != (len(want) > api.MaxRows) {
		t.Fatalf("%s: the test is wrong: %d spans", name, len(want))
	}
	if full {
		if e != api.ErrFull || len(got) != 0 {
			t.Errorf("%s: %d spans, %d, want ErrFull", name, len(got), e)
		}
		return
	}
	wantSpans(t, name, got, e, want)
}

// Promise 2.5.
func TestOverlay(t *testing.T) {
	two := spans{span(10, 20, 1), span(30, 40, 2)}
	for _, c := range []struct {
		name       string
		a, b, want spans
	}{
		{"nothing", nil, nil, nil},
		{"nothing above", two, nil, two},
		{"nothing below", nil, two, two},
		{"the same", two, two, two},
		{"above wins", spans{span(10, 20, 1)}, spans{span(10, 20, 2)}, spans{span(10, 20, 2)}},
		{"above wins with the value 0", spans{span(10, 20, 1)}, spans{span(12, 20, 0)}, spans{span(10, 11, 1), span(12, 20, 0)}},
		{"above in the middle", spans{span(10, 20, 1)}, spans{span(12, 14, 2)}, spans{span(10, 11, 1), span(12, 14, 2), span(15, 20, 1)}},
		{"above twice in the middle", spans{span(10, 20, 1)}, spans{span(12, 14, 2), span(16, 16, 3)}, spans{span(10, 11, 1), span(12, 14, 2), span(15, 15, 1), span(16, 16, 3), span(17, 20, 1)}},
		{"above contains below", spans{span(10, 20, 1)}, spans{span(9, 21, 2)}, spans{span(9, 21, 2)}},
		{"above contains two below", two, spans{span(5, 50, 3)}, spans{span(5, 50, 3)}},
		{"above over three below", spans{span(1, 3, 1), span(5, 7, 2), span(9, 11, 3)}, spans{span(2, 10, 4)}, spans{span(1, 1, 1), span(2, 10, 4), span(11, 11, 3)}},
		{"between", two, spans{span(22, 28, 3)}, spans{span(10, 20, 1), span(22, 28, 3), span(30, 40, 2)}},
		{"before and after", two, spans{span(1, 2, 3), span(50, 60, 4)}, spans{span(1, 2, 3), span(10, 20, 1), span(30, 40, 2), span(50, 60, 4)}},
		{"joins with the value above", spans{span(10, 20, 1), span(22, 30, 1)}, spans{span(21, 21, 1)}, spans{span(10, 30, 1)}},
		{"joins above and below in turn", spans{span(1, 1, 1), span(3, 3, 1)}, spans{span(2, 2, 1), span(4, 4, 1)}, spans{span(1, 4, 1)}},
		{"touching, other values", spans{span(10, 20, 1)}, spans{span(1, 9, 2), span(21, 30, 3)}, spans{span(1, 9, 2), span(10, 20, 1), span(21, 30, 3)}},
		{"both not normal", spans{span(1, 2, 1), span(3, 4, 1)}, spans{span(6, 7, 2), span(8, 9, 2)}, spans{span(1, 4, 1), span(6, 9, 2)}},
		{"ends of the code points", spans{span(0, api.MaxRune, 1)}, spans{span(0, 0, 2), span(api.MaxRune, api.MaxRune, 3)}, spans{span(0, 0, 2), span(1, api.MaxRune-1, 1), span(api.MaxRune, api.MaxRune, 3)}},
		{"all code points", two, spans{span(0, api.MaxRune, 9)}, spans{span(0, api.MaxRune, 9)}},
	} {
		l, e := ranges.Overlay(c.a, c.b)
		wantSpans(t, c.name, l, e, c.want)
	}
}

func TestErrorsOfOverlay(t *testing.T) {
	for _, v := range invalidLists {
		// The full lists would lead to ErrFull.
		for _, other := range []spans{nil, {span(10, 20, 1)}, wideSpans(api.MaxRows), v.list} {
			if l, e := ranges.Overlay(v.list, other); e != api.ErrArg || len(l) != 0 {
				t.Errorf("%s below: %v, %d, want ErrArg", v.name, l, e)
			}
			if l, e := ranges.Overlay(other, v.list); e != api.ErrArg || len(l) != 0 {
				t.Errorf("%s above: %v, %d, want ErrArg", v.name, l, e)
			}
		}
	}
}

func TestLimitOfOverlay(t *testing.T) {
	full, half := wideSpans(api.MaxRows), wideSpans(api.MaxRows/2)
	for _, c := range []struct {
		name string
		a, b spans
		full bool
	}{
		{"MaxRows with itself", full, full, false},
		{"two halves apart", half, moved(half, 4*len(half), 0), false},
		{"two halves apart, and one more", append(slices.Clone(half), span(9000, 9000, 0)), moved(half, 4*len(half), 0), true},
		{"each one in a gap of the other", half, spans{span(3, 3, 2)}, false},
		{"the gaps of a full list filled with its value", full, gapsOf(full, 1), false},
		{"the gaps of a full list filled with another value", full, gapsOf(full, 2), true},
		{"the gaps of a half filled with another value", half, gapsOf(half, 2), false},
		{"each span cut in three", full, cores(full), true},
		{"each span of a quarter cut in three", half[:85], cores(half[:85]), false},
		{"each span of a quarter and one more cut in three", half[:86], cores(half[:86]), true},
		{"everything covered", full, spans{span(0, api.MaxRune, 2)}, false},
		{"full above one", spans{span(0, api.MaxRune, 2)}, full, true},
		{"full above one of the same value", spans{span(0, api.MaxRune, 1)}, full, false},
		{"the next list of the same length", full, moved(full, 1, 0), false},
		{"the next list of the same length, other value", full, moved(full, 1, 1), true},
	} {
		got, e := ranges.Overlay(c.a, c.b)
		wantLimited(t, c.name, got, e, naiveOverlay(c.a, c.b), c.full)
	}
}

// moved returns l with every span moved and every value changed.
func moved(l spans, by, more int) spans {
	var result spans
	for _, s := range l {
		result = append(result, span(s.From+by, s.To+by, s.Value+more))
	}
	return result
}

// gapsOf returns spans for the code points between the spans of l.
func gapsOf(l spans, value int) spans {
	var result spans
	for i := 1; i < len(l); i++ {
		result = append(result, span(l[i-1].To+1, l[i].From-1, value))
	}
	return result
}

// cores returns the spans of l without the first and the last code point of each, and another value.
func cores(l spans) spans {
	var result spans
	for _, s := range l {
		result = append(result, span(s.From+1, s.To-1, s.Value+1))
	}
	return result
}

// Promise 2.6.
func TestCount(t *testing.T) {
	for _, v := range validLists {
		if n := ranges.Count(v.list); n != v.count {
			t.Errorf("%s: %d, want %d", v.name, n, v.count)
		}
		if n := ranges.Count(v.normal); n != v.count {
			t.Errorf("%s, normal: %d, want %d", v.name, n, v.count)
		}
	}
	for _, v := range invalidLists {
		if n := ranges.Count(v.list); n != 0 {
			t.Errorf("%s: %d, want 0", v.name, n)
		}
	}
	if n := ranges.Count(nil); n != 0 {
		t.Errorf("no spans: %d", n)
	}
}

// Every valid list on a few code points, at the beginning, within and at the end of the code points.
func TestEverySmallList(t *testing.T) {
	const width = 4
	for _, first := range []int{0, 100, api.MaxRune - width + 1} {
		lists := smallLists(first, width)
		for _, a := range lists {
			l := ranges.Normal(a)
			wantSpans(t, "Normal", l, api.OK, naiveOverlay(a, nil))
			everySmallChange(t, a, first, width)
			for _, b := range lists {
				l, e := ranges.Overlay(a, b)
				want := naiveOverlay(a, b)
				if e != api.OK || !slices.Equal(l, want) {
					t.Fatalf("Overlay(%v, %v) = %v, %d, want %v", a, b, l, e, want)
				}
			}
		}
	}
}

func everySmallChange(t *testing.T, a spans, first, width int) {
	t.Helper()
	for from := first; from < first+width; from++ {
		for to := from; to < first+width; to++ {
			if l, e := ranges.Clear(a, from, to); e != api.OK || !slices.Equal(l, naiveClear(a, from, to)) {
				t.Fatalf("Clear(%v, %d, %d) = %v, %d", a, from, to, l, e)
			}
			for value := range 4 {
				want := naiveOverlay(a, spans{span(from, to, value)})
				if l, e := ranges.Set(a, from, to, value); e != api.OK || !slices.Equal(l, want) {
					t.Fatalf("Set(%v, %d, %d, %d) = %v, %d, want %v", a, from, to, value, l, e, want)
				}
			}
		}
	}
}

// smallLists returns all valid lists on width code points with the values 1 and 2.
func smallLists(first, width int) []spans {
	lists := []spans{nil}
	for c := first; c < first+width; c++ {
		var longer []spans
		for _, l := range lists {
			longer = append(longer, l)
			for value := 1; value <= 2; value++ {
				longer = append(longer, append(slices.Clone(l), span(c, c, value)))
			}
			if n := len(l); n > 0 && l[n-1].To == c-1 {
				grown := slices.Clone(l)
				grown[n-1].To = c
				longer = append(longer, grown)
			}
		}
		lists = longer
	}
	return lists
}

// Random lists with up to MaxRows spans, compared with lists that are computed edge by edge.
func TestRandomLists(t *testing.T) {
	random := rand.New(rand.NewSource(2))
	for range 2000 {
		a, b := randomList(random), randomList(random)
		got, e := ranges.Overlay(a, b)
		want := naiveOverlay(a, b)
		wantLimited(t, "Overlay", got, e, want, len(want) > api.MaxRows)
		if len(a) > 0 {
			s := a[random.Intn(len(a))]
			from := max(0, s.From-random.Intn(3))
			to := min(api.MaxRune, max(from, s.To+random.Intn(5)-2))
			got, e = ranges.Set(a, from, to, 1)
			want = naiveOverlay(a, spans{span(from, to, 1)})
			wantLimited(t, "Set", got, e, want, len(want) > api.MaxRows)
			got, e = ranges.Clear(a, from, to)
			want = naiveClear(a, from, to)
			wantLimited(t, "Clear", got, e, want, len(want) > api.MaxRows)
		}
		for _, c := range probes(a) {
			wantFound(t, "random list", a, c)
		}
	}
}

// randomList returns a valid list whose spans are often next to each other.
func randomList(random *rand.Rand) spans {
	var l spans
	at := random.Intn(40)
	for range random.Intn(api.MaxRows + 1) {
		from := at + max(0, random.Intn(6)-2)
		to := from + random.Intn(4)
		l = append(l, span(from, to, random.Intn(3)))
		at = to + 1
	}
	return l
}

// Rule R2: neither a list nor its unused capacity is changed, and no result shares memory with it.
func TestListsAreLeftAlone(t *testing.T) {
	contents := spans{span(10, 20, 1), span(21, 30, 1), span(40, 50, 2)}
	above := spans{span(25, 45, 3), span(60, 61, 4)}
	for name, call := range map[string]func(l, other spans) spans{
		"Check":   func(l, _ spans) spans { ranges.Check(l, 0, 100); return nil },
		"Find":    func(l, _ spans) spans { ranges.Find(l, 22); return nil },
		"Count":   func(l, _ spans) spans { ranges.Count(l); return nil },
		"Normal":  func(l, _ spans) spans { return ranges.Normal(l) },
		"Set":     func(l, _ spans) spans { r, _ := ranges.Set(l, 51, 60, 2); return r },
		"Set in":  func(l, _ spans) spans { r, _ := ranges.Set(l, 15, 45, 7); return r },
		"Set out": func(l, _ spans) spans { r, _ := ranges.Set(l, 70, 80, 7); return r },
		"Clear":   func(l, _ spans) spans { r, _ := ranges.Clear(l, 45, 46); return r },
		"Clear 0": func(l, _ spans) spans { r, _ := ranges.Clear(l, 0, 0); return r },
		"Overlay": func(l, other spans) spans { r, _ := ranges.Overlay(l, other); return r },
		"Above":   func(l, other spans) spans { r, _ := ranges.Overlay(other, l); return r },
		"Only a":  func(l, _ spans) spans { r, _ := ranges.Overlay(l, nil); return r },
		"Only b":  func(l, _ spans) spans { r, _ := ranges.Overlay(nil, l); return r },
		"Itself":  func(l, _ spans) spans { r, _ := ranges.Overlay(l, l); return r },
	} {
		list, other := withCapacity(contents), withCapacity(above)
		listBefore, otherBefore := slices.Clone(list[:cap(list)]), slices.Clone(other[:cap(other)])
		result := call(list, other)
		kept := slices.Clone(result)
		again := call(list, other)
		overwrite(again[:cap(again)])
		if !slices.Equal(list[:cap(list)], listBefore) || !slices.Equal(other[:cap(other)], otherBefore) {
			t.Errorf("%s: a list became %v, %v", name, list[:cap(list)], other[:cap(other)])
		}
		overwrite(list[:cap(list)])
		overwrite(other[:cap(other)])
		if !slices.Equal(result, kept) {
			t.Errorf("%s: the result became %v, it was %v", name, result, kept)
		}
	}
}

// withCapacity returns l in memory that has room for more, which is marked.
func withCapacity(l spans) spans {
	memory := slices.Repeat(spans{span(-7, -8, -9)}, len(l)+4)
	copy(memory, l)
	return memory[:len(l)]
}

func overwrite(l spans) {
	for i := range l {
		l[i] = span(99, -99, 99)
	}
}

// wantFound compares Find with a search span by span.
func wantFound(t *testing.T, name string, l spans, c int) {
	t.Helper()
	wantValue, want := naiveFind(l, c)
	if value, found := ranges.Find(l, c); value != wantValue || found != want {
		t.Fatalf("%s: Find(%d) = %d, %t, want %d, %t", name, c, value, found, wantValue, want)
	}
}

func wantSpans(t *testing.T, name string, got spans, e api.Errno, want spans) {
	t.Helper()
	if e != api.OK || !slices.Equal(got, want) {
		t.Errorf("%s: %v, %d, want %v", name, got, e, want)
	}
}

// probes returns the edges of the spans of lists, what lies beside them, and the ends of all numbers.
func probes(lists ...spans) []int {
	numbers := []int{math.MinInt, -1, 0, 1, api.MaxRune - 1, api.MaxRune, api.MaxRune + 1, math.MaxInt}
	for _, l := range lists {
		for _, s := range l {
			numbers = append(numbers, s.From-1, s.From, s.From+1, s.To-1, s.To, s.To+1)
		}
	}
	slices.Sort(numbers)
	return slices.Compact(numbers)
}

// naiveFind asks each span. Of spans that do not overlap, at most one contains c.
func naiveFind(l spans, c int) (int, bool) {
	for _, s := range l {
		if s.From <= c && c <= s.To {
			return s.Value, true
		}
	}
	return 0, false
}

func naiveOverlay(a, b spans) spans {
	return naiveList(probes(a, b), func(c int) (int, bool) {
		if value, found := naiveFind(b, c); found {
			return value, true
		}
		return naiveFind(a, c)
	})
}

func naiveClear(l spans, from, to int) spans {
	return naiveList(probes(l, spans{span(from, to, 0)}), func(c int) (int, bool) {
		if from <= c && c <= to {
			return 0, false
		}
		return naiveFind(l, c)
	})
}

// naiveList returns the normal list with the values of valueOf, which may change only at the
// ascending numbers edges: from one of them to the number before the next one, all values are equal.
func naiveList(edges []int, valueOf func(int) (int, bool)) spans {
	var l spans
	joins := false // the code point before the edge has a value
	for i, c := range edges {
		if c < 0 || c > api.MaxRune {
			continue
		}
		value, found := valueOf(c)
		end := min(edges[i+1]-1, api.MaxRune)
		switch {
		case found && joins && l[len(l)-1].Value == value:
			l[len(l)-1].To = end
		case found:
			l = append(l, span(c, end, value))
		}
		joins = found
	}
	return l
}
