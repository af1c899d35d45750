package joiner_test

import (
	"slices"
	"strconv"
	"strings"
	"testing"

	"namedesk/api"
	"namedesk/joiner"
	"namedesk/table"
)

type (
	spans    = []api.Span
	mappings = []api.Mapping
)

const most = api.MaxRunes

// These keep the tables and lists of the tests short.
func span(from, to, value int) api.Span     { return api.Span{From: from, To: to, Value: value} }
func row(from int, to ...int) api.Mapping   { return api.Mapping{From: from, To: to} }
func repeat(c, count int) []int             { return slices.Repeat([]int{c}, count) }
func join(lists ...[]int) []int             { return slices.Concat(lists...) }
func with(l []int, at int, c int) []int     { return slices.Replace(slices.Clone(l), at, at+1, c) }
func endingWith(size int, end ...int) []int { return join(repeat(plain, size-len(end)), end) }

// Code points of the sample. The names of most begin with their joining type; what has a class says so.
const (
	zwnj = api.ZWNJ
	zwj  = api.ZWJ

	plain         = 'a'
	nonByRow      = 0x621
	nonVirama     = 0xBCD
	nonClass10    = 0x5B0
	left          = 0xA872
	leftVirama    = 0x1039
	right         = 0x627
	right2        = 0x62F
	rightMark     = 0x301
	dual          = 0x628
	dual2         = 0x62A
	dualVirama    = 0x103A
	causing       = 0x640
	transparent   = 0x64B
	transparent2  = 0x651
	transparentAD = 0xAD
	transparent7  = 0x93C
	transparent8  = 0x3099
	virama        = 0x94D
)

// joiningOf are the joining types of the sample other than NonJoining, written out a second time: the expected
// results are computed with these.
var joiningOf = map[int]int{
	left: api.LeftJoining, leftVirama: api.LeftJoining, right: api.RightJoining, right2: api.RightJoining,
	0x630: api.RightJoining, rightMark: api.RightJoining, dual: api.DualJoining, dual2: api.DualJoining, 0x62B: api.DualJoining,
	dualVirama: api.DualJoining, causing: api.JoinCausing, zwj: api.JoinCausing, transparent: api.Transparent, 0x64C: api.Transparent,
	transparent2: api.Transparent, transparentAD: api.Transparent, transparent7: api.Transparent, transparent8: api.Transparent, virama: api.Transparent,
	0xD7FF: api.DualJoining, 0xE000: api.RightJoining, api.MaxRune: api.Transparent,
}

// viramas are the code points of the sample with the class Virama.
var viramas = []int{nonVirama, leftVirama, dualVirama, virama}

// sample returns well-formed tables that also say much that has nothing to do with joiners.
func sample() api.Tables {
	return api.Tables{
		Category: spans{span(0xC0, 0xFF, api.Letter), span(0x300, 0x36F, api.Mark)},
		Class: spans{
			span(0x300, 0x302, 230), span(nonClass10, nonClass10, 10), span(transparent, transparent, 27), span(transparent7, transparent7, 7),
			span(virama, virama, api.Virama), span(nonVirama, nonVirama, api.Virama), span(leftVirama, dualVirama, api.Virama),
			span(transparent8, transparent8, 8), span(0x1D165, 0x1D165, 216),
		},
		Joining: spans{
			span(transparentAD, transparentAD, api.Transparent), span(rightMark, rightMark, api.RightJoining), span(nonByRow, nonByRow, api.NonJoining),
			span(right, right, api.RightJoining), span(dual, dual, api.DualJoining), span(dual2, 0x62B, api.DualJoining),
			span(right2, 0x630, api.RightJoining), span(causing, causing, api.JoinCausing), span(transparent, 0x64C, api.Transparent),
			span(transparent2, transparent2, api.Transparent), span(transparent7, transparent7, api.Transparent), span(virama, virama, api.Transparent),
			span(leftVirama, leftVirama, api.LeftJoining), span(dualVirama, dualVirama, api.DualJoining), span(zwj, zwj, api.JoinCausing),
			span(transparent8, transparent8, api.Transparent), span(left, left, api.LeftJoining), span(0xD7FF, 0xD7FF, api.DualJoining),
			span(0xE000, 0xE000, api.RightJoining), span(api.MaxRune, api.MaxRune, api.Transparent),
		},
		Bidi:   spans{span(0x300, 0x36F, api.BidiNSM), span(0x621, 0x64A, api.BidiAL)},
		Script: spans{span(0xC0, 0xFF, api.Latin), span(0x300, 0x36F, api.Inherited), span(0x621, 0x64A, api.Arabic)},
		Status: spans{
			span(transparentAD, transparentAD, api.Ignored), span(0xC9, 0xC9, api.Mapped), span(0xE9, 0xE9, api.Valid),
			span(right, right, api.Ignored), span(zwnj, zwj, api.Deviation),
		},
		Ignorable:  spans{span(transparentAD, transparentAD, 1), span(zwnj, zwj, 1)},
		Extensions: mappings{row(causing, api.Arabic, 13)},
		Maps:       mappings{row(0xC9, 0xE9)},
		Decomps:    mappings{row(0xC9, 'E', rightMark), row(0xE9, 'e', rightMark), row(0x623, right, 0x302), row(0x929, 0x928, transparent7)},
		Excluded:   []int{0x929},
		Prototypes: mappings{row('m', 'r', 'n'), row(dual2, dual)},
	}
}

// violating returns tables that violate a rule of chapter 4, and none before it.
func violating(rule int) api.Tables {
	t := sample()
	switch rule {
	case 1:
		t.Bidi = nil
		for i := range api.MaxRows + 1 {
			t.Bidi = append(t.Bidi, span(0xE0000+i, 0xE0000+i, api.BidiR))
		}
	case 2:
		t.Joining = slices.Insert(t.Joining, 0, span(plain, plain, api.DualJoining))
	case 3:
		t.Joining[0].Value = api.Transparent + 1
	case 4:
		t.Maps[0].To = nil
	case 5:
		t.Maps[0].To = []int{'A'}
	case 6:
		t.Decomps[0].To = []int{0xC9}
	case 7:
		t.Excluded = []int{0xEA}
	case 8:
		t.Decomps = append(t.Decomps, row(api.MaxRune, 'e', rightMark))
	case 9:
		t.Prototypes[0].To[0] = 0xE9
	}
	return t
}

// shown returns a list for a message, in hexadecimal and without most of a long one.
func shown(l []int) string {
	var b strings.Builder
	for i, c := range l {
		if i == 24 {
			b.WriteString(" .. (" + strconv.Itoa(len(l)) + " elements)")
			break
		}
		b.WriteString(" " + strconv.FormatInt(int64(c), 16))
	}
	return "[" + b.String() + " ]"
}

// wantNeighbours compares the results of Left and Right.
func wantNeighbours(t *testing.T, name string, tables api.Tables, l []int, i, wantLeft, wantRight int) {
	t.Helper()
	if got := joiner.Left(tables, l, i); got != wantLeft {
		t.Errorf("%s: Left(%s, %d) = %d, want %d", name, shown(l), i, got, wantLeft)
	}
	if got := joiner.Right(tables, l, i); got != wantRight {
		t.Errorf("%s: Right(%s, %d) = %d, want %d", name, shown(l), i, got, wantRight)
	}
}

// wantPermitted compares the result of Permitted.
func wantPermitted(t *testing.T, name string, tables api.Tables, l []int, i int, want bool) {
	t.Helper()
	if got := joiner.Permitted(tables, l, i); got != want {
		t.Errorf("%s: Permitted(%s, %d) = %t", name, shown(l), i, got)
	}
}

// wantCheck compares the results of Check.
func wantCheck(t *testing.T, name string, tables api.Tables, l []int, wantAt int, want api.Errno) {
	t.Helper()
	if at, e := joiner.Check(tables, l); at != wantAt || e != want {
		t.Errorf("%s: Check(%s) = %d, %d, want %d, %d", name, shown(l), at, e, wantAt, want)
	}
}

// wantExactly compares the results of Permitted for all indices, and of Check, for a list in which exactly the
// elements with these indices are not permitted.
func wantExactly(t *testing.T, name string, tables api.Tables, l []int, not ...int) {
	t.Helper()
	for i := range l {
		wantPermitted(t, name, tables, l, i, !slices.Contains(not, i))
	}
	if len(not) == 0 {
		wantCheck(t, name, tables, l, 0, api.OK)
	} else {
		wantCheck(t, name, tables, l, not[0], api.ErrJoiner)
	}
}

// wantNoElement compares the results of all functions that take an index for one that has no element, or in a
// list for which order.Order has an error.
func wantNoElement(t *testing.T, name string, tables api.Tables, l []int, i int) {
	t.Helper()
	wantNeighbours(t, name, tables, l, i, -1, -1)
	wantPermitted(t, name, tables, l, i, false)
}

// wantRefused compares the results of all functions for a list for which order.Order has an error.
func wantRefused(t *testing.T, name string, tables api.Tables, l []int, want api.Errno) {
	t.Helper()
	wantCheck(t, name, tables, l, 0, want)
	for _, i := range []int{-1, 0, 1, 2, len(l) / 2, len(l) - 2, len(l) - 1, len(l)} {
		wantNoElement(t, name, tables, l, i)
	}
}

func TestTablesOfTheTests(t *testing.T) {
	tables := sample()
	if rule := table.Check(tables); rule != 0 {
		t.Errorf("Check = %d", rule)
	}
	for rule := 1; rule <= 9; rule++ {
		if got := table.Check(violating(rule)); got != rule {
			t.Errorf("Check of the tables that violate rule %d = %d", rule, got)
		}
	}
	for c := range api.MaxRune + 1 {
		if got := table.Joining(tables, c); got != joiningOf[c] {
			t.Errorf("Joining(%#x) = %d, want %d", c, got, joiningOf[c])
		}
		if got := table.Class(tables, c) == api.Virama; got != slices.Contains(viramas, c) {
			t.Errorf("the class of %#x is Virama: %t", c, got)
		}
	}
}
