package joiner_test

import (
	"slices"
	"testing"

	"namedesk/api"
)

// Promises 14.2 and 14.3: the examples of the chapter, and number 5 of DOC.md.
func TestExamples(t *testing.T) {
	for _, tables := range []api.Tables{{}, sample()} {
		wantExactly(t, "ZWJ as the first element", tables, []int{zwj}, 0)
		wantExactly(t, "ZWJ as the first element", tables, []int{zwj, dual}, 0)
	}
	wantExactly(t, "ZWNJ between two that are DualJoining", sample(), []int{0x628, zwnj, 0x628})
	wantExactly(t, "ZWJ behind a virama", sample(), []int{0x915, 0x94D, zwj})
	wantExactly(t, "ZWJ nowhere else", sample(), []int{0x94D, 0x915, zwj}, 2)
}

// Promises 14.2 and 14.3: elements that are not permitted, written out by hand.
func TestPermitted(t *testing.T) {
	for _, row := range []struct {
		name string
		l    []int
		not  []int
	}{
		{"no code points", nil, nil},
		{"no joiners", []int{plain, dual, transparent, virama, rightMark, 0x200B, 0x200E, 0x2060}, nil},
		{"ZWNJ alone", []int{zwnj}, []int{0}},
		{"ZWJ alone", []int{zwj}, []int{0}},
		{"ZWNJ first", []int{zwnj, dual}, []int{0}},
		{"ZWNJ last", []int{dual, zwnj}, []int{1}},
		{"ZWJ last", []int{dual, zwj}, []int{1}},

		{"ZWNJ behind a virama", []int{plain, virama, zwnj, plain}, nil},
		{"ZWJ behind a virama", []int{plain, virama, zwj, plain}, nil},
		{"ZWNJ behind a virama, last", []int{virama, zwnj}, nil},
		{"ZWJ behind a virama, last", []int{virama, zwj}, nil},
		{"a virama that is NonJoining", []int{nonVirama, zwnj, nonVirama, zwj}, nil},
		{"a virama that is LeftJoining", []int{leftVirama, zwnj, leftVirama, zwj}, nil},
		{"a virama that is DualJoining", []int{dualVirama, zwnj, dualVirama, zwj}, nil},
		{"ZWNJ before a virama", []int{plain, zwnj, virama}, []int{1}},
		{"ZWJ before a virama", []int{plain, zwj, virama}, []int{1}},
		{"ZWNJ not directly behind a virama", []int{virama, plain, zwnj}, []int{2}},
		{"ZWJ not directly behind a virama", []int{virama, plain, zwj}, []int{2}},
		{"ZWNJ behind a virama and what is Transparent", []int{virama, transparent, zwnj}, []int{2}},
		{"ZWJ behind a virama and what is Transparent", []int{virama, transparent, zwj}, []int{2}},
		{"behind a virama that Order would put directly before it", []int{plain, virama, transparent7, zwj}, []int{3}},
		{"behind a virama that Order would not put there", []int{plain, 0x302, virama, zwj, 0x302, virama, zwnj}, nil},
		{"a second joiner behind a virama", []int{virama, zwj, zwj, virama, zwnj, zwnj}, []int{2, 5}},
		{"ZWNJ behind ZWJ behind a virama", []int{virama, zwj, zwnj}, []int{2}},
		{"ZWJ behind ZWNJ behind a virama", []int{virama, zwnj, zwj}, []int{2}},
		{"ZWNJ before ZWJ behind a virama", []int{zwnj, virama, zwj}, []int{0}},
		{"behind a mark of the class before", []int{transparent8, zwnj, transparent8, zwj}, []int{1, 3}},
		{"behind a mark of the class behind", []int{nonClass10, zwnj, nonClass10, zwj}, []int{1, 3}},
		{"behind a mark of another class", []int{transparent7, zwj, 0x302, zwj, transparent, zwnj}, []int{1, 3, 5}},

		{"ZWNJ between two that join", []int{dual, zwnj, dual2}, nil},
		{"the same with Transparent before it", []int{dual, transparent, zwnj, right}, nil},
		{"the same with Transparent behind it", []int{left, zwnj, transparent, transparent2, right}, nil},
		{"the same with Transparent on both sides", []int{left, transparent8, transparent2, zwnj, transparent, dual}, nil},
		{"the same with viramas that are Transparent between", []int{dual, virama, transparent, zwnj, virama, right}, nil},
		{"ZWJ between two that join", []int{dual, zwj, dual}, []int{1}},
		{"ZWJ between two that join with Transparent on both sides", []int{dual, transparent, zwj, transparent, right}, []int{2}},
		{"ZWJ between two that join, behind a virama", []int{dual, virama, zwj, dual}, nil},
		{"ZWJ between two that join, not directly behind a virama", []int{dual, virama, transparent, zwj, dual}, []int{3}},
		{"ZWJ between two that join, behind a virama that joins", []int{dualVirama, zwj, dualVirama}, nil},

		{"Left does not exist", []int{zwnj, right}, []int{0}},
		{"Left does not exist, behind what is Transparent", []int{transparent, transparent, zwnj, transparent, right}, []int{2}},
		{"Right does not exist", []int{left, zwnj}, []int{1}},
		{"Right does not exist, before what is Transparent", []int{left, transparent, zwnj, transparent}, []int{2}},
		{"neither exists", []int{transparent, zwnj, transparent2}, []int{1}},
		{"what joins comes too far before it", []int{dual, plain, zwnj, right}, []int{2}},
		{"what joins comes too far behind it", []int{dual, zwnj, plain, right}, []int{1}},
		{"the other way round", []int{right, zwnj, left}, []int{1}},
	} {
		wantExactly(t, row.name, sample(), row.l, row.not...)
	}
}

// Promises 14.2 and 14.3: joiners that are next to each other, or neighbours behind what is Transparent.
func TestJoinersNextToEachOther(t *testing.T) {
	for _, row := range []struct {
		name string
		l    []int
		not  []int
	}{
		{"two ZWNJ", []int{dual, zwnj, zwnj, dual}, []int{1, 2}},
		{"two ZWJ", []int{dual, zwj, zwj, dual}, []int{1, 2}},
		{"ZWNJ before ZWJ", []int{dual, zwnj, zwj, dual}, []int{1, 2}},
		{"ZWJ before ZWNJ", []int{dual, zwj, zwnj, dual}, []int{1, 2}},
		{"two ZWNJ with Transparent between", []int{dual, zwnj, transparent, zwnj, dual}, []int{1, 3}},
		{"two ZWNJ with a virama between", []int{dual, zwnj, virama, zwnj, dual}, []int{1}},
		{"two ZWNJ with a letter between", []int{dual, zwnj, dual, zwnj, dual}, nil},
		{"two ZWNJ with one between that joins to the right only", []int{dual, zwnj, right, zwnj, dual}, []int{3}},
		{"two ZWNJ with one between that joins to the left only", []int{dual, zwnj, left, zwnj, dual}, []int{1}},
		{"ZWNJ, and ZWJ behind the next one", []int{dual, zwnj, dual, zwj, dual}, []int{3}},
		{"only joiners", []int{zwj, zwnj, zwj, zwnj}, []int{0, 1, 2, 3}},
	} {
		wantExactly(t, row.name, sample(), row.l, row.not...)
	}
}

// pairsThatJoin are the joining types of the elements between which ZWNJ is permitted.
var pairsThatJoin = [][2]int{
	{api.LeftJoining, api.RightJoining}, {api.LeftJoining, api.DualJoining}, {api.DualJoining, api.RightJoining}, {api.DualJoining, api.DualJoining},
}

// Promises 14.2 and 14.3: joiners between elements of each two joining types, with up to two Transparent ones on
// either side.
func TestEachTwoJoiningTypes(t *testing.T) {
	const before, behind = 0x1234, 0x2345
	for first := range api.Transparent + 1 {
		for second := range api.Transparent + 1 {
			tables := api.Tables{Joining: spans{
				span(transparent, transparent, api.Transparent), span(before, before, first), span(behind, behind, second),
			}}
			wantsJoining := slices.Contains(pairsThatJoin, [2]int{first, second})
			for sizes := range 9 {
				l := join([]int{before}, repeat(transparent, sizes/3), []int{zwnj}, repeat(transparent, sizes%3), []int{behind})
				at := 1 + sizes/3
				var not []int
				if !wantsJoining {
					not = []int{at}
				}
				wantExactly(t, "ZWNJ", tables, l, not...)
				wantExactly(t, "ZWNJ between others", tables, join([]int{plain, plain}, l, []int{plain}), shifted(not, 2)...)
				wantExactly(t, "ZWJ", tables, with(l, at, zwj), at)
				wantExactly(t, "no joiner", tables, with(l, at, 0x200B))
			}
		}
	}
}

// shifted returns l with each element greater by n.
func shifted(l []int, n int) []int {
	var s []int
	for _, i := range l {
		s = append(s, i+n)
	}
	return s
}

// Promise 14.2: Transparent elements between, and those that join behind them.
func TestBeyondTransparentElements(t *testing.T) {
	for _, first := range []int{left, dual, plain, right, causing} {
		for _, second := range []int{right, dual, plain, left, causing} {
			l := []int{first, transparent, transparent7, zwnj, transparent2, second}
			var not []int
			if !slices.Contains([]int{left, dual}, first) || !slices.Contains([]int{right, dual}, second) {
				not = []int{3}
			}
			wantExactly(t, "Transparent ones between", sample(), l, not...)
		}
	}
}

// Promise 14.2: each class directly before a joiner.
func TestEachClass(t *testing.T) {
	const c = 0x1234
	for class := 1; class <= 254; class++ {
		tables := api.Tables{Class: spans{span(c, c, class)}}
		for _, which := range []int{zwnj, zwj} {
			var not []int
			if class != 9 {
				not = []int{2}
			}
			wantExactly(t, "each class", tables, []int{plain, c, which, c}, not...)
			wantExactly(t, "not directly", tables, []int{c, plain, which, c}, 2)
		}
	}
	for _, which := range []int{zwnj, zwj} {
		wantExactly(t, "class 0", api.Tables{}, []int{plain, c, which, c}, 2)
	}
}

// Promises 14.1 to 14.3: joiners with properties that the tables give them.
func TestPropertiesOfJoiners(t *testing.T) {
	tables := sample()
	tables.Class = append(tables.Class, span(zwnj, zwnj, api.Virama))
	slices.SortFunc(tables.Class, func(a, b api.Span) int { return a.From - b.From })
	wantExactly(t, "ZWNJ has the class Virama", tables, []int{virama, zwnj, zwnj, zwj, zwj}, 4)
	wantExactly(t, "ZWNJ has the class Virama itself", tables, []int{zwnj, zwj}, 0)

	ofType := func(c, joining int) api.Tables {
		return api.Tables{Joining: spans{span(dual, dual, api.DualJoining), span(c, c, joining)}}
	}
	wantExactly(t, "ZWNJ is Transparent", ofType(zwnj, api.Transparent), []int{dual, zwnj, zwnj, zwnj, dual})
	wantExactly(t, "ZWNJ is Transparent, and nothing joins", ofType(zwnj, api.Transparent), []int{dual, zwnj, zwnj, plain}, 1, 2)
	wantExactly(t, "ZWJ is Transparent", ofType(zwj, api.Transparent), []int{dual, zwj, zwnj, zwj, dual}, 1, 3)
	wantExactly(t, "ZWNJ is DualJoining", ofType(zwnj, api.DualJoining), []int{zwnj, zwnj, zwnj}, 0, 2)
	wantExactly(t, "ZWNJ is DualJoining, between others", ofType(zwnj, api.DualJoining), []int{dual, zwnj, zwnj, dual})
	wantExactly(t, "ZWJ is DualJoining", ofType(zwj, api.DualJoining), []int{zwj, zwnj, zwj}, 0, 2)
	wantExactly(t, "ZWNJ is LeftJoining", ofType(zwnj, api.LeftJoining), []int{dual, zwnj, zwnj, dual}, 1)
	wantExactly(t, "ZWNJ is RightJoining", ofType(zwnj, api.RightJoining), []int{dual, zwnj, zwnj, dual}, 2)
	wantExactly(t, "ZWJ is JoinCausing", ofType(zwj, api.JoinCausing), []int{dual, zwj, zwnj, zwj, dual}, 1, 2, 3)
}

// Promises 14.2 and 14.3: of all code points, only ZWNJ and ZWJ need a permission.
func TestEachCodePoint(t *testing.T) {
	for _, tables := range []api.Tables{{}, sample()} {
		var l []int
		for c := range api.MaxRune + 1 {
			isSurrogate := c >= 0xD800 && c <= 0xDFFF
			if !isSurrogate && c != zwnj && c != zwj {
				l = append(l, c)
			}
			if len(l) == most || c == api.MaxRune {
				wantCheck(t, "no joiners", tables, l, 0, api.OK)
				wantCheck(t, "no joiners but the last one", tables, with(l, len(l)-1, zwj), len(l)-1, api.ErrJoiner)
				l = nil
			}
		}
	}
	for c := range 0x3000 {
		if c == zwnj || c == zwj {
			wantExactly(t, "a joiner", api.Tables{}, []int{c}, 0)
		} else {
			wantExactly(t, "no joiner", api.Tables{}, []int{c})
		}
	}
}

// Promise 14.2 and the consequences of the chapter: what stands around ZWJ, other than directly before it, does
// not matter.
func TestWhatStandsAroundZWJ(t *testing.T) {
	among := []int{plain, left, right, dual, causing, transparent, virama, dualVirama, zwnj, zwj, 0x302}
	for _, before := range among {
		want := slices.Contains(viramas, before)
		wantPermitted(t, "alone", sample(), []int{before, zwj}, 1, want)
		for _, first := range among {
			for _, behind := range among {
				l := []int{first, dual, before, zwj, behind, right}
				wantPermitted(t, "among others", sample(), l, 3, want)
			}
		}
	}
}
