package stream_test

import (
	"math"
	"slices"
	"testing"

	"namedesk/api"
	"namedesk/compose"
	"namedesk/stream"
)

// wantNoStream compares the results of New with an error.
func wantNoStream(t *testing.T, name string, tables api.Tables, most int, want api.Errno) {
	t.Helper()
	if s, e := stream.New(tables, most); s != nil || e != want {
		t.Errorf("%s: New with most %d = %v, %d, want nil, %d", name, most, s, e, want)
	}
}

// mostOutOfBounds are numbers of code points that a stream cannot be permitted to hold.
var mostOutOfBounds = []int{0, -1, -2, -32, 33, 34, 64, 256 + 1, 1<<32 + 1, 1 - 1<<32, api.MaxRunes, math.MaxInt32, math.MinInt32, math.MaxInt, math.MinInt, math.MinInt + 1}

func TestNew(t *testing.T) {
	for most := 1; most <= mostHeld; most++ {
		for _, tables := range []api.Tables{{}, sample()} {
			s := newStream(t, tables, most)
			wantHeld(t, "a new stream", s, 0)
			wantEnd(t, "a new stream", s)
			wantPush(t, "a new stream", s, 'a', nil, 1)
		}
	}
}

func TestNewErrRange(t *testing.T) {
	for _, most := range mostOutOfBounds {
		wantNoStream(t, "no tables", api.Tables{}, most, api.ErrRange)
		wantNoStream(t, "sample", sample(), most, api.ErrRange)
	}
}

func TestNewErrTable(t *testing.T) {
	for rule := 1; rule <= lastRule; rule++ {
		for _, most := range []int{1, 2, 16, mostHeld} {
			wantNoStream(t, "violating", violating(rule), most, api.ErrTable)
		}
		for _, most := range mostOutOfBounds {
			wantNoStream(t, "violating, and most is out of its bounds", violating(rule), most, api.ErrTable)
		}
	}
	endless := api.Tables{Decomps: mappings{mapping(0xE8, 0xE9, 'a'), mapping(0xE9, 0xE8, 'b')}}
	wantNoStream(t, "endless", endless, 1, api.ErrTable)
	wantNoStream(t, "endless, and most is out of its bounds", endless, 0, api.ErrTable)
}

// The example of the chapter, with the tables of the examples of chapter 8.
func TestExample(t *testing.T) {
	tables := api.Tables{Class: spans{{From: 0x301, To: 0x301, Value: 230}}, Decomps: mappings{mapping(0xE9, 0x65, 0x301)}}
	s := newStream(t, tables, 2)
	wantPush(t, "example", s, 0x65, nil, 1)
	wantPush(t, "example", s, 0x301, nil, 2)
	wantPush(t, "example", s, 0x62, []int{0xE9}, 1)
	wantEnd(t, "example", s, 0x62)
}

// Each row is a list, and what Push returns for each of its elements and End for all of it.
func TestPush(t *testing.T) {
	for _, row := range []struct {
		name string
		l    []int
		want [][]int
	}{
		{"nothing", nil, [][]int{{}}},
		{"a letter", []int{'a'}, [][]int{{}, {'a'}}},
		{"letters", []int{'x', 'y', 'z'}, [][]int{{}, {'x'}, {'y'}, {'z'}}},
		{"a mark", []int{acute230}, [][]int{{}, {acute230}}},
		{"a mark before a letter", []int{acute230, 'e'}, [][]int{{}, {acute230}, {'e'}}},
		{"marks before a letter are ordered", []int{acute230, below220, cover1, 'e'}, [][]int{{}, {}, {}, {cover1, below220, acute230}, {'e'}}},
		{"a letter and a mark", []int{'e', acute230}, [][]int{{}, {}, {0xE9}}},
		{"a letter and marks out of order", []int{'e', hat230, below220}, [][]int{{}, {}, {}, {0x1EC7}}},
		{"a mark goes between a letter and its mark", []int{0xE9, below220}, [][]int{{}, {}, {0x1EB9, acute230}}},
		{"blocked", []int{'e', ring230, acute230, 'x'}, [][]int{{}, {}, {}, {'e', ring230, acute230}, {'x'}}},
		{"not blocked", []int{'e', cover1, acute230, 'x'}, [][]int{{}, {}, {}, {0xE9, cover1}, {'x'}}},
		{"several letters with marks", []int{'e', acute230, 'e', grave230, 'e'}, [][]int{{}, {}, {0xE9}, {}, {0xE8}, {'e'}}},
		{"composed already", []int{0xE9, 0xE8}, [][]int{{}, {0xE9}, {0xE8}}},
		{"one for one", []int{0x2126, 0x212B}, [][]int{{}, {0x3A9}, {0xC5}}},
		{"excluded", []int{0x958, 'h'}, [][]int{{}, {0x915, nukta7}, {'h'}}},
		{"an excluded pair is not composed", []int{'g', 'h'}, [][]int{{}, {'g'}, {'h'}}},
		{"a second element of class 0", []int{'c', 'b', 'b', 'x'}, [][]int{{}, {}, {}, {threeLetters}, {'x'}}},
		{"a second element that composes with nothing", []int{'x', 'b', 'x'}, [][]int{{}, {}, {'x', 'b'}, {'x'}}},
		{"a decomposition that begins with a second element", []int{'c', secondFirst, 'x'}, [][]int{{}, {}, {twoLetters, diaer230}, {'x'}}},
		{"a second element takes its place", []int{'c', secondAlone}, [][]int{{}, {}, {twoLetters}}},
		{"the same code point", []int{'d', 'd', 'd', 'x'}, [][]int{{}, {}, {}, {twice, 'd'}, {'x'}}},
		{"a decomposition of it", []int{'d', twice, 'f'}, [][]int{{}, {}, {}, {twice, 'd', 'f'}}},
		{"no class, but a mark takes its place", []int{'e', hat230, markOf0, 'e'}, [][]int{{}, {}, {}, {0x1EC7}, {'e'}}},
		{"a decomposition that begins with a mark", []int{'e', markFirst, 'e'}, [][]int{{}, {}, {0x1EB9, 'a'}, {'e'}}},
		{"a decomposition of another begins with a mark", []int{'e', markFirst2, 'e'}, [][]int{{}, {}, {0x1EB9, 'a', 'a'}, {'e'}}},
		{"a class, but a letter begins it", []int{'e', twinOf220, below220}, [][]int{{}, {'e'}, {}, {0x1EB9, acute230}}},
		{"jamo", []int{0x1100, 0x1161, 0x11A8, 0x1100, 0x1161}, [][]int{{}, {}, {}, {0xAC01}, {}, {0xAC00}}},
		{"a syllable and a trailing consonant", []int{0xAC00, 0x11A8, 0xAC01}, [][]int{{}, {}, {0xAC01}, {0xAC01}}},
		{"a trailing consonant too many", []int{0xAC01, 0x11A8, 'a'}, [][]int{{}, {}, {0xAC01, 0x11A8}, {'a'}}},
		{"a vowel and a trailing consonant alone", []int{0x1161, 0x11A8, 'a'}, [][]int{{}, {}, {0x1161, 0x11A8}, {'a'}}},
		{"a vowel behind a letter", []int{'a', 0x1161, 'a'}, [][]int{{}, {}, {'a', 0x1161}, {'a'}}},
		{"leading consonants", []int{0x1100, 0x1100, 0x1161}, [][]int{{}, {0x1100}, {}, {0xAC00}}},
		{"the first and the last code point", []int{0, 0x10FFFF, iota240, 0}, [][]int{{}, {0}, {}, {0x10FFFE}, {0}}},
	} {
		s := newStream(t, sample(), mostHeld)
		held := 0
		for i, c := range row.l {
			if held++; isBoundary(c) {
				held = 1
			}
			wantPush(t, row.name, s, c, row.want[i], held)
		}
		wantEnd(t, row.name, s, row.want[len(row.l)]...)
	}
}

// A boundary takes the place of what is held: of nothing, of one code point, and of most.
func TestPushOfBoundaries(t *testing.T) {
	for most := 1; most <= mostHeld; most++ {
		for _, c := range []int{'a', 'e', 0, 0xE9, 0x374, 0x958, 0x1100, 0xAC00, 0xAC01, twinOf220, twoLetters, 0x10FFFF} {
			for _, marks := range []int{0, 1, most - 1} {
				s := newStream(t, sample(), most)
				wantPush(t, "into a stream that holds none", s, c, nil, 1)
				if marks >= most {
					continue
				}
				wantPushes(t, "marks", s, repeat(lonelyMark, marks)...)
				want, _ := compose.NFC(sample(), join([]int{c}, repeat(lonelyMark, marks)))
				wantPush(t, "into a stream that holds some", s, 'x', want, 1)
				wantPush(t, "into a stream that holds one", s, c, []int{'x'}, 1)
				one, _ := compose.NFC(sample(), []int{c})
				wantEnd(t, "the boundary only", s, one...)
			}
		}
	}
}

// reasons are code points that are no boundaries, one for each reason.
var reasons = []int{acute230, lonelyMark, cover1, iota240, 0x340, 0x344, markOf0, markFirst, markFirst2, 'b', 'd', secondAlone, secondFirst, secondFirst2, secondFirst3, twice, 0x1161, 0x1175, 0x11A8, 0x11C2}

// A stream that holds most code points refuses one more that is no boundary, whether a boundary begins it
// or not, and goes on as if nothing had been pushed.
func TestErrFull(t *testing.T) {
	for most := 1; most <= mostHeld; most++ {
		for _, c := range reasons {
			for _, first := range []int{'x', c} {
				s := newStream(t, sample(), most)
				l := join([]int{first}, repeat(c, most-1))
				wantPushes(t, "until it is full", s, l...)
				for range 3 {
					wantRefused(t, "full", s, c, api.ErrFull)
					wantRefused(t, "full", s, reasons[most%len(reasons)], api.ErrFull)
				}
				want, _ := compose.NFC(sample(), l)
				wantPush(t, "a boundary into a full stream", s, 'y', want, 1)
				wantEnd(t, "behind a full stream", s, 'y')
			}
		}
	}
}

// What is held after an error is what End returns, too, and there is room again after End.
func TestErrFullAndEnd(t *testing.T) {
	s := newStream(t, sample(), 3)
	wantPushes(t, "marks", s, 'e', hat230, below220)
	wantRefused(t, "full", s, acute230, api.ErrFull)
	wantEnd(t, "full", s, 0x1EC7)
	wantPushes(t, "marks again", s, acute230, acute230, below220)
	wantRefused(t, "full again", s, below220, api.ErrFull)
	wantEnd(t, "full again", s, below220, acute230, acute230)
	wantPushes(t, "a letter", s, 'e')
	wantEnd(t, "a letter", s, 'e')
}

// The number of code points that are held counts, not that of their NFD or NFC.
func TestErrFullCountsWhatIsHeld(t *testing.T) {
	s := newStream(t, sample(), 2)
	wantPushes(t, "long NFD", s, markOnLetters, marksOf0)
	wantRefused(t, "long NFD", s, below220, api.ErrFull)
	wantEnd(t, "long NFD", s, markOnLetters, below220, acute230)
	wantPushes(t, "short NFC", s, 'e', acute230)
	wantRefused(t, "short NFC", s, acute230, api.ErrFull)
	wantPushes(t, "still short NFC", newStream(t, sample(), 3), 'e', below220, hat230)
	wantEnd(t, "short NFC", s, 0xE9)
}

func TestMostOfOne(t *testing.T) {
	s := newStream(t, sample(), 1)
	wantPush(t, "a letter", s, 'e', nil, 1)
	wantRefused(t, "a mark behind a letter", s, acute230, api.ErrFull)
	wantPush(t, "a letter behind a letter", s, 'x', []int{'e'}, 1)
	wantEnd(t, "a letter", s, 'x')
	wantPush(t, "a mark", s, acute230, nil, 1)
	wantRefused(t, "a mark behind a mark", s, acute230, api.ErrFull)
	wantRefused(t, "a vowel behind a mark", s, 0x1161, api.ErrFull)
	wantPush(t, "a letter behind a mark", s, 'e', []int{acute230}, 1)
	wantPush(t, "a syllable", s, 0xAC00, []int{'e'}, 1)
	wantRefused(t, "a trailing consonant", s, 0x11A8, api.ErrFull)
	wantPush(t, "a decomposition", s, 0x958, []int{0xAC00}, 1)
	wantEnd(t, "a decomposition", s, 0x915, nukta7)
}

func TestMostOfThirtyTwo(t *testing.T) {
	s := newStream(t, sample(), mostHeld)
	wantPushes(t, "all", s, join([]int{'e'}, repeat(below220b, mostHeld-2), []int{acute230})...)
	wantRefused(t, "one more", s, below220, api.ErrFull)
	wantRefused(t, "one more vowel", s, 0x1161, api.ErrFull)
	wantPush(t, "a boundary", s, 'e', join([]int{0xE9}, repeat(below220b, mostHeld-2)), 1)
	wantPushes(t, "again", s, repeat('b', mostHeld-1)...)
	wantRefused(t, "one more again", s, 'b', api.ErrFull)
	wantEnd(t, "again", s, join([]int{'e'}, repeat('b', mostHeld-1))...)
}

func TestErrRange(t *testing.T) {
	for _, c := range notScalar {
		for _, most := range []int{1, 2, mostHeld} {
			s := newStream(t, sample(), most)
			wantRefused(t, "nothing is held", s, c, api.ErrRange)
			wantEnd(t, "nothing is held", s)
			wantPush(t, "a letter", s, 'e', nil, 1)
			wantRefused(t, "a letter is held", s, c, api.ErrRange)
			wantPushes(t, "marks", s, repeat(acute230, most-1)...)
			wantRefused(t, "it is full", s, c, api.ErrRange)
			want, _ := compose.NFC(sample(), join([]int{'e'}, repeat(acute230, most-1)))
			wantPush(t, "a boundary", s, 'x', want, 1)
			wantEnd(t, "a boundary", s, 'x')
			wantRefused(t, "after End", s, c, api.ErrRange)
		}
		s := newStream(t, api.Tables{}, 1)
		wantRefused(t, "no tables", s, c, api.ErrRange)
		wantPushes(t, "no tables", s, 0x1161)
		wantRefused(t, "no tables, and it is full", s, c, api.ErrRange)
	}
}

func TestEndOfNothing(t *testing.T) {
	s := newStream(t, sample(), 2)
	for range 3 {
		wantEnd(t, "nothing", s)
	}
	wantPushes(t, "a letter and a mark", s, 'e', acute230)
	wantEnd(t, "a letter and a mark", s, 0xE9)
	for range 3 {
		wantEnd(t, "nothing again", s)
	}
}

// After End, nothing that was pushed before has an effect any more.
func TestUseAfterEnd(t *testing.T) {
	s := newStream(t, sample(), 3)
	wantPushes(t, "first", s, 'e')
	wantEnd(t, "first", s, 'e')
	wantPushes(t, "the mark of a letter that is gone", s, acute230)
	wantEnd(t, "the mark of a letter that is gone", s, acute230)
	wantPushes(t, "a leading consonant", s, 0x1100)
	wantEnd(t, "a leading consonant", s, 0x1100)
	wantPushes(t, "a vowel", s, 0x1161, 0x11A8)
	wantPush(t, "behind a vowel", s, 0x1100, []int{0x1161, 0x11A8}, 1)
	wantPushes(t, "a vowel", s, 0x1161, 0x11A8)
	wantRefused(t, "full", s, 0x11A8, api.ErrFull)
	wantEnd(t, "a syllable", s, 0xAC01)
	wantPush(t, "after a syllable", s, 'x', nil, 1)
	wantPush(t, "after a syllable", s, 'y', []int{'x'}, 1)
	wantEnd(t, "after a syllable", s, 'y')
}

func TestHeld(t *testing.T) {
	s := newStream(t, sample(), 4)
	for range 3 {
		wantHeld(t, "it changes nothing", s, 0)
	}
	wantPushes(t, "marks", s, 'e', acute230, below220)
	for range 3 {
		wantHeld(t, "it changes nothing", s, 3)
	}
	wantEnd(t, "marks", s, 0x1EB9, acute230)
}

// As many code points as possible are held, with decompositions as long as possible.
func TestLongestDecompositions(t *testing.T) {
	tables, last := rows()
	first := last + 1
	// A mark and all but the last element of the longest decomposition: that is no boundary, and as long.
	tables.Decomps = slices.Delete(tables.Decomps, 0, 2)
	tables.Decomps = append(tables.Decomps, mapping(first, 0xD0001, last-1), mapping(first+1, first))
	tables.Class = spans{{From: 0xD0001, To: 0xD0001, Value: 254}}
	s := newStream(t, tables, mostHeld)
	wantPush(t, "a boundary", s, last, nil, 1)
	wantPushes(t, "no boundaries", s, repeat(first+1, mostHeld-1)...)
	wantRefused(t, "one more", s, first+1, api.ErrFull)
	want, e := compose.NFC(tables, join([]int{last}, repeat(first+1, mostHeld-1)))
	if len(want) != 1+2*(mostHeld-1) || e != api.OK {
		t.Errorf("NFC = %#x, %d", want, e)
	}
	wantPush(t, "a boundary", s, last, want, 1)
	wantEnd(t, "a boundary", s, last)
}

// The limits of a sequence are not those of a stream.
func TestLongStream(t *testing.T) {
	tables := api.Tables{Class: spans{{From: 0x301, To: 0x301, Value: 230}}, Decomps: mappings{mapping(0xE9, 0x65, 0x301)}}
	s := newStream(t, tables, 2)
	var all []int
	const count = 2*api.MaxRunes + 1
	for range count {
		for _, c := range []int{'e', acute230} {
			l, e := s.Push(c)
			if e != api.OK {
				t.Fatalf("Push = %d", e)
			}
			all = append(all, l...)
		}
	}
	if all = append(all, s.End()...); !slices.Equal(all, repeat(0xE9, count)) {
		t.Errorf("%d code points", len(all))
	}
}

// Streams of the same and of other tables do not disturb each other.
func TestTwoStreams(t *testing.T) {
	other := api.Tables{Class: spans{{From: acute230, To: acute230, Value: 230}}, Decomps: mappings{mapping(0x3042, 'e', acute230)}}
	first, second, third := newStream(t, sample(), 3), newStream(t, sample(), 2), newStream(t, other, 3)
	for range 3 {
		wantPush(t, "first", first, 'e', nil, 1)
		wantPush(t, "second", second, 'c', nil, 1)
		wantPush(t, "third", third, 'e', nil, 1)
		wantPush(t, "first", first, acute230, nil, 2)
		wantPush(t, "second", second, 'b', nil, 2)
		wantPush(t, "third", third, acute230, nil, 2)
		wantPush(t, "first", first, below220, nil, 3)
		wantRefused(t, "second", second, below220, api.ErrFull)
		wantPush(t, "third", third, 'b', []int{0x3042}, 1)
		wantRefused(t, "first", first, below220, api.ErrFull)
		wantRefused(t, "second", second, -1, api.ErrRange)
		wantEnd(t, "second", second, twoLetters)
		wantHeld(t, "first", first, 3)
		wantHeld(t, "third", third, 1)
		wantEnd(t, "first", first, 0x1EB9, acute230)
		wantEnd(t, "second", second)
		wantEnd(t, "third", third, 'b')
	}
}
