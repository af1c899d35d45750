package mapping_test

import (
	"math"
	"slices"
	"testing"

	"namedesk/api"
)

// notScalar are numbers that are no scalar values.
var notScalar = []int{
	0xD800, 0xD801, 0xDBFF, 0xDC00, 0xDFFE, 0xDFFF, api.MaxRune + 1, 0x110000 + 'a', 0x110000 + deviation, -1, -'A', -deviation,
	'A' + 1<<32, deviation + 1<<32, toTwo - 1<<32, math.MaxInt32, math.MinInt32, math.MaxInt - 1, math.MaxInt, math.MinInt, math.MinInt + 'A',
}

// Promise 13.1: the index of the first Disallowed code point is that of l, whatever stands before and behind it.
func TestErrStatus(t *testing.T) {
	for _, row := range []struct {
		name string
		l    []int
		at   int
	}{
		{"alone", []int{refused}, 0},
		{"by a row", []int{refusedByRow}, 0},
		{"first", []int{refused, 'a', valid}, 0},
		{"in the middle", []int{'a', refused, 'b'}, 1},
		{"last", []int{'a', 'b', refused}, 2},
		{"twice", []int{'a', refused, 'b', refused}, 1},
		{"twice next to each other", []int{'a', 'b', refused, refused}, 2},
		{"two different ones", []int{'a', ' ', refused}, 1},
		{"two different ones the other way", []int{'a', refused, ' '}, 1},
		{"only Disallowed ones", []int{refused, ' ', refusedByRow, 0x1100}, 0},
		{"behind one that is ignored", []int{ignored, refused}, 1},
		{"behind several that are ignored", []int{ignored, 'a', ignored, ignoredMark, refused, 'b'}, 4},
		{"behind one that is mapped to one", []int{toOne, refused}, 1},
		{"behind one that is mapped to two", []int{toTwo, refused}, 1},
		{"behind one that is mapped to MaxMap", []int{'a', toEighteen, refused, toTwo}, 2},
		{"behind several that are mapped to several", []int{toThree, toTwo, toThree, refused, toThree}, 3},
		{"behind one that is mapped and one that is ignored", []int{toTwo, ignored, refused}, 2},
		{"behind a capital letter", []int{'A', 'B', ' '}, 2},
		{"behind a Deviation", []int{deviation, joiner, refused, deviation}, 2},
		{"before what is ignored or mapped", []int{'a', refused, ignored, toTwo}, 1},
		{"a mark behind one of a greater class", []int{'a', above230, refusedMark}, 2},
		{"a mark before one of a smaller class", []int{'a', refusedMark, ignoredMark, devMark}, 1},
		{"two marks that are not in order", []int{0x302, refusedMark}, 0},
		{"jamo of a syllable", []int{0xAC00, 0x1100, 0x1161}, 1},
		{"between two spans", []int{0xF6, 0xF8, 0xF7}, 2},
	} {
		wantError(t, row.name, sample(), row.l, row.at, api.ErrStatus)
	}
}

// Promise 13.1: a Disallowed code point at each index, among code points of each status.
func TestErrStatusAtEachIndex(t *testing.T) {
	among := []int{'a', ignored, toTwo, deviation, 'B', toEighteen, ignoredMark, toOne, above230, below220, toDeviation, '.'}
	for at := range among {
		for _, c := range []int{refused, refusedByRow, refusedMark, 0, ' ', '_', 0x7F, 0x1161} {
			l := with(among, at, c)
			wantError(t, "one", sample(), l, at, api.ErrStatus)
			for later := at + 1; later < len(l); later++ {
				wantError(t, "a later one", sample(), with(l, later, refused), at, api.ErrStatus)
			}
		}
	}
}

// Promise 13.1: results of exactly MaxRunes elements. With one code point more, the list or only its result is too
// long.
func TestLongestResults(t *testing.T) {
	for _, row := range []struct {
		name    string
		l, want []int
	}{
		{"letters", repeat('a', most), repeat('a', most)},
		{"capital letters", repeat('A', most), repeat('a', most)},
		{"Deviations", repeat(deviation, most), repeat(deviation, most)},
		{"one for one", repeat(toOne, most), repeat(valid, most)},
		{"one for two", repeat(toTwo, most/2), times(codes("ij"), most/2)},
		{"one for three", join(repeat(toThree, most/3), repeat('x', most%3)), join(times(codes("ffi"), most/3), repeat('x', most%3))},
		{"one for eighteen", join(repeat('x', most%18), repeat(toEighteen, most/18)), join(repeat('x', most%18), times(eighteen, most/18))},
		{"only the first one", join([]int{toTwo}, repeat('x', most-2)), join(codes("ij"), repeat('x', most-2))},
		{"only the last one", endingWith(most-1, toTwo), endingWith(most, 'i', 'j')},
		{"only one of eighteen", endingWith(most-17, toEighteen), endingWith(most, eighteen...)},
		{"one of eighteen first", join([]int{toEighteen}, repeat('x', most-18)), join(eighteen, repeat('x', most-18))},
		{"half is ignored, before", join(repeat(ignored, most/2), repeat(toTwo, most/2)), times(codes("ij"), most/2)},
		{"half is ignored, behind", join(repeat(toTwo, most/2), repeat(ignored, most/2)), times(codes("ij"), most/2)},
		{"half is ignored, between", times([]int{ignored, toTwo}, most/2), times(codes("ij"), most/2)},
	} {
		if len(row.want) != most {
			t.Errorf("%s: %d elements", row.name, len(row.want))
		}
		wantMap(t, row.name, sample(), row.l, row.want)
		for _, more := range []int{'x', 'X', toOne, toTwo, deviation} {
			wantError(t, row.name+", one before it", sample(), join([]int{more}, row.l), 0, api.ErrFull)
			wantError(t, row.name+", one behind it", sample(), join(row.l, []int{more}), 0, api.ErrFull)
		}
		if len(row.l) < most {
			wantMap(t, row.name+", an ignored one before it", sample(), join([]int{ignored}, row.l), row.want)
			wantMap(t, row.name+", an ignored one behind it", sample(), join(row.l, []int{ignored}), row.want)
		}
	}
}

// Promise 13.1: the result is too long, and the list is not.
func TestResultIsTooLong(t *testing.T) {
	for _, row := range []struct {
		name string
		l    []int
	}{
		{"one for two, one more than half", repeat(toTwo, most/2+1)},
		{"one for two", repeat(toTwo, most)},
		{"one for three", repeat(toThree, most/3+1)},
		{"one for eighteen", repeat(toEighteen, most/18+1)},
		{"one for eighteen, as often as possible", repeat(toEighteen, most)},
		{"only the first one", join([]int{toTwo}, repeat('a', most-1))},
		{"only one in the middle", with(repeat('a', most), most/2, toTwo)},
		{"only the last one", endingWith(most, toTwo)},
		{"one more than the ignored ones", with(times([]int{toTwo, ignored}, most/2), 1, 'a')},
		{"one more than the ignored ones, behind them", with(join(repeat(ignored, most/2), repeat(toTwo, most/2)), 0, 'a')},
		{"one for two of Deviations", endingWith(most, deviation, toTwo, deviation)},
	} {
		if len(row.l) > most {
			t.Errorf("%s: %d elements", row.name, len(row.l))
		}
		wantError(t, row.name, sample(), row.l, 0, api.ErrFull)
	}
}

// Promises 13.1 and 13.2: a list is too long whatever its result is.
func TestListIsTooLong(t *testing.T) {
	for _, size := range []int{most + 1, most + 2, 2 * most, 1 << 16} {
		for _, c := range []int{'a', 'A', valid, ignored, deviation, toOne, toTwo, refused, ' ', above230} {
			for _, tables := range []api.Tables{{}, sample()} {
				wantRefused(t, "too long", tables, repeat(c, size), api.ErrFull)
			}
		}
		wantRefused(t, "all but one are ignored", sample(), with(repeat(ignored, size), size/2, deviation), api.ErrFull)
	}
}

// Promises 13.1 and 13.2: numbers that are no scalar values, at the index 0 whatever theirs is.
func TestErrRange(t *testing.T) {
	lists := [][]int{
		{'x'}, {'a', 'B', deviation}, {ignored, deviation, toTwo}, {deviation, above230, below220}, repeat(deviation, most), repeat(ignored, most),
	}
	for _, l := range lists {
		for _, c := range notScalar {
			for _, at := range []int{0, len(l) / 2, len(l) - 1} {
				wantRefused(t, "not a scalar value", sample(), with(l, at, c), api.ErrRange)
			}
		}
	}
	for _, c := range notScalar {
		wantRefused(t, "not a scalar value, no tables", api.Tables{}, []int{'a', c}, api.ErrRange)
	}
}

// Promises 13.1 and 13.2: tables that are not well-formed, whatever the list is.
func TestErrTable(t *testing.T) {
	lists := [][]int{
		nil, {}, {'a'}, {'A'}, {deviation}, {deviation, joiner}, {ignored}, {toOne}, {toEighteen, 0xB5}, {refused}, {'a', 0xD800}, {-1},
		repeat(deviation, most), repeat(toTwo, most), repeat('a', most+1), repeat(-1, most+1), repeat(refused, most),
	}
	for _, l := range lists {
		for rule := 1; rule <= 9; rule++ {
			wantRefused(t, "tables that are not well-formed", violating(rule), l, api.ErrTable)
		}
	}
}

// Promises 13.1 and 13.2: tables whose Status and Maps do not fit each other.
func TestStatusAndMapsDoNotFit(t *testing.T) {
	mapped := spans{span(0x100, 0x101, api.Mapped)}
	for _, row := range []struct {
		name   string
		tables api.Tables
	}{
		{"nothing is mapped to", api.Tables{Status: mapped}},
		{"one of a span is missing", api.Tables{Status: mapped, Maps: mappings{row(0x101, 'a')}}},
		{"one without a status", api.Tables{Maps: mappings{row(0x100, 'a')}}},
		{"one that is Valid", api.Tables{Status: spans{span(0x100, 0x100, api.Valid)}, Maps: mappings{row(0x100, 'a')}}},
		{"mapped to no code points", api.Tables{Status: mapped, Maps: mappings{row(0x100), row(0x101, 'a')}}},
		{"mapped to too many", api.Tables{Status: mapped, Maps: mappings{row(0x100, repeat('a', api.MaxMap+1)...), row(0x101, 'a')}}},
		{"mapped to itself", api.Tables{Status: mapped, Maps: mappings{row(0x100, 0x100), row(0x101, 'a')}}},
		{"mapped to each other", api.Tables{Status: mapped, Maps: mappings{row(0x100, 0x101), row(0x101, 0x100)}}},
		{"mapped to a capital letter", api.Tables{Status: mapped, Maps: mappings{row(0x100, 'A'), row(0x101, 'a')}}},
		{"mapped to a space", api.Tables{Status: mapped, Maps: mappings{row(0x100, ' '), row(0x101, 'a')}}},
		{"mapped to what is ignored", api.Tables{Status: append(spans{span(0xAD, 0xAD, api.Ignored)}, mapped...), Maps: mappings{row(0x100, 0xAD), row(0x101, 'a')}}},
		{"mapped to a surrogate", api.Tables{Status: mapped, Maps: mappings{row(0x100, 0xD800), row(0x101, 'a')}}},
		{"not ascending", api.Tables{Status: mapped, Maps: mappings{row(0x101, 'a'), row(0x100, 'a')}}},
		{"a status of a letter", api.Tables{Status: spans{span('A', 'A', api.Mapped)}, Maps: mappings{row('A', 'b')}}},
		{"spans over each other", api.Tables{Status: spans{span(0x80, 0x90, api.Valid), span(0x90, 0xA0, api.Ignored)}}},
		{"a status that there is not", api.Tables{Status: spans{span(0x80, 0x90, 5)}}},
	} {
		for _, l := range [][]int{nil, {'a'}, {0x80}, {0x100}, {0x101, 0x100}, {' '}, {0xD800}} {
			wantRefused(t, row.name, row.tables, l, api.ErrTable)
		}
	}
}

// Promise 13.1: several errors at once. Each one comes before those behind it, wherever in the list it is.
func TestOrderOfErrors(t *testing.T) {
	flaws := []struct {
		c int
		e api.Errno
	}{{-1, api.ErrRange}, {0xD800, api.ErrRange}, {refused, api.ErrStatus}, {' ', api.ErrStatus}, {'a', api.ErrFull}}
	indices := []int{0, 1, most / 2, most - 2, most - 1}
	for i, first := range flaws {
		for _, second := range flaws[i:] {
			for _, at := range indices {
				for _, other := range indices {
					if at == other {
						continue
					}
					// Without a flaw, this list has a result that is too long.
					l := with(with(repeat(toTwo, most), other, second.c), at, first.c)
					wantAt := 0
					if first.e == api.ErrStatus {
						wantAt = at
					}
					if first.e == api.ErrStatus && second.e == api.ErrStatus {
						wantAt = min(at, other)
					}
					wantError(t, "two flaws", sample(), l, wantAt, first.e)
					wantRefused(t, "two flaws of a list that is too long", sample(), join(l, []int{'a'}), api.ErrFull)
				}
			}
		}
	}
}

// Promise 13.1: a status before a result that is too long, also if the limit is passed long before.
func TestStatusBeforeTheLengthOfTheResult(t *testing.T) {
	for _, filling := range []int{toTwo, toThree, toEighteen} {
		for _, at := range []int{0, 1, most / 18, most/18 + 1, most/2 - 1, most / 2, most/2 + 1, most - 1} {
			wantError(t, "a result that is too long", sample(), with(repeat(filling, most), at, refused), at, api.ErrStatus)
		}
		size := most/2 + 1
		wantError(t, "the last one of a shorter list", sample(), with(repeat(filling, size), size-1, refused), size-1, api.ErrStatus)
	}
	wantError(t, "one more than fits, and then a status", sample(), endingWith(most, toTwo, refused), most-1, api.ErrStatus)
	wantError(t, "a status and then one more than fits", sample(), endingWith(most, refused, toTwo), most-2, api.ErrStatus)
}

// Promise 13.2: what is wrong for order.Order comes before Deviations, and what is wrong for Map alone does not.
func TestDeviationsOfListsWithErrors(t *testing.T) {
	l := []int{deviation, 'a', deviation}
	for _, c := range notScalar {
		for _, at := range []int{0, 1, 2, 3} {
			wantDeviations(t, "a number", sample(), slices.Insert(slices.Clone(l), at, c))
		}
	}
	wantDeviations(t, "too long", sample(), repeat(deviation, most+1))
	wantDeviations(t, "a status", sample(), join(l, []int{refused}), 0, 2)
	wantDeviations(t, "a result that is too long", sample(), join(l, repeat(toTwo, most-3)), 0, 2)
	for rule := 1; rule <= 9; rule++ {
		wantDeviations(t, "tables that are not well-formed", violating(rule), l)
	}
}
