package valid_test

import (
	"math"
	"slices"
	"testing"

	"namedesk/api"
)

// notScalar are numbers that are no scalar values.
var notScalar = []int{
	0xD800, 0xD801, 0xDBFF, 0xDC00, 0xDFFE, 0xDFFF, api.MaxRune + 1, 0x110000 + plain, -1, -plain, -hyph, plain + 1<<32, hyph - 1<<32, stop + 1<<32,
	math.MaxInt32, math.MinInt32, math.MaxInt - 1, math.MaxInt, math.MinInt, math.MinInt + plain,
}

// labelsOfEachResult are labels that order.Order accepts, with each result of Check.
var labelsOfEachResult = []sampleLabel{
	{"valid", []int{plain}, api.OK},
	{"valid, with several elements", []int{ka, virama, zwj, el, middleDot, el, hyph, acuteE}, api.OK},
	{"valid, and as long as possible", repeat(plain, most), api.OK},
	{"one that is replaced", []int{singleton}, api.ErrNormal},
	{"marks that are not in order", []int{plain, acute, below, plain}, api.ErrNormal},
	{"a normalization form D that is too long", repeat(acuteE, most), api.ErrNormal},
	{"a hyphen", []int{hyph}, api.ErrHyphen},
	{"two hyphens", []int{plain, plain, hyph, hyph, plain}, api.ErrHyphen},
	{"a mark", []int{mark0}, api.ErrMark},
	{"a mark before letters", []int{acute, plain, plain}, api.ErrMark},
	{"a full stop", []int{plain, stop, plain}, api.ErrStatus},
	{"a status", []int{refused}, api.ErrStatus},
	{"a joiner", []int{plain, zwj}, api.ErrJoiner},
	{"only joiners", repeat(zwnj, most), api.ErrJoiner},
	{"a context", []int{middleDot}, api.ErrContext},
	{"digits of both kinds", []int{plain, arabic0, extended0}, api.ErrContext},
}

func TestLabelsOfEachResult(t *testing.T) {
	wantLabels(t, sample(), labelsOfEachResult)
}

// Promise 17.2: numbers that are no scalar values, wherever they are and whatever else is wrong.
func TestErrRange(t *testing.T) {
	for _, row := range labelsOfEachResult {
		for _, c := range notScalar {
			for _, at := range []int{0, len(row.l) / 2, len(row.l) - 1} {
				wantCheck(t, row.name+", in place of one", sample(), with(row.l, at, c), api.ErrRange)
			}
			if len(row.l) < most {
				wantCheck(t, row.name+", before it", sample(), join([]int{c}, row.l), api.ErrRange)
				wantCheck(t, row.name+", behind it", sample(), join(row.l, []int{c}), api.ErrRange)
			}
		}
	}
	for _, c := range notScalar {
		wantCheck(t, "alone, no tables", api.Tables{}, []int{c}, api.ErrRange)
		wantCheck(t, "behind a letter, no tables", api.Tables{}, []int{plain, c}, api.ErrRange)
	}
}

// Promise 17.2: labels with more than MaxRunes elements, whatever else is wrong.
func TestErrFull(t *testing.T) {
	for _, size := range []int{most + 1, most + 2, 2 * most, 1 << 16} {
		for _, c := range []int{plain, hyph, stop, acuteE, singleton, mark0, refused, zwj, middleDot, -1, 0xD800, math.MaxInt} {
			for _, tables := range []api.Tables{{}, sample()} {
				wantCheck(t, "too long", tables, repeat(c, size), api.ErrFull)
			}
			wantCheck(t, "too long, and it first", sample(), with(repeat(plain, size), 0, c), api.ErrFull)
			wantCheck(t, "too long, and it last", sample(), endingWith(size, c), api.ErrFull)
		}
	}
	for _, row := range labelsOfEachResult {
		wantCheck(t, row.name+", before too many", sample(), join(row.l, repeat(plain, most)), api.ErrFull)
		wantCheck(t, row.name+", behind too many", sample(), join(repeat(plain, most), row.l), api.ErrFull)
	}
}

// Promise 17.2 and rule R8: tables that are not well-formed, whatever the label is.
func TestErrTable(t *testing.T) {
	labels := [][]int{nil, {}, {-1}, {plain, 0xD800}, repeat(plain, most+1), repeat(-1, most+1), repeat(singleton, most+1)}
	for _, row := range labelsOfEachResult {
		labels = append(labels, row.l)
	}
	for _, l := range labels {
		for rule := 1; rule <= 9; rule++ {
			wantCheck(t, "tables that are not well-formed", violating(rule), l, api.ErrTable)
		}
	}
}

// Promise 17.2 and rule R8: each list of tables that is not well-formed alone.
func TestEachListThatIsNotWellFormed(t *testing.T) {
	const c = 0x1234
	wrong := spans{span(c, c, -1)}
	for _, row := range []struct {
		name   string
		tables api.Tables
	}{
		{"a category below 0", api.Tables{Category: wrong}},
		{"a category that there is not", api.Tables{Category: spans{span(c, c, api.Control+1)}}},
		{"a category of a letter of ASCII", api.Tables{Category: spans{span(plain, plain, api.Mark)}}},
		{"a class", api.Tables{Class: wrong}},
		{"class 0", api.Tables{Class: spans{span(c, c, 0)}}},
		{"a joining type", api.Tables{Joining: wrong}},
		{"a Bidi class", api.Tables{Bidi: wrong}},
		{"a script", api.Tables{Script: wrong}},
		{"a status below 0", api.Tables{Status: wrong}},
		{"a status of a full stop", api.Tables{Status: spans{span(stop, stop, api.Disallowed)}}},
		{"a status of a syllable", api.Tables{Status: spans{span(syllable, syllable, api.Disallowed)}}},
		{"statuses over each other", api.Tables{Status: spans{span(c, c+2, api.Valid), span(c+2, c+3, api.Valid)}}},
		{"what is Mapped to nothing", api.Tables{Status: spans{span(c, c, api.Mapped)}}},
		{"ignorable code points", api.Tables{Ignorable: wrong}},
		{"extensions", api.Tables{Extensions: mappings{row(c)}}},
		{"mappings without a status", api.Tables{Maps: mappings{row(c, plain)}}},
		{"a decomposition without end", api.Tables{Decomps: mappings{row(c, c)}}},
		{"a decomposition with a full stop", api.Tables{Decomps: mappings{row(c, plain, stop)}}},
		{"two decompositions with the same elements", api.Tables{Decomps: mappings{row(c, 'e', acute), row(c+1, 'e', acute)}}},
		{"what is excluded without a decomposition", api.Tables{Excluded: []int{c}}},
		{"prototypes", api.Tables{Prototypes: mappings{row(c, c)}}},
	} {
		for _, l := range [][]int{nil, {plain}, {hyph}, {stop}, {c}, {'e', acute}, {plain, zwj}, {middleDot}, {0xD800}} {
			wantCheck(t, row.name, row.tables, l, api.ErrTable)
		}
	}
}

// inner are what is wrong with a label in its middle, in the order of the errors.
var inner = []sampleLabel{
	{"normalization form C", []int{singleton}, api.ErrNormal},
	{"a status", []int{refused}, api.ErrStatus},
	{"a joiner", []int{zwj}, api.ErrJoiner},
	{"a context", []int{middleDot}, api.ErrContext},
}

// everyOrder returns the elements of each subset of l in each order.
func everyOrder[T any](l []T) [][]T {
	all := [][]T{nil}
	for i := range l {
		for _, rest := range everyOrder(slices.Delete(slices.Clone(l), i, i+1)) {
			all = append(all, append([]T{l[i]}, rest...))
		}
	}
	return all
}

// hyphensAround are ways in which hyphens stand in a label of at least four elements behind its first one, and whether
// they are permitted. Each gets what stands between.
var hyphensAround = []struct {
	name string
	put  func(first, middle []int) []int
	want bool
}{
	{"no hyphen", func(first, middle []int) []int { return join(first, middle, codes("bcd")) }, true},
	{"the second one", func(first, middle []int) []int { return join(first, []int{hyph}, middle, codes("bcd")) }, true},
	{"the last one", func(first, middle []int) []int { return join(first, middle, codes("bc-")) }, false},
	{"the third and the fourth one", func(first, middle []int) []int { return join(first, codes("b--"), middle, codes("c")) }, false},
	{"the first one", func(first, middle []int) []int { return join(codes("-"), first, middle, codes("b")) }, false},
}

// Promise 17.2: every combination of errors, in every order in which they can stand in a label. The first one of the
// list of the chapter is returned.
func TestOrderOfErrors(t *testing.T) {
	tables, counts := sample(), map[api.Errno]int{}
	for _, flaws := range everyOrder(inner) {
		var middle []int
		errors := map[api.Errno]bool{}
		for _, flaw := range flaws {
			middle = join(middle, []int{plain}, flaw.l)
			errors[flaw.want] = true
		}
		for _, first := range []int{plain, mark0, acute, virama, refusedMark, ignoredMark} {
			for _, way := range hyphensAround {
				l := way.put([]int{first}, join(middle, []int{plain}))
				has := map[api.Errno]bool{
					api.ErrNormal: errors[api.ErrNormal],
					api.ErrHyphen: !way.want,
					api.ErrMark:   first != plain && l[0] == first,
					api.ErrStatus: errors[api.ErrStatus] || first == refusedMark || first == ignoredMark,
					api.ErrJoiner: errors[api.ErrJoiner], api.ErrContext: errors[api.ErrContext],
				}
				want := api.OK
				for _, e := range []api.Errno{api.ErrContext, api.ErrJoiner, api.ErrStatus, api.ErrMark, api.ErrHyphen, api.ErrNormal} {
					if has[e] {
						want = e
					}
				}
				counts[want]++
				wantCheck(t, way.name, tables, l, want)
				wantCheck(t, way.name+", and a number last", tables, join(l, []int{-1}), api.ErrRange)
				wantCheck(t, way.name+", and a number first", tables, join([]int{0xD800}, l), api.ErrRange)
				wantCheck(t, way.name+", and its length", tables, join(l, repeat(plain, most)), api.ErrFull)
				wantCheck(t, way.name+", and tables", violating(9), l, api.ErrTable)
			}
		}
	}
	for _, e := range []api.Errno{api.OK, api.ErrNormal, api.ErrHyphen, api.ErrMark, api.ErrStatus, api.ErrJoiner, api.ErrContext} {
		if counts[e] == 0 {
			t.Errorf("no label with the result %d", e)
		}
	}
}

// Promise 17.2: each pair of neighbours in the list of the errors, in short labels written out by hand.
func TestPairsOfErrors(t *testing.T) {
	wantCheck(t, "tables and the length", violating(1), repeat(plain, most+1), api.ErrTable)
	wantCheck(t, "tables and a number", violating(1), []int{-1}, api.ErrTable)
	wantCheck(t, "tables and the empty label", violating(1), nil, api.ErrTable)
	wantLabels(t, sample(), []sampleLabel{
		{"the length and a number", repeat(-1, most+1), api.ErrFull},
		{"a number and normalization", []int{singleton, -1}, api.ErrRange},
		{"a number and a hyphen", []int{hyph, -1}, api.ErrRange},
		{"a number and a mark", []int{mark0, -1}, api.ErrRange},
		{"a number and a status", []int{stop, -1}, api.ErrRange},
		{"a number and a joiner", []int{zwj, -1}, api.ErrRange},
		{"a number and a context", []int{middleDot, -1}, api.ErrRange},
		{"normalization and a hyphen", []int{hyph, singleton}, api.ErrNormal},
		{"normalization and a hyphen, the other way round", []int{singleton, hyph}, api.ErrNormal},
		{"a hyphen that would be composed", []int{hyph, slash}, api.ErrNormal},
		{"normalization and a mark", []int{acute, below}, api.ErrNormal},
		{"normalization and a mark that would be composed", []int{mark0, acute}, api.ErrNormal},
		{"normalization and a status", []int{refused, singleton}, api.ErrNormal},
		{"normalization and a status that would be replaced", []int{'E', acute}, api.ErrNormal},
		{"normalization and a status of jamo", []int{leading, vowel}, api.ErrNormal},
		{"normalization and a joiner", []int{zwj, singleton}, api.ErrNormal},
		{"normalization and a context", []int{middleDot, singleton}, api.ErrNormal},
		{"a hyphen and a mark", []int{mark0, hyph}, api.ErrHyphen},
		{"hyphens and a mark", []int{mark0, plain, hyph, hyph, plain}, api.ErrHyphen},
		{"a hyphen and a status", []int{refused, hyph}, api.ErrHyphen},
		{"a hyphen and a full stop", []int{hyph, stop}, api.ErrHyphen},
		{"a hyphen and a joiner", []int{zwj, hyph}, api.ErrHyphen},
		{"a hyphen and a context", []int{middleDot, hyph}, api.ErrHyphen},
		{"a mark and its status", []int{ignoredMark}, api.ErrMark},
		{"a mark and a status", []int{mark0, refused}, api.ErrMark},
		{"a mark and a full stop", []int{acute, stop}, api.ErrMark},
		{"a mark and a joiner", []int{mark0, zwj}, api.ErrMark},
		{"a mark and a context", []int{mark0, middleDot}, api.ErrMark},
		{"a status and a joiner", []int{zwj, refused}, api.ErrStatus},
		{"a status and a joiner, the other way round", []int{refused, zwj}, api.ErrStatus},
		{"a full stop and a joiner", []int{plain, zwnj, stop}, api.ErrStatus},
		{"a status and a context", []int{middleDot, refused}, api.ErrStatus},
		{"a full stop and a context", []int{stop, middleDot}, api.ErrStatus},
		{"a joiner and a context", []int{middleDot, zwj}, api.ErrJoiner},
		{"a joiner and a context, the other way round", []int{zwj, middleDot}, api.ErrJoiner},
		{"a joiner and digits", []int{arabic0, extended0, zwnj}, api.ErrJoiner},
	})
}

// Promise 17.2: each error in each of its places in labels of MaxRunes elements, and of one less.
func TestLongLabels(t *testing.T) {
	for _, size := range []int{most - 1, most} {
		l := repeat(plain, size)
		wantCheck(t, "only letters", sample(), l, api.OK)
		for _, at := range []int{0, 1, 2, size / 2, size - 2, size - 1} {
			isFirst, isLast := at == 0, at == size-1
			wantCheck(t, "normalization", sample(), with(l, at, singleton), api.ErrNormal)
			wantCheck(t, "a hyphen", sample(), with(l, at, hyph), okUnless(isFirst || isLast, api.ErrHyphen))
			wantCheck(t, "a mark", sample(), with(l, at, mark0), okUnless(isFirst, api.ErrMark))
			wantCheck(t, "a status", sample(), with(l, at, refused), api.ErrStatus)
			wantCheck(t, "a full stop", sample(), with(l, at, stop), api.ErrStatus)
			wantCheck(t, "a Deviation", sample(), with(l, at, deviation), api.OK)
			wantCheck(t, "a joiner", sample(), with(l, at, zwj), api.ErrJoiner)
			wantCheck(t, "a context", sample(), with(l, at, middleDot), api.ErrContext)
			wantCheck(t, "a digit", sample(), with(l, at, arabic0), api.OK)
			for _, other := range []int{0, 1, size / 2, size - 1} {
				if other == at {
					continue
				}
				wantCheck(t, "digits of both kinds", sample(), with(with(l, at, arabic9), other, extended9), api.ErrContext)
				wantCheck(t, "a context that is far away", sample(), with(with(l, at, katakanaDot), other, han), api.OK)
			}
		}
		wantCheck(t, "hyphens", sample(), with(with(l, 2, hyph), 3, hyph), api.ErrHyphen)
		wantCheck(t, "joiners behind viramas", sample(), join(times([]int{viramaLetter, zwj}, size/2), repeat(plain, size%2)), api.OK)
		wantCheck(t, "only syllables of two jamo", sample(), join(repeat(syllable, size/2-1), repeat(plain, size%2)), api.OK)
		wantCheck(t, "marks that are in order", sample(), join([]int{plain}, repeat(below, size/2), repeat(acute, size-size/2-1)), api.OK)
		wantCheck(t, "marks that are not in order", sample(), join([]int{plain}, repeat(below, size-3), []int{acute, below}), api.ErrNormal)
	}
}

// Promise 17.2: a label is not in normalization form C if its normalization form D has more than MaxRunes elements.
func TestNormalizationFormDOfLongLabels(t *testing.T) {
	for _, row := range []sampleLabel{
		{"exactly as long as possible", endingWith(most-1, acuteE), api.OK},
		{"one too many", endingWith(most, acuteE), api.ErrNormal},
		{"exactly as long as possible, one of three", endingWith(most-2, roofAcuteE), api.OK},
		{"one too many, one of three", endingWith(most-1, roofAcuteE), api.ErrNormal},
		{"only composed letters, as many as possible", repeat(acuteE, most/2), api.OK},
		{"only composed letters, one more", repeat(acuteE, most/2+1), api.ErrNormal},
		{"one too many with a letter", join(repeat(acuteE, most/2), []int{plain}), api.ErrNormal},
		{"syllables of two jamo, as many as possible", repeat(syllable, most/2), api.OK},
		{"syllables of two jamo, one more", repeat(syllable, most/2+1), api.ErrNormal},
		{"syllables of three jamo, as many as possible", join(repeat(syllable3, most/3), repeat(plain, most%3)), api.OK},
		{"syllables of three jamo, one more", repeat(syllable3, most/3+1), api.ErrNormal},
		{"too long, and a hyphen", join([]int{hyph}, repeat(acuteE, most/2)), api.ErrNormal},
		{"too long, and a status", join(repeat(acuteE, most/2), []int{stop}), api.ErrNormal},
		{"exactly as long as possible, and a hyphen", join([]int{hyph, plain}, repeat(acuteE, most/2-1)), api.ErrHyphen},
	} {
		wantCheck(t, row.name, sample(), row.l, row.want)
	}
	wantCheck(t, "no decompositions", api.Tables{Status: spans{span(acuteE, acuteE, api.Valid)}}, repeat(acuteE, most), api.OK)
}
