package bidi_test

import (
	"math"
	"slices"
	"testing"

	"namedesk/api"
)

// notScalar are numbers that are no scalar values.
var notScalar = []int{
	0xD800, 0xD801, 0xDBFF, 0xDC00, 0xDFFE, 0xDFFF, api.MaxRune + 1, 0x110000 + alef, 0x110000 + 'a', -1, -'a', -alef, alef + 1<<32, alef - 1<<32,
	'a' + 1<<32, math.MaxInt32, math.MinInt32, math.MaxInt - 1, math.MaxInt, math.MinInt, math.MinInt + alef,
}

// textsWithoutErrors are texts of labels that order.Order accepts, RTL and not, with and without a violation.
var textsWithoutErrors = []string{"L", "LE", "R", "RN", "E", "RL", "LO", "REN", "LX", "N", "M", "AMM"}

// Promises 16.1 to 16.3: numbers that are no scalar values, wherever they are.
func TestErrRange(t *testing.T) {
	lists := append(labels(textsWithoutErrors), repeat(alef, most), repeat('1', most))
	for _, l := range lists {
		for _, c := range notScalar {
			for _, at := range []int{0, len(l) / 2, len(l) - 1} {
				wantRefused(t, "not a scalar value", sample(), with(l, at, c), api.ErrRange)
			}
			if len(l) < most {
				wantRefused(t, "not a scalar value, at the end", sample(), join(l, []int{c}), api.ErrRange)
				wantRefused(t, "not a scalar value, at the beginning", sample(), join([]int{c}, l), api.ErrRange)
			}
		}
	}
	for _, c := range notScalar {
		wantRefused(t, "not a scalar value, no tables", api.Tables{}, []int{'a', c}, api.ErrRange)
		wantRefused(t, "only one, no tables", api.Tables{}, []int{c}, api.ErrRange)
	}
}

// Promises 16.1 to 16.3: labels that are too long, and the longest one that is not.
func TestErrFull(t *testing.T) {
	for _, size := range []int{most + 1, most + 2, 2 * most, 1 << 16} {
		for i := range letters {
			for _, tables := range []api.Tables{{}, sample()} {
				wantRefused(t, "too long", tables, repeat(pointsOf(letters[i])[0], size), api.ErrFull)
			}
		}
		wantRefused(t, "too long", sample(), longLabel(size, "RL"), api.ErrFull)
	}
	l := repeat(alef, most)
	wantRTL(t, "as long as it may be", sample(), l, true)
	wantRule(t, "as long as it may be", sample(), l, 0)
	wantDomain(t, "as long as it may be", sample(), [][]int{l}, 0, api.OK)
	wantRefused(t, "one before it", sample(), join([]int{alef}, l), api.ErrFull)
	wantRefused(t, "one behind it", sample(), join(l, []int{alef}), api.ErrFull)
	wantRule(t, "as long as it may be, with a violation", sample(), longLabel(most, "R"), 5)
	wantRefused(t, "longer, with a violation", sample(), longLabel(most+1, "R"), api.ErrFull)
}

// Promises 16.1 to 16.3 and rule R8: tables that are not well-formed, whatever the label is.
func TestErrTable(t *testing.T) {
	lists := append(labels(textsWithoutErrors), nil, []int{}, []int{alef, 0xD800}, []int{-1}, repeat(alef, most), repeat(alef, most+1), repeat(-1, most+1))
	for _, l := range lists {
		for rule := 1; rule <= 9; rule++ {
			wantRefused(t, "tables that are not well-formed", violating(rule), l, api.ErrTable)
		}
	}
}

// Promise 16.3 and rule R8: tables that are not well-formed, whatever the labels are. None are needed.
func TestErrTableOfDomain(t *testing.T) {
	for rule := 1; rule <= 9; rule++ {
		for _, all := range [][][]int{
			nil, {}, {nil}, {{}, {}}, labels(textsWithoutErrors), labels(many("L", 200)), {{-1}, {0xD800}}, {label("L"), repeat(alpha, most+1)}, {label("R"), label("L"), {-1}},
		} {
			wantDomain(t, "tables that are not well-formed", violating(rule), all, 0, api.ErrTable)
		}
	}
}

// Promises 16.1 to 16.3: tables whose Bidi classes or combining classes are not well-formed.
func TestClassesThatAreNotWellFormed(t *testing.T) {
	combining := func(s ...api.Span) api.Tables { return api.Tables{Class: s} }
	for _, row := range []struct {
		name   string
		tables api.Tables
	}{
		{"a class below 0", bidiOnly(span(alef, alef, -1))},
		{"a class far below 0", bidiOnly(span(alef, alef, math.MinInt))},
		{"a class that there is not", bidiOnly(span(alef, alef, api.BidiOther+1))},
		{"a class that is no bit", bidiOnly(span(alef, alef, 64))},
		{"a class far above", bidiOnly(span(alef, alef, math.MaxInt))},
		{"a class of a letter of ASCII", bidiOnly(span('a', 'a', api.BidiR))},
		{"a class of a digit of ASCII", bidiOnly(span('0', '9', api.BidiEN))},
		{"a class of a syllable", bidiOnly(span(0xAC00, 0xAC00, api.BidiL))},
		{"a class of a jamo", bidiOnly(span(0x1100, 0x1100, api.BidiL))},
		{"a class of a surrogate", bidiOnly(span(0xD7FF, 0xE000, api.BidiR))},
		{"classes that are not ascending", bidiOnly(span(beh, beh, api.BidiAL), span(alef, alef, api.BidiR))},
		{"classes over each other", bidiOnly(span(alef, 0x5EA, api.BidiR), span(0x5EA, 0x5EB, api.BidiR))},
		{"a class from behind to before", bidiOnly(span(0x5EA, alef, api.BidiR))},
		{"a class below the code points", bidiOnly(span(-1, -1, api.BidiR))},
		{"a class above MaxRune", bidiOnly(span(alef, api.MaxRune+1, api.BidiR))},
		{"combining class 0", combining(span(grave, grave, 0))},
		{"combining class 255", combining(span(grave, grave, 255))},
	} {
		for _, l := range [][]int{nil, {alef}, {'a'}, {'1'}, {alef, 'a'}, {'a', alef}, {0xAC00}, {0xD800}, {0x5EA, alef}} {
			wantRefused(t, row.name, row.tables, l, api.ErrTable)
			wantDomain(t, row.name, row.tables, [][]int{{'a'}, l}, 0, api.ErrTable)
		}
	}
}

// Promises 16.1 and 16.2: several errors at once. Each one comes before those behind it, wherever in the label it is.
func TestOrderOfErrors(t *testing.T) {
	places := []int{0, 1, most / 2, most - 2, most - 1}
	for _, flaw := range []int{-1, 0xD800, api.MaxRune + 1} {
		for _, c := range []int{alef, '1', ' '} {
			for _, at := range places {
				for _, other := range places {
					l := with(with(repeat(alpha, most), other, c), at, flaw)
					wantRefused(t, "a violation, and a number", sample(), l, api.ErrRange)
					wantRefused(t, "too long as well", sample(), join(l, []int{'a'}), api.ErrFull)
				}
			}
			l := join([]int{c, flaw}, repeat(alpha, most))
			wantRefused(t, "tables that are not well-formed as well", violating(9), l, api.ErrTable)
		}
	}
	wantRefused(t, "a violation, and a length", sample(), join([]int{'1'}, repeat(alef, most)), api.ErrFull)
	wantRefused(t, "a violation, and tables", violating(1), []int{'1', alef}, api.ErrTable)
	wantRefused(t, "a number and tables", violating(1), []int{alef, -1}, api.ErrTable)
	wantRefused(t, "only numbers, too many", sample(), repeat(-1, most+1), api.ErrFull)
	wantRefused(t, "only numbers", sample(), repeat(-1, most), api.ErrRange)
}

// refusedLabel is a label for which order.Order has an error.
type refusedLabel struct {
	l []int
	e api.Errno
}

// refusedLabels returns labels for which order.Order has an error, that would be RTL or not and violate a condition
// or not without what it refuses.
func refusedLabels() []refusedLabel {
	return []refusedLabel{
		{[]int{-1}, api.ErrRange}, {[]int{'a', 0xD800}, api.ErrRange}, {[]int{alef, 0xDFFF, alef}, api.ErrRange}, {[]int{alef, 'a', api.MaxRune + 1}, api.ErrRange},
		{[]int{'1', math.MinInt}, api.ErrRange}, {with(repeat(alef, most), most-1, -1), api.ErrRange},
		{repeat('a', most+1), api.ErrFull}, {repeat(alef, most+1), api.ErrFull}, {repeat('1', most+1), api.ErrFull}, {longLabel(most+1, "R"), api.ErrFull},
		{repeat(-1, most+1), api.ErrFull},
	}
}

// Promise 16.3: one label that is refused, in each place among others. It comes before all violations.
func TestErrorsOfDomain(t *testing.T) {
	for _, texts := range [][]string{
		{}, {""}, {"L"}, {"R"}, {"RL"}, {"", "", ""}, {"L", "LE", "LM"}, {"R", "A", "RN"}, {"E", "LO", "X"}, {"RL", "R", "E"}, {"R", "", "E", "L"},
		many("RO", 20), many("L", 20),
	} {
		for _, refused := range refusedLabels() {
			for at := range len(texts) + 1 {
				all := slices.Insert(labels(texts), at, refused.l)
				wantDomain(t, "one is refused", sample(), all, at, refused.e)
			}
		}
	}
}

// Promise 16.3: several labels that are refused. The first one of them counts, whatever its error is.
func TestSeveralErrorsOfDomain(t *testing.T) {
	others := labels([]string{"RL", "L", "E", "", "R"})
	for _, first := range refusedLabels() {
		for _, second := range refusedLabels() {
			for at := range len(others) - 1 {
				for later := at + 1; later < len(others); later++ {
					all := slices.Clone(others)
					all[at], all[later] = first.l, second.l
					wantDomain(t, "two are refused", sample(), all, at, first.e)
				}
			}
			wantDomain(t, "all are refused", sample(), [][]int{first.l, second.l, second.l}, 0, first.e)
			wantDomain(t, "tables that are not well-formed as well", violating(9), [][]int{others[0], first.l, second.l}, 0, api.ErrTable)
		}
	}
}

// Promise 16.3: a label that is refused among many.
func TestErrorsOfDomainOfManyLabels(t *testing.T) {
	for _, text := range []string{"L", "R", "RL", "E", ""} {
		for _, at := range []int{0, 1, 500, 998, 999} {
			all := labels(many(text, 1000))
			all[at] = []int{alef, -1}
			wantDomain(t, "one of many", sample(), all, at, api.ErrRange)
			all[at] = repeat(alef, most+1)
			wantDomain(t, "one of many", sample(), all, at, api.ErrFull)
		}
	}
}
