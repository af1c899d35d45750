package bidi_test

import (
	"slices"
	"testing"

	"namedesk/api"
)

// wantDomainOfTexts compares the results of Domain for a label of each text; without a violation, at is -1.
func wantDomainOfTexts(t *testing.T, name string, texts []string, at int) {
	t.Helper()
	if at == -1 {
		wantDomain(t, name, sample(), labels(texts), 0, api.OK)
	} else {
		wantDomain(t, name, sample(), labels(texts), at, api.ErrBidi)
	}
}

// Promise 16.3: labels none of which is RTL. What they violate does not matter.
func TestDomainWithoutRTL(t *testing.T) {
	for _, row := range []struct {
		name  string
		texts []string
	}{
		{"no labels", nil},
		{"no labels, but memory", []string{}},
		{"an empty label", []string{""}},
		{"empty labels", []string{"", "", ""}},
		{"one that violates none", []string{"L"}},
		{"several that violate none", []string{"L", "LE", "LOL", "LM"}},
		{"one that violates condition 1", []string{"E"}},
		{"one that violates condition 5", []string{"LX"}},
		{"one that violates condition 6", []string{"LO"}},
		{"the first one violates a condition", []string{"E", "L", "L"}},
		{"one in the middle violates a condition", []string{"L", "LX", "L"}},
		{"the last one violates a condition", []string{"L", "L", "LS"}},
		{"all of them violate conditions", []string{"M", "EL", "LO", "LXL", "X", "S"}},
		{"violations and empty labels", []string{"", "O", "", "LX", ""}},
		{"labels of each class that is not RTL", []string{"L", "E", "S", "C", "T", "O", "B", "M", "X"}},
	} {
		wantDomainOfTexts(t, row.name, row.texts, -1)
	}
}

// Promise 16.3: labels all of which violate none of the conditions, RTL or not.
func TestDomainWithoutViolations(t *testing.T) {
	for _, row := range []struct {
		name  string
		texts []string
	}{
		{"R", []string{"R"}},
		{"AL", []string{"A"}},
		{"R and AN", []string{"RN"}},
		{"all of them", []string{"R", "A", "RN", "AEM", "ROR"}},
		{"the first one", []string{"RE", "L", "LE"}},
		{"one in the middle", []string{"L", "AN", "LM"}},
		{"the last one", []string{"L", "LE", "ANA"}},
		{"next to empty labels", []string{"", "R", "", "L", ""}},
		{"EN in one, AN in another", []string{"RE", "RN", "AN", "AE"}},
		{"L in one, R in another", []string{"L", "R"}},
	} {
		wantDomainOfTexts(t, row.name, row.texts, -1)
	}
}

// Promise 16.3: labels of which one is RTL, and one violates a condition.
func TestDomain(t *testing.T) {
	for _, row := range []struct {
		name  string
		texts []string
		at    int
	}{
		{"the only one is both", []string{"RL"}, 0},
		{"the only one is both, with the class AL", []string{"AX"}, 0},
		{"the only one is both, with the class AN alone", []string{"N"}, 0},
		{"the only one is both, and begins with L", []string{"LR"}, 0},
		{"the only one is both, and begins with EN", []string{"EA"}, 0},
		{"the first one is both", []string{"RO", "L", "R"}, 0},
		{"one in the middle is both", []string{"L", "LN", "R"}, 1},
		{"the last one is both", []string{"L", "R", "AENA"}, 2},
		{"RTL before a violation", []string{"R", "E"}, 1},
		{"RTL behind a violation", []string{"E", "R"}, 0},
		{"RTL by AN behind a violation", []string{"E", "AN"}, 0},
		{"the first one is RTL, one in the middle violates", []string{"A", "L", "LX", "L"}, 2},
		{"the first one is RTL, the last one violates", []string{"A", "L", "L", "LO"}, 3},
		{"one in the middle is RTL, the first one violates", []string{"M", "L", "RN", "L"}, 0},
		{"one in the middle is RTL, the last one violates", []string{"L", "L", "RN", "O"}, 3},
		{"the last one is RTL, the first one violates", []string{"LS", "L", "L", "RE"}, 0},
		{"the last one is RTL, one in the middle violates", []string{"L", "LXL", "L", "RE"}, 1},
		{"all are RTL, the first one violates", []string{"RS", "A", "RN"}, 0},
		{"all are RTL, the last one violates", []string{"RM", "A", "NR"}, 2},
		{"several violate, one of them is RTL", []string{"L", "E", "LO", "RL", "X"}, 1},
		{"several violate, the RTL one first", []string{"L", "RL", "E", "LO"}, 1},
		{"several violate, another one is RTL", []string{"R", "L", "X", "L", "S"}, 2},
		{"all of them violate", []string{"E", "LX", "RL", "N"}, 0},
		{"the same label several times", []string{"R", "O", "O", "O"}, 1},
		{"empty labels before", []string{"", "", "R", "E"}, 3},
		{"empty labels between", []string{"R", "", "", "E", ""}, 3},
		{"an empty label, and one that is both", []string{"", "RL"}, 1},
		{"one that is both, and an empty label", []string{"RL", ""}, 0},
		{"a digit next to an RTL label", []string{"R", "EE"}, 1},
		{"marks alone next to an RTL label", []string{"R", "MM"}, 1},
	} {
		wantDomainOfTexts(t, row.name, row.texts, row.at)
	}
}

// Promise 16.3: a label that violates each condition, alone and with others, at each place beside an RTL label at
// each other place.
func TestDomainForEachCondition(t *testing.T) {
	for _, of := range []map[int][]string{violations, several} {
		for condition, texts := range of {
			for _, text := range texts {
				wantDomainAtEachPlace(t, text, condition != 0)
			}
		}
	}
}

// wantDomainAtEachPlace compares the results for one text among others, which violate no condition.
func wantDomainAtEachPlace(t *testing.T, text string, violates bool) {
	t.Helper()
	plain := []string{"L", "LE", "LOL"}
	for at := range plain {
		texts := replaced(plain, at, text)
		want := -1
		if violates && isRightToLeft(text) {
			want = at
		}
		wantDomainOfTexts(t, "no other one is RTL", texts, want)
		for place := range texts {
			if place == at {
				continue
			}
			want = -1
			if violates {
				want = at
			}
			for _, other := range []string{"R", "AE", "RNM"} {
				wantDomainOfTexts(t, "another one is RTL", replaced(texts, place, other), want)
			}
		}
	}
}

// permutations calls visit with every order of texts.
func permutations(texts []string, visit func([]string)) {
	var extend func(begun, rest []string)
	extend = func(begun, rest []string) {
		if len(rest) == 0 {
			visit(begun)
		}
		for i, text := range rest {
			extend(append(slices.Clone(begun), text), slices.Delete(slices.Clone(rest), i, i+1))
		}
	}
	extend(nil, texts)
}

// The consequence of the chapter: the order of labels does not matter for whether there is an error.
func TestOrderOfLabels(t *testing.T) {
	for _, row := range []struct{ texts, violating []string }{
		{[]string{"R", "E", "L", "LOL"}, []string{"E"}},
		{[]string{"RL", "L", "", "LE"}, []string{"RL"}},
		{[]string{"RO", "E", "LX", "A"}, []string{"RO", "E", "LX"}},
		{[]string{"", "N", "", "L"}, []string{"N"}},
		{[]string{"RE", "RN", "REN", "LE"}, []string{"REN"}},
		{[]string{"R", "A", "LE", "RN"}, nil},
		{[]string{"E", "LX", "M", "LO"}, nil}, // none is RTL
	} {
		permutations(row.texts, func(texts []string) {
			at := slices.IndexFunc(texts, func(text string) bool { return slices.Contains(row.violating, text) })
			wantDomainOfTexts(t, "one order", texts, at)
		})
	}
}

// Promise 16.3: many labels, of which one is RTL and one violates a condition, at several places.
func TestDomainOfManyLabels(t *testing.T) {
	for _, count := range []int{api.MaxLabels, api.MaxLabels + 1, 1000} {
		wantDomainOfTexts(t, "none is RTL, all violate", many("E", count), -1)
		wantDomainOfTexts(t, "all are RTL", many("RN", count), -1)
		wantDomainOfTexts(t, "all are RTL, and violate", many("RO", count), 0)
		wantDomainOfTexts(t, "all are empty", many("", count), -1)
		places := []int{0, 1, count / 2, count - 2, count - 1}
		for _, at := range places {
			wantDomainOfTexts(t, "one violates, none is RTL", replaced(many("L", count), at, "LO"), -1)
			wantDomainOfTexts(t, "one is RTL, none violates", replaced(many("L", count), at, "R"), -1)
			wantDomainOfTexts(t, "one is both", replaced(many("L", count), at, "RL"), at)
			wantDomainOfTexts(t, "one violates, all others are RTL", replaced(many("A", count), at, "E"), at)
			first := 0
			if at == 0 {
				first = 1
			}
			wantDomainOfTexts(t, "one is RTL, all others violate", replaced(many("O", count), at, "R"), first)
			for _, other := range places {
				if other != at {
					wantDomainOfTexts(t, "one violates, another is RTL", replaced(replaced(many("L", count), at, "S"), other, "RE"), at)
				}
			}
		}
	}
}

// Promise 16.3: labels of MaxRunes elements each, where the last element of one decides.
func TestDomainOfLongLabels(t *testing.T) {
	long := longLabel(most, "L")
	for at := range 4 {
		all := [][]int{long, long, long, long}
		wantDomain(t, "all of them", sample(), all, 0, api.OK)
		all[at] = longLabel(most, "S")
		wantDomain(t, "one violates", sample(), all, 0, api.OK)
		wantDomain(t, "one violates, one is RTL", sample(), append(all, label("R")), at, api.ErrBidi)
		all[at] = longLabel(most, "N")
		wantDomain(t, "one is both", sample(), all, at, api.ErrBidi)
		wantDomain(t, "one is both, one before it violates", sample(), append([][]int{label("E")}, all...), 0, api.ErrBidi)
		all[at] = join(repeat(alef, most-1), []int{zero})
		wantDomain(t, "one is RTL", sample(), all, 0, api.OK)
		wantDomain(t, "one is RTL, one behind it violates", sample(), append(all, label("E")), 4, api.ErrBidi)
	}
}

// Promise 16.3: without tables, no label is RTL.
func TestDomainWithoutTables(t *testing.T) {
	for _, texts := range [][]string{nil, {"R"}, {"RL", "E"}, {"A", "N", "X", "M"}, {"O", "S", "R"}} {
		wantDomain(t, "without tables", api.Tables{}, labels(texts), 0, api.OK)
	}
}
