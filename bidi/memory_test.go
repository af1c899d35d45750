package bidi_test

import (
	"reflect"
	"slices"
	"testing"

	"namedesk/api"
	"namedesk/bidi"
)

// spare returns a copy of l with unused capacity that is filled.
func spare[T any](l []T, filling T) []T {
	return append(append(make([]T, 0, len(l)+3), l...), filling, filling, filling)[:len(l)]
}

// whole returns l with its unused capacity.
func whole[T any](l []T) []T { return l[:cap(l)] }

// spareTables returns the sample, where each list has unused capacity.
func spareTables() api.Tables {
	t := sample()
	for _, l := range []*spans{&t.Category, &t.Class, &t.Joining, &t.Bidi, &t.Script, &t.Status, &t.Ignorable} {
		*l = spare(*l, span(-7, -8, -9))
	}
	for _, l := range []*mappings{&t.Extensions, &t.Maps, &t.Decomps, &t.Prototypes} {
		for i := range *l {
			(*l)[i].To = spare((*l)[i].To, -7)
		}
		*l = spare(*l, row(-7, -8, -9))
	}
	t.Excluded = spare(t.Excluded, -7)
	return t
}

// wholeTables returns tables where the unused capacity is a part of each list.
func wholeTables(t api.Tables) api.Tables {
	for _, l := range []*spans{&t.Category, &t.Class, &t.Joining, &t.Bidi, &t.Script, &t.Status, &t.Ignorable} {
		*l = whole(*l)
	}
	for _, l := range []*mappings{&t.Extensions, &t.Maps, &t.Decomps, &t.Prototypes} {
		*l = slices.Clone(whole(*l))
		for i := range *l {
			(*l)[i].To = whole((*l)[i].To)
		}
	}
	t.Excluded = whole(t.Excluded)
	return t
}

// spareLabels returns a copy of labels where each list has unused capacity.
func spareLabels(all [][]int) [][]int {
	var copies [][]int
	for _, l := range all {
		copies = append(copies, spare(l, -7))
	}
	return spare(copies, []int{-7, -8})
}

// wholeLabels returns labels where the unused capacity is a part of each list.
func wholeLabels(all [][]int) [][]int {
	all = slices.Clone(whole(all))
	for i := range all {
		all[i] = whole(all[i])
	}
	return all
}

// wantStay compares tables and labels with what they were before the calls.
func wantStay(t *testing.T, name string, tables api.Tables, all, were [][]int) {
	t.Helper()
	if !reflect.DeepEqual(wholeLabels(all), wholeLabels(spareLabels(were))) {
		t.Errorf("%s: %s have become %s", name, shownAll(were), shownAll(wholeLabels(all)))
	}
	if !reflect.DeepEqual(wholeTables(tables), wholeTables(spareTables())) {
		t.Errorf("%s: the tables have become %v", name, wholeTables(tables))
	}
}

// Rule R2: tables and labels stay as they are, with their unused capacity.
func TestArgumentsStay(t *testing.T) {
	unordered := []int{alef, rightAbove, leftBelow, grave, dot, 0x5B0, numberOver, otherBelow}
	for _, were := range [][][]int{
		nil, {}, {nil}, {{}, {}}, labels(textsWithoutErrors), {unordered, {'a'}, unordered}, {{'e', grave, dot}, {0x5EA}}, {{alef}, {0xD800, alef}, {'1'}},
		{repeat(alef, most)}, {repeat(alef, most+1)}, {{'1'}, {alef}, {-1}}, labels(many("LO", 200)),
	} {
		tables, all := spareTables(), spareLabels(were)
		bidi.Domain(tables, all)
		wantStay(t, "Domain", tables, all, were)
		for _, l := range all {
			bidi.RTL(tables, l)
			wantStay(t, "RTL", tables, all, were)
			bidi.Rule(tables, l)
			wantStay(t, "Rule", tables, all, were)
		}
	}
}

// Rules R2 and R3: what stands in the unused capacity of a list is no element of it.
func TestUnusedCapacityDoesNotMatter(t *testing.T) {
	for _, filling := range []int{alef, beh, zero, 'a', '1', '!', grave, ' ', -1, 0xD800} {
		wantRTL(t, "not RTL", sample(), spare([]int{'a', '1'}, filling), false)
		wantRTL(t, "RTL", sample(), spare([]int{alef, '1'}, filling), true)
		wantRule(t, "empty", sample(), spare([]int{}, filling), 0)
		wantRule(t, "violates none", sample(), spare([]int{alef, '1'}, filling), 0)
		wantRule(t, "violates none, from the left", sample(), spare([]int{'a', '1'}, filling), 0)
		wantRule(t, "violates one", sample(), spare([]int{alef, '!'}, filling), 3)
		wantDomain(t, "violates none", sample(), [][]int{spare([]int{alef}, filling)}, 0, api.OK)
		wantDomain(t, "more labels behind them", sample(), spare(labels([]string{"R", "L"}), []int{filling}), 0, api.OK)
		wantDomain(t, "none is RTL", sample(), spare(labels([]string{"E", "L"}), []int{filling}), 0, api.OK)
	}
	wantRTL(t, "R before the label", sample(), []int{alef, 'a'}[1:], false)
	wantRule(t, "R before the label", sample(), []int{alef, 'a', 'b'}[1:], 0)
	wantRule(t, "EN before the label", sample(), []int{'1', alef, zero}[1:], 0)
	wantDomain(t, "an RTL label before them", sample(), labels([]string{"R", "E"})[1:], 0, api.OK)
}

// wantResults compares the results of all functions for a label and for labels.
func wantResults(t *testing.T, name string, tables api.Tables, l []int, rtl bool, rule int, all [][]int, at int, e api.Errno) {
	t.Helper()
	wantRTL(t, name, tables, l, rtl)
	wantRule(t, name, tables, l, rule)
	wantDomain(t, name, tables, all, at, e)
}

// Rules R2 and R3: neither tables nor labels are kept from one call to the next.
func TestArgumentsAreNotRetained(t *testing.T) {
	tables, l, all := sample(), label("REM"), labels([]string{"L", "RE", "LO"})
	wantResults(t, "before", tables, l, true, 0, all, 2, api.ErrBidi)
	l[0], all[2][1] = 'a', '1'
	wantResults(t, "other labels in the same memory", tables, l, false, 0, all, 0, api.OK)
	l[0], all[0] = '1', []int{'-'}
	wantResults(t, "yet other ones", tables, l, false, 1, all, 0, api.ErrBidi)
	l[0] = alef
	for i := range tables.Bidi {
		tables.Bidi[i].Value = api.BidiOther
	}
	wantResults(t, "other tables in the same memory", tables, l, false, 1, all, 0, api.OK)
	wantResults(t, "other tables", sample(), l, true, 0, all, 0, api.ErrBidi)
}
