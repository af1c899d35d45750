package idna_test

import (
	"reflect"
	"slices"
	"testing"

	"namedesk/api"
	"namedesk/idna"
)

// spare returns a copy of l with unused capacity that is filled.
func spare[T any](l []T, filling T) []T {
	return append(append(make([]T, 0, len(l)+3), l...), filling, filling, filling)[:len(l)]
}

// whole returns l with its unused capacity.
func whole[T any](l []T) []T { return l[:cap(l)] }

// spareTables returns the sample, where each list has unused capacity.
func spareTables() api.Tables {
	t := sample()
	for _, l := range []*spans{&t.Category, &t.Class, &t.Joining, &t.Bidi, &t.Script, &t.Status, &t.Ignorable} {
		*l = spare(*l, span(-7, -8, -9))
	}
	for _, l := range []*mappings{&t.Extensions, &t.Maps, &t.Decomps, &t.Prototypes} {
		for i := range *l {
			(*l)[i].To = spare((*l)[i].To, -7)
		}
		*l = spare(*l, row(-7, -8, -9))
	}
	t.Excluded = spare(t.Excluded, -7)
	return t
}

// wholeTables returns tables where the unused capacity is a part of each list.
func wholeTables(t api.Tables) api.Tables {
	for _, l := range []*spans{&t.Category, &t.Class, &t.Joining, &t.Bidi, &t.Script, &t.Status, &t.Ignorable} {
		*l = whole(*l)
	}
	for _, l := range []*mappings{&t.Extensions, &t.Maps, &t.Decomps, &t.Prototypes} {
		*l = slices.Clone(whole(*l))
		for i := range *l {
			(*l)[i].To = whole((*l)[i].To)
		}
	}
	t.Excluded = whole(t.Excluded)
	return t
}

// names are names with each kind of outcome.
var names = []sampleName{
	{"ASCII", "Www.Example-1", same("www.example-1")},
	{"all kinds of mappings", bigAcuteE + digraph + "." + oneStop + ignored + manyLetters + "." + wholePrefix + "9ca",
		forms("éij.1.aaaaaaaaaaaaaaaaaa.é", xn("éij")+".1.aaaaaaaaaaaaaaaaaa.xn--9ca")},
	{"marks that are ordered, and composed", "ae" + acute + below + "." + excluded + "." + ohm,
		forms("aé"+below+"."+ka+nukta+"."+omega, xn("aé"+below)+"."+xn(ka+nukta)+"."+xn(omega))},
	{"decoded", "a.xn--bcher-kva.xn--9ca", forms("a.bücher.é", "a.xn--bcher-kva.xn--9ca")},
	{"from right to left", alef + bet + ".a", forms(alef+bet+".a", xn(alef+bet)+".a")},
	{"joiners", ka + virama + zwj + ka + "." + beh + zwnj + beh, forms(ka+virama+zwj+ka+"."+beh+zwnj+beh, xn(ka+virama+zwj+ka)+"."+xn(beh+zwnj+beh))},
	{"empty", "", fails(0, api.ErrEmpty)},
	{"UTF-8", "a\xC3", fails(1, api.ErrUTF)},
	{"a status", bigAcuteE + " ", fails(1, api.ErrStatus)},
	{"too long when mapped", times(manyLetters, 228), fails(0, api.ErrFull)},
	{"too long when decomposed", times(manyAcute, 200), fails(0, api.ErrFull)},
	{"Punycode", "a.xn--9", fails(1, api.ErrPuny)},
	{"not valid", "xn--9ca." + digraph + "-", fails(1, api.ErrHyphen)},
	{"the Bidi rule", "a." + alef + "a", fails(1, api.ErrBidi)},
	{"a long label", "a." + times("a", 64), late("a."+times("a", 64), 1, api.ErrLong)},
	{"a long name", times("a.", 127) + bigAcuteE, late(times("a.", 127)+acuteE, 0, api.ErrLong)},
}

// Rule R2: tables stay as they are, with their unused capacity.
func TestTablesStay(t *testing.T) {
	for _, r := range names {
		tables := spareTables()
		wantOutcome(t, r.name, tables, r.s, r.want)
		if !reflect.DeepEqual(wholeTables(tables), wholeTables(spareTables())) {
			t.Errorf("%s: the tables have become %v", r.name, wholeTables(tables))
		}
	}
}

// Rule R2: labels that Process returns share no memory with each other, with tables or with what is kept.
func TestLabelsAreNew(t *testing.T) {
	for _, r := range names {
		tables := sample()
		labels, _, _ := idna.Process(tables, r.s)
		for i, label := range labels {
			before := make([][]int, len(labels))
			for j := range labels {
				before[j] = slices.Clone(labels[j])
			}
			for j := range whole(label) {
				whole(label)[j] = -1
			}
			for j := range labels {
				if j != i && !slices.Equal(labels[j], before[j]) {
					t.Errorf("%s: label %d has changed with label %d", r.name, j, i)
				}
			}
		}
		for i := range whole(labels) {
			whole(labels)[i] = nil
		}
		wantOutcome(t, r.name+", again", tables, r.s, r.want)
		if !reflect.DeepEqual(tables, sample()) {
			t.Errorf("%s: the tables have become %v", r.name, tables)
		}
	}
}

// Rules R2 and R3: tables are not kept from one call to the next.
func TestTablesAreNotRetained(t *testing.T) {
	tables := sample()
	for range 2 {
		wantOutcome(t, "before", tables, "e"+acute+digraph, forms("éij", xn("éij")))
		tables.Maps[2].To[0] = 'y'
		wantOutcome(t, "another mapping in the same memory", tables, "e"+acute+digraph, forms("éyj", xn("éyj")))
		tables.Decomps[1].To[0] = 'f'
		wantOutcome(t, "another decomposition in the same memory", tables, "e"+acute+digraph, forms("e"+acute+"yj", xn("e"+acute+"yj")))
		tables.Class[0].Value = 0
		wantOutcome(t, "tables that are no more well-formed", tables, "e"+acute+digraph, fails(0, api.ErrTable))
		wantOutcome(t, "other tables", sample(), "e"+acute+digraph, forms("éij", xn("éij")))
		copyOf := sample()
		copy(tables.Maps, copyOf.Maps)
		copy(tables.Decomps, copyOf.Decomps)
		copy(tables.Class, copyOf.Class)
	}
}
