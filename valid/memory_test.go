package valid_test

import (
	"reflect"
	"slices"
	"testing"

	"namedesk/api"
	"namedesk/valid"
)

// spare returns a copy of l with unused capacity that is filled.
func spare[T any](l []T, filling T) []T {
	return append(append(make([]T, 0, len(l)+3), l...), filling, filling, filling)[:len(l)]
}

// whole returns l with its unused capacity.
func whole[T any](l []T) []T { return l[:cap(l)] }

// spareTables returns the sample, where each list has unused capacity.
func spareTables() api.Tables {
	t := sample()
	for _, l := range []*spans{&t.Category, &t.Class, &t.Joining, &t.Bidi, &t.Script, &t.Status, &t.Ignorable} {
		*l = spare(*l, span(-7, -8, -9))
	}
	for _, l := range []*mappings{&t.Extensions, &t.Maps, &t.Decomps, &t.Prototypes} {
		for i := range *l {
			(*l)[i].To = spare((*l)[i].To, -7)
		}
		*l = spare(*l, row(-7, -8, -9))
	}
	t.Excluded = spare(t.Excluded, -7)
	return t
}

// wholeTables returns tables where the unused capacity is a part of each list.
func wholeTables(t api.Tables) api.Tables {
	for _, l := range []*spans{&t.Category, &t.Class, &t.Joining, &t.Bidi, &t.Script, &t.Status, &t.Ignorable} {
		*l = whole(*l)
	}
	for _, l := range []*mappings{&t.Extensions, &t.Maps, &t.Decomps, &t.Prototypes} {
		*l = slices.Clone(whole(*l))
		for i := range *l {
			(*l)[i].To = whole((*l)[i].To)
		}
	}
	t.Excluded = whole(t.Excluded)
	return t
}

// Rule R2: tables and labels stay as they are, with their unused capacity.
func TestArgumentsStay(t *testing.T) {
	rows := append([]sampleLabel{
		{"empty", nil, api.ErrEmpty}, {"empty, with memory", []int{}, api.ErrEmpty}, {"a number", []int{plain, -1}, api.ErrRange},
		{"too long", repeat(plain, most+1), api.ErrFull}, {"marks and letters", []int{'e', acute, roof, below, virama, zwj, hyph}, api.ErrNormal},
	}, labelsOfEachResult...)
	for _, r := range rows {
		tables, l := spareTables(), spare(r.l, -7)
		valid.Hyphens(l)
		wantCheck(t, r.name, tables, l, r.want)
		if !slices.Equal(whole(l), whole(spare(r.l, -7))) {
			t.Errorf("%s: %s has become %s", r.name, shown(r.l), shown(whole(l)))
		}
		if !reflect.DeepEqual(wholeTables(tables), wholeTables(spareTables())) {
			t.Errorf("%s: the tables have become %v", r.name, wholeTables(tables))
		}
	}
}

// Rules R2 and R3: what stands before a label or in its unused capacity is no element of it.
func TestOtherMemoryDoesNotMatter(t *testing.T) {
	for _, filling := range []int{hyph, mark0, acute, stop, refused, zwj, middleDot, extended0, -1, 0xD800} {
		for _, l := range [][]int{{'e'}, {plain, plain, hyph, 'e'}, {arabic0}, {syllable}} {
			wantHyphens(t, "unused capacity", spare(l, filling), true)
			wantCheck(t, "unused capacity", sample(), spare(l, filling), api.OK)
		}
		wantHyphens(t, "empty, with unused capacity", spare([]int{}, filling), true)
		wantCheck(t, "empty, with unused capacity", sample(), spare([]int{}, filling), api.ErrEmpty)
		wantCheck(t, "a label behind others", sample(), []int{filling, plain, 'e'}[1:], api.OK)
	}
	wantHyphens(t, "the third one, with a hyphen behind it", []int{plain, plain, hyph, hyph, plain}[:3], false)
	wantHyphens(t, "hyphens that are the third and the fourth one no more", []int{plain, plain, hyph, hyph, plain}[1:], true)
	wantCheck(t, "a joiner with a virama before the label", sample(), []int{virama, zwj, plain}[1:], api.ErrJoiner)
	wantCheck(t, "0xB7 with l behind the label", sample(), []int{el, middleDot, el}[:2], api.ErrContext)
}

// Rules R2 and R3: neither tables nor labels are kept from one call to the next.
func TestArgumentsAreNotRetained(t *testing.T) {
	tables, l := sample(), []int{acuteE, hyph, ka, virama, zwj, el, middleDot, el}
	first := slices.Clone(l)
	wantCheck(t, "before", tables, l, api.OK)
	for _, row := range []struct {
		at, c int
		want  api.Errno
	}{
		{0, singleton, api.ErrNormal}, {0, hyph, api.ErrHyphen}, {0, mark0, api.ErrMark}, {2, refused, api.ErrStatus}, {3, nukta, api.ErrJoiner},
		{5, plain, api.ErrContext}, {7, -1, api.ErrRange},
	} {
		l[row.at] = row.c
		wantHyphens(t, "another label in the same memory", l, row.c != hyph)
		wantCheck(t, "another label in the same memory", tables, l, row.want)
		copy(l, first)
		wantCheck(t, "the first label again", tables, l, api.OK)
	}
	for i := range tables.Status {
		if tables.Status[i].Value == api.Valid {
			tables.Status[i].Value = api.Ignored
		}
	}
	tables.Maps, tables.Status = nil, slices.DeleteFunc(tables.Status, func(s api.Span) bool { return s.Value == api.Mapped })
	wantCheck(t, "other statuses in the same memory", tables, l, api.ErrStatus)
	wantCheck(t, "other tables", sample(), l, api.OK)
	tables = sample()
	for i := range tables.Category {
		tables.Category[i].Value = api.Mark
	}
	wantCheck(t, "other categories in the same memory", tables, l, api.ErrMark)
	wantCheck(t, "other tables again", sample(), l, api.OK)
}
