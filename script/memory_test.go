package script_test

import (
	"reflect"
	"slices"
	"testing"

	"namedesk/api"
	"namedesk/script"
)

// spare returns a copy of l with unused capacity that is filled.
func spare[T any](l []T, filling T) []T {
	return append(append(make([]T, 0, len(l)+3), l...), filling, filling, filling)[:len(l)]
}

// whole returns l with its unused capacity.
func whole[T any](l []T) []T { return l[:cap(l)] }

// spareTables returns the sample, where each list has unused capacity.
func spareTables() api.Tables {
	t := sample()
	for _, l := range []*spans{&t.Category, &t.Class, &t.Joining, &t.Bidi, &t.Script, &t.Status, &t.Ignorable} {
		*l = spare(*l, span(-7, -8, -9))
	}
	for _, l := range []*mappings{&t.Extensions, &t.Maps, &t.Decomps, &t.Prototypes} {
		for i := range *l {
			(*l)[i].To = spare((*l)[i].To, -7)
		}
		*l = spare(*l, row(-7, -8, -9))
	}
	t.Excluded = spare(t.Excluded, -7)
	return t
}

// wholeTables returns tables where the unused capacity is a part of each list.
func wholeTables(t api.Tables) api.Tables {
	for _, l := range []*spans{&t.Category, &t.Class, &t.Joining, &t.Bidi, &t.Script, &t.Status, &t.Ignorable} {
		*l = whole(*l)
	}
	for _, l := range []*mappings{&t.Extensions, &t.Maps, &t.Decomps, &t.Prototypes} {
		*l = slices.Clone(whole(*l))
		for i := range *l {
			(*l)[i].To = whole((*l)[i].To)
		}
	}
	t.Excluded = whole(t.Excluded)
	return t
}

// Rule R2: tables and lists stay as they are, with their unused capacity.
func TestArgumentsStay(t *testing.T) {
	lists := append([][]int{
		nil, {}, {latin, accent, inherited}, {cyrillic, inherited, accent, 'a'}, {inherited, accent, 0xD800}, repeat('a', most+1),
	}, listsWithoutErrors...)
	for _, list := range lists {
		for _, f := range []struct {
			name string
			call func(tables api.Tables, l []int)
		}{
			{"Set", func(tables api.Tables, l []int) {
				for _, c := range l[:min(len(l), 5)] {
					script.Set(tables, c)
				}
			}},
			{"Resolve", func(tables api.Tables, l []int) { script.Resolve(tables, l) }},
			{"Single", func(tables api.Tables, l []int) { script.Single(tables, l) }},
			{"Covered", func(tables api.Tables, l []int) { script.Covered(tables, l, set(3, 62)) }},
			{"Level", func(tables api.Tables, l []int) { script.Level(tables, l) }},
		} {
			tables, l := spareTables(), spare(list, -7)
			f.call(tables, l)
			if !slices.Equal(whole(l), whole(spare(list, -7))) {
				t.Errorf("%s: %s has become %s", f.name, shown(list), shown(whole(l)))
			}
			if !reflect.DeepEqual(wholeTables(tables), wholeTables(spareTables())) {
				t.Errorf("%s: the tables have become %v", f.name, wholeTables(tables))
			}
		}
	}
}

// Rules R2 and R3: what stands in the unused capacity of a list is no element of it.
func TestUnusedCapacityDoesNotMatter(t *testing.T) {
	tables := spareTables()
	for _, filling := range []int{'a', latin, greek, han, unknown, common, -1, 0xD800} {
		wantResolve(t, "Cyrillic", tables, spare([]int{cyrillic}, filling), set(5))
		wantCovered(t, "Cyrillic", tables, spare([]int{cyrillic}, filling), set(5), true)
		wantLevel(t, "Cyrillic", tables, spare([]int{cyrillic}, filling), api.LevelSingle)
		wantResolve(t, "nothing", tables, spare([]int{}, filling), every)
		wantCovered(t, "nothing", tables, spare([]int{}, filling), 0, true)
		wantLevel(t, "nothing", tables, spare([]int{}, filling), api.LevelASCII)
		wantLevel(t, "ASCII", tables, spare([]int{'a'}, filling), api.LevelASCII)
	}
}

// Rules R2 and R3: neither tables nor lists are kept from one call to the next.
func TestArgumentsAreNotRetained(t *testing.T) {
	tables, l := sample(), []int{'a', latin, latinGreek}
	wantResolve(t, "before", tables, l, set(3))
	wantLevel(t, "before", tables, l, api.LevelSingle)
	l[0] = hebrew
	wantResolve(t, "another list in the same memory", tables, l, 0)
	wantLevel(t, "another list in the same memory", tables, l, api.LevelModerate)
	for i := range tables.Script {
		tables.Script[i].Value = api.Cyrillic
	}
	tables.Extensions[0].To[0] = api.Latin
	tables.Extensions[0].To[1] = api.Cyrillic
	wantSet(t, "other tables in the same memory", tables, hebrew, set(5))
	wantResolve(t, "other tables in the same memory", tables, l, set(5))
	wantCovered(t, "other tables in the same memory", tables, l, set(11), false)
	wantLevel(t, "other tables in the same memory", tables, l, api.LevelSingle)
	wantLevel(t, "other tables", sample(), l, api.LevelModerate)
	wantSet(t, "other tables", sample(), hebrew, set(11))
}
