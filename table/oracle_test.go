package table_test

import (
	"math/rand"
	"slices"
	"testing"

	"namedesk/api"
	"namedesk/table"
)

// The oracle computes rules 5 to 9 in the words of the chapter, and as slowly, for tables whose rows
// are about few code points. Rules 1 to 4 hold in the random tables.

// oracle returns the number of the first rule that tables violate.
func oracle(t api.Tables, domain []int) int {
	switch {
	case !oracleMaps(t, domain):
		return 5
	case !oracleDecomps(t):
		return 6
	case slices.ContainsFunc(t.Excluded, func(c int) bool { return rowOf(t.Decomps, c) == nil }):
		return 7
	case !oracleCompositions(t):
		return 8
	case !oraclePrototypes(t):
		return 9
	default:
		return 0
	}
}

// rowOf returns the To of c, and nil if there is none.
func rowOf(l mappings, c int) []int {
	for _, m := range l {
		if m.From == c {
			return m.To
		}
	}
	return nil
}

func oracleMaps(t api.Tables, domain []int) bool {
	for _, c := range domain {
		isMapped := false
		for _, s := range t.Status {
			isMapped = isMapped || s.From <= c && c <= s.To && s.Value == api.Mapped
		}
		if isMapped != (rowOf(t.Maps, c) != nil) {
			return false
		}
	}
	for _, m := range t.Maps {
		for _, c := range m.To {
			if s := expectedFacts(t, c).status; s != api.Valid && s != api.Deviation {
				return false
			}
		}
	}
	return true
}

// expand returns the full decomposition of c, and whether it is finite and not too long.
func expand(t api.Tables, c int) ([]int, bool) {
	l := []int{c}
	// Each row is used at most MaxMap times before there are too many elements.
	for range (len(t.Decomps) + 1) * (api.MaxMap + 1) {
		at := slices.IndexFunc(l, func(c int) bool { return rowOf(t.Decomps, c) != nil })
		if at < 0 {
			return l, true
		}
		l = slices.Replace(l, at, at+1, rowOf(t.Decomps, l[at])...)
		if len(l) > api.MaxMap {
			return nil, false
		}
	}
	return nil, false
}

func oracleDecomps(t api.Tables) bool {
	for _, m := range t.Decomps {
		if _, ok := expand(t, m.From); !ok || len(m.To) > 2 || slices.Contains(m.To, '.') {
			return false
		}
	}
	return true
}

func oracleComposable(t api.Tables, from int) bool {
	to := rowOf(t.Decomps, from)
	if len(to) != 2 || slices.Contains(t.Excluded, from) {
		return false
	}
	class := func(c int) int { return expectedFacts(t, c).class }
	if class(from) != 0 || class(to[0]) != 0 || rowOf(t.Decomps, to[1]) != nil {
		return false
	}
	if rowOf(t.Decomps, to[0]) != nil && !oracleComposable(t, to[0]) {
		return false
	}
	full, _ := expand(t, to[0])
	return class(to[1]) == 0 || class(to[1]) >= class(full[len(full)-1])
}

func oracleCompositions(t api.Tables) bool {
	for _, a := range t.Decomps {
		for _, b := range t.Decomps {
			if a.From != b.From && slices.Equal(a.To, b.To) && oracleComposable(t, a.From) && oracleComposable(t, b.From) {
				return false
			}
		}
	}
	return true
}

func oraclePrototypes(t api.Tables) bool {
	for _, m := range t.Prototypes {
		for _, c := range append([]int{m.From}, m.To...) {
			if f := expectedFacts(t, c); f.ignorable || len(f.decomp) > 0 {
				return false
			}
		}
		for _, c := range m.To {
			if rowOf(t.Prototypes, c) != nil {
				return false
			}
		}
	}
	return true
}

// randomTables returns tables about the code points of the domain, for which rules 1 to 4 hold. They
// have more or fewer rows, so that each of the other rules is violated by some of them.
func randomTables(random *rand.Rand, domain []int) api.Tables {
	var t api.Tables
	density := random.Intn(60)
	chance := func(percent int) bool { return random.Intn(100) < percent }
	pick := func() int { return domain[random.Intn(len(domain))] }
	for i, c := range domain {
		if chance(density) {
			t.Class = append(t.Class, span(c, c, 1+random.Intn(3)))
		}
		if chance(density) {
			status := random.Intn(api.Deviation + 1)
			t.Status = append(t.Status, span(c, c, status))
			if (status == api.Mapped) != chance(2) {
				t.Maps = append(t.Maps, mapping(c, 'x'))
			}
		}
		if chance(density) {
			t.Decomps = append(t.Decomps, mapping(c, randomDecomp(random, t.Decomps, domain, i)...))
		}
		if chance(density/6) && (len(t.Decomps) > 0 && t.Decomps[len(t.Decomps)-1].From == c || chance(10)) {
			t.Excluded = append(t.Excluded, c)
		}
		if chance(density / 6) {
			t.Prototypes = append(t.Prototypes, mapping(c, 'y', pick()))
		}
		if chance(density / 6) {
			t.Ignorable = append(t.Ignorable, span(c, c, 1))
		}
	}
	if len(t.Maps) > 0 && chance(30) {
		t.Maps[random.Intn(len(t.Maps))].To[0] = pick()
	}
	return t
}

// randomDecomp returns a decomposition of element i of the domain: often that of an earlier one, and
// mostly of later code points, so that few lead back into themselves.
func randomDecomp(random *rand.Rand, earlier mappings, domain []int, i int) []int {
	if len(earlier) > 0 && random.Intn(4) == 0 {
		return slices.Clone(earlier[random.Intn(len(earlier))].To)
	}
	later := append([]int{'x'}, domain[i+1:]...)
	to := []int{later[random.Intn(len(later))]}
	if random.Intn(5) > 0 {
		to = append(to, later[random.Intn(len(later))])
	}
	if random.Intn(20) == 0 {
		to[random.Intn(len(to))] = domain[random.Intn(len(domain))]
	}
	return to
}

func TestCheckAgainstOracle(t *testing.T) {
	random := rand.New(rand.NewSource(41))
	found := map[int]int{}
	for range 40000 {
		domain := make([]int, 2+random.Intn(9))
		for i := range domain {
			domain[i] = free + i
		}
		tables := randomTables(random, domain)
		want := oracle(tables, domain)
		if rule := table.Check(tables); rule != want {
			t.Fatalf("Check = %d, want %d: %v", rule, want, tables)
		}
		found[want]++
	}
	for _, rule := range []int{0, 5, 6, 7, 8, 9} {
		if found[rule] < 300 {
			t.Errorf("only %d random tables have the result %d: %v", found[rule], rule, found)
		}
	}
}
