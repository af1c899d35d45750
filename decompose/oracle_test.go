package decompose_test

import (
	"math/rand"
	"slices"
	"testing"

	"namedesk/api"
	"namedesk/decompose"
	"namedesk/order"
	"namedesk/table"
)

// oracleOrder exchanges neighbours that are in the wrong order until there are none.
func oracleOrder(l []int) []int {
	want := slices.Clone(l)
	for changed := true; changed; {
		changed = false
		for i := 1; i < len(want); i++ {
			if classOf(want[i]) != 0 && classOf(want[i-1]) > classOf(want[i]) {
				want[i-1], want[i] = want[i], want[i-1]
				changed = true
			}
		}
	}
	return want
}

// oracleNFD orders the full decompositions that are written out for the sample.
func oracleNFD(l []int) []int {
	var full []int
	for _, c := range l {
		full = append(full, fullOf(c)...)
	}
	return oracleOrder(full)
}

// alphabet has letters, marks, and decompositions that meet in all ways.
var alphabet = []int{'a', below220, acute230, 0xE9, 0x1EC7, 0x344, unordered, markBeforeA, letterOf220, markOf0, 0xAC00}

// everyList calls visit with every list of at most size elements of the alphabet.
func everyList(size int, visit func([]int)) {
	var extend func(l []int)
	extend = func(l []int) {
		visit(l)
		if len(l) == size {
			return
		}
		for _, c := range alphabet {
			extend(append(slices.Clone(l), c))
		}
	}
	extend(nil)
}

func TestEveryShortList(t *testing.T) {
	tables, count := sample(), 0
	everyList(4, func(l []int) {
		count++
		wantNFD(t, "oracle", tables, l, oracleNFD(l))
	})
	if count != 16105 {
		t.Errorf("%d lists", count)
	}
}

func TestEveryPairOfShortLists(t *testing.T) {
	tables, count := sample(), 0
	var lists [][]int
	everyList(2, func(l []int) { lists = append(lists, l) })
	for i, a := range lists {
		for _, b := range lists[i:] {
			want := slices.Equal(oracleNFD(a), oracleNFD(b))
			wantEquivalent(t, "oracle", tables, a, b, want)
			if want && !slices.Equal(a, b) {
				count++
			}
		}
	}
	if count == 0 {
		t.Error("no two lists are equivalent")
	}
}

// NFD of two sequences one after the other is the Order of their NFDs one after the other.
func TestNFDOfParts(t *testing.T) {
	tables := sample()
	everyList(3, func(l []int) {
		want, _ := decompose.NFD(tables, l)
		for i := range len(l) + 1 {
			first, _ := decompose.NFD(tables, l[:i])
			second, _ := decompose.NFD(tables, l[i:])
			if got, e := order.Order(tables, join(first, second)); !slices.Equal(got, want) || e != api.OK {
				t.Errorf("NFD(%#x) = %#x, but that of its parts is %#x, %d", l, want, got, e)
			}
		}
	})
}

func TestRandomLists(t *testing.T) {
	random := rand.New(rand.NewSource(71))
	tables := sample()
	var pool []int
	for c := range fulls {
		pool = append(pool, c)
	}
	for c := range classes {
		pool = append(pool, c)
	}
	slices.Sort(pool)
	for range 500 {
		l := make([]int, random.Intn(200))
		// From lists of letters and syllables to lists of what is decomposed or a mark.
		percent := random.Intn(101)
		for i := range l {
			switch {
			case random.Intn(100) < percent:
				l[i] = pool[random.Intn(len(pool))]
			case random.Intn(2) == 0:
				l[i] = 'a' + random.Intn(26)
			default:
				l[i] = 0xAC00 + random.Intn(11172)
			}
		}
		wantNFD(t, "random", tables, l, oracleNFD(l))
	}
}

// randomTables returns tables of which many are well-formed: most decompositions lead to later code
// points or to letters.
func randomTables(random *rand.Rand) api.Tables {
	var t api.Tables
	count := 1 + random.Intn(12)
	for i := range count {
		to := make([]int, 1+random.Intn(2))
		for j := range to {
			switch random.Intn(5) {
			case 0, 1:
				to[j] = 'a' + random.Intn(3)
			case 2:
				to[j] = 0xE0000 + random.Intn(4)
			default:
				to[j] = 0xF0000 + i + random.Intn(count-i+1)
			}
		}
		t.Decomps = append(t.Decomps, mapping(0xF0000+i, to...))
	}
	for i := range 4 {
		t.Class = append(t.Class, api.Span{From: 0xE0000 + i, To: 0xE0000 + i, Value: 10 + random.Intn(3)})
	}
	return t
}

// rewrite replaces the first code point that has a decomposition, as often as there is one.
func rewrite(t api.Tables, l []int) []int {
	l = slices.Clone(l)
	for i := 0; i < len(l); {
		at := slices.IndexFunc(t.Decomps, func(m api.Mapping) bool { return m.From == l[i] })
		if at < 0 {
			i++
			continue
		}
		l = slices.Replace(l, i, i+1, t.Decomps[at].To...)
	}
	return l
}

// sortRuns sorts the marks between letters with the library.
func sortRuns(t api.Tables, l []int) []int {
	class := func(c int) int {
		for _, s := range t.Class {
			if s.From <= c && c <= s.To {
				return s.Value
			}
		}
		return 0
	}
	for from := 0; from < len(l); from++ {
		to := from
		for to < len(l) && class(l[to]) != 0 {
			to++
		}
		slices.SortStableFunc(l[from:to], func(a, b int) int { return class(a) - class(b) })
		from = to
	}
	return l
}

func TestRandomTables(t *testing.T) {
	random := rand.New(rand.NewSource(72))
	wellFormed, others := 0, 0
	for range 4000 {
		tables := randomTables(random)
		l := make([]int, random.Intn(8))
		for i := range l {
			l[i] = []int{'a', 0xE0000, 0xF0000}[random.Intn(3)] + random.Intn(4)
		}
		if table.Check(tables) != 0 {
			others++
			wantError(t, "random tables", tables, l, api.ErrTable)
			wantOne(t, "random tables", tables, 0xF0000)
			continue
		}
		wellFormed++
		for _, m := range tables.Decomps {
			wantOne(t, "random tables", tables, m.From, rewrite(tables, []int{m.From})...)
		}
		wantNFD(t, "random tables", tables, l, sortRuns(tables, rewrite(tables, l)))
	}
	if wellFormed < 500 || others < 500 {
		t.Errorf("%d tables are well-formed, %d are not", wellFormed, others)
	}
}
