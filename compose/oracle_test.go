package compose_test

import (
	"math/rand"
	"slices"
	"testing"

	"namedesk/api"
	"namedesk/compose"
	"namedesk/table"
)

// rules are what the computations of the tests know of tables.
type rules struct {
	classOf func(c int) int
	fullOf  func(c int) []int
	wholeOf func(a, b int) (int, bool)
}

// sampleRules are those that are written out for the sample.
var sampleRules = rules{classOf, fullOf, wholeOf}

// nfd orders the full decompositions by exchanging neighbours that are in the wrong order.
func (r rules) nfd(l []int) []int {
	var full []int
	for _, c := range l {
		full = append(full, r.fullOf(c)...)
	}
	for changed := true; changed; {
		changed = false
		for i := 1; i < len(full); i++ {
			if r.classOf(full[i]) != 0 && r.classOf(full[i-1]) > r.classOf(full[i]) {
				full[i-1], full[i] = full[i], full[i-1]
				changed = true
			}
		}
	}
	return full
}

// nfc follows the words of promise 8.2, and looks for everything again for each code point.
func (r rules) nfc(l []int) []int {
	var result []int
	for _, c := range r.nfd(l) {
		at := len(result) - 1
		for at >= 0 && r.classOf(result[at]) != 0 {
			at--
		}
		if at < 0 {
			result = append(result, c)
			continue
		}
		blocked := false
		if at < len(result)-1 {
			last := r.classOf(result[len(result)-1])
			blocked = last == 0 || last >= r.classOf(c)
		}
		whole, found := r.wholeOf(result[at], c)
		if found && !blocked {
			result[at] = whole
		} else {
			result = append(result, c)
		}
	}
	return result
}

// oracleNFC computes NFC for the sample.
func oracleNFC(l []int) []int { return sampleRules.nfc(l) }

// oracleQuick computes Quick for the sample, for an acceptable list.
func oracleQuick(l []int) int {
	answer := api.Yes
	for i, c := range l {
		if i > 0 && classOf(c) != 0 && classOf(l[i-1]) > classOf(c) {
			return api.No
		}
		if _, found := fulls[c]; found && !isWhole(c) {
			return api.No
		}
		if isSecondOf(fullOf(c)[0]) {
			answer = api.Maybe
		}
	}
	return answer
}

// isWhole reports whether c has a composable decomposition in the sample.
func isWhole(c int) bool {
	for _, whole := range wholes {
		if whole == c {
			return true
		}
	}
	return false
}

// alphabet has letters, marks and decompositions that meet in all ways.
var alphabet = []int{'e', 'b', 'd', below220, acute230, hat230, cover1, 0xE9, 0x1EC7, lesserMark, secondFirst, twice, 0x958, 0x1100, 0x1161, 0x11A8}

// everyList calls visit with every list of at most size elements of letters.
func everyList(letters []int, size int, visit func([]int)) {
	var extend func(l []int)
	extend = func(l []int) {
		visit(l)
		if len(l) == size {
			return
		}
		for _, c := range letters {
			extend(append(slices.Clone(l), c))
		}
	}
	extend(nil)
}

func TestEveryShortList(t *testing.T) {
	tables := api.Tables{Class: sample().Class, Decomps: sample().Decomps, Excluded: sample().Excluded}
	count := 0
	everyList(alphabet, 3, func(l []int) {
		count++
		wantNFC(t, "oracle", tables, l, oracleNFC(l))
		wantQuick(t, "oracle", tables, l, oracleQuick(l))
	})
	if count != 4369 {
		t.Errorf("%d lists", count)
	}
}

func TestEveryListOfFour(t *testing.T) {
	tables := api.Tables{Class: sample().Class, Decomps: sample().Decomps, Excluded: sample().Excluded}
	everyList([]int{'e', 'b', below220, acute230, hat230, cover1, 0xE9, lesserMark, 0x1100, 0x1161, 0x11A8}, 4, func(l []int) {
		if len(l) < 4 {
			return
		}
		want := oracleNFC(l)
		if got, e := compose.NFC(tables, l); !slices.Equal(got, want) || e != api.OK {
			t.Errorf("NFC(%#x) = %#x, %d, want %#x", l, got, e, want)
		}
	})
}

func TestRandomLists(t *testing.T) {
	random := rand.New(rand.NewSource(81))
	tables, pool := sample(), everyPart()
	answers := map[int]int{}
	for range 1000 {
		l := make([]int, random.Intn(60))
		// From lists of letters and syllables to lists of what composes.
		percent := random.Intn(101)
		for i := range l {
			switch {
			case random.Intn(100) < percent:
				l[i] = pool[random.Intn(len(pool))]
			case random.Intn(2) == 0:
				l[i] = 'a' + random.Intn(26)
			default:
				l[i] = 0xAC00 + random.Intn(11172)
			}
		}
		want := oracleNFC(l)
		wantNFC(t, "random", tables, l, want)
		for _, list := range [][]int{l, want} {
			quick := oracleQuick(list)
			answers[quick]++
			wantQuick(t, "random", tables, list, quick)
		}
	}
	if answers[api.No] < 100 || answers[api.Maybe] < 100 || answers[api.Yes] < 10 {
		t.Errorf("answers: %v", answers)
	}
}

// Composing lists of the longest kind, where each code point is looked at often.
func TestRandomLongLists(t *testing.T) {
	random := rand.New(rand.NewSource(82))
	pool := everyPart()
	for range 20 {
		var l []int
		for size := 0; ; {
			c := pool[random.Intn(len(pool))]
			if size += len(fullOf(c)); size > api.MaxRunes {
				break
			}
			l = append(l, c)
		}
		wantNFC(t, "long", sample(), l, oracleNFC(l))
		wantQuick(t, "long", sample(), l, oracleQuick(l))
	}
}

// randomTables returns tables of which many are well-formed: most decompositions lead to later code
// points, to letters or to marks.
func randomTables(random *rand.Rand) api.Tables {
	var t api.Tables
	count := 1 + random.Intn(10)
	for i := range count {
		to := make([]int, 1+min(random.Intn(8), 1))
		for j := range to {
			switch random.Intn(5) {
			case 0:
				to[j] = 'a' + random.Intn(3)
			case 1, 2:
				to[j] = 0xE0000 + random.Intn(4)
			default:
				to[j] = 0xF0000 + i + random.Intn(count-i+1)
			}
		}
		if random.Intn(3) > 0 {
			to[0] = 'a' + random.Intn(3)
			if i > 0 && random.Intn(2) == 0 {
				to[0] = 0xF0000 + random.Intn(i)
			}
		}
		t.Decomps = append(t.Decomps, mapping(0xF0000+i, to...))
		if random.Intn(8) == 0 {
			t.Excluded = append(t.Excluded, 0xF0000+i)
		}
	}
	for i := range 4 {
		if random.Intn(5) > 0 {
			t.Class = append(t.Class, api.Span{From: 0xE0000 + i, To: 0xE0000 + i, Value: 10 + random.Intn(3)})
		}
	}
	for i := range count {
		if random.Intn(12) == 0 {
			t.Class = append(t.Class, api.Span{From: 0xF0000 + i, To: 0xF0000 + i, Value: 10 + random.Intn(3)})
		}
	}
	return t
}

// rulesOf reads the rules of tables without the layers below. The code points are those of randomTables.
func rulesOf(t api.Tables) rules {
	decomps := map[int][]int{}
	for _, m := range t.Decomps {
		decomps[m.From] = m.To
	}
	class := func(c int) int {
		for _, s := range t.Class {
			if s.From <= c && c <= s.To {
				return s.Value
			}
		}
		return 0
	}
	var full func(c int) []int
	full = func(c int) []int {
		if decomps[c] == nil {
			return []int{c}
		}
		var l []int
		for _, part := range decomps[c] {
			l = append(l, full(part)...)
		}
		return l
	}
	var composable func(c int) bool
	composable = func(c int) bool {
		to := decomps[c]
		if len(to) != 2 || slices.Contains(t.Excluded, c) || class(c)+class(to[0]) != 0 || decomps[to[1]] != nil {
			return false
		}
		before := full(to[0])
		return (decomps[to[0]] == nil || composable(to[0])) && (class(to[1]) == 0 || class(to[1]) >= class(before[len(before)-1]))
	}
	return rules{class, full, func(a, b int) (int, bool) {
		for _, m := range t.Decomps {
			if slices.Equal(m.To, []int{a, b}) && composable(m.From) {
				return m.From, true
			}
		}
		return 0, false
	}}
}

// quickOf computes Quick without the layers below, for an acceptable list.
func quickOf(t api.Tables, r rules, l []int) int {
	second := map[int]bool{}
	whole := map[int]bool{}
	for _, m := range t.Decomps {
		if len(m.To) < 2 {
			continue
		}
		if c, found := r.wholeOf(m.To[0], m.To[1]); found {
			second[m.To[1]], whole[c] = true, true
		}
	}
	answer := api.Yes
	for i, c := range l {
		full := r.fullOf(c)
		unordered := i > 0 && r.classOf(c) != 0 && r.classOf(l[i-1]) > r.classOf(c)
		switch {
		case unordered, !whole[c] && !slices.Equal(full, []int{c}):
			return api.No
		case second[full[0]]:
			answer = api.Maybe
		}
	}
	return answer
}

func TestRandomTables(t *testing.T) {
	random := rand.New(rand.NewSource(83))
	wellFormed, others, composed := 0, 0, 0
	answers := map[int]int{}
	for range 6000 {
		tables := randomTables(random)
		l := make([]int, random.Intn(9))
		for i := range l {
			l[i] = []int{'a', 0xE0000, 0xF0000}[random.Intn(3)] + random.Intn(4)
		}
		if table.Check(tables) != 0 {
			others++
			wantRefused(t, "random tables", tables, l, api.ErrTable)
			wantPair(t, "random tables", tables, 'a', 0xE0000, 0)
			continue
		}
		wellFormed++
		r := rulesOf(tables)
		for _, m := range tables.Decomps {
			a, b := m.To[0], m.To[len(m.To)-1]
			want, found := r.wholeOf(a, b)
			if found {
				composed++
			}
			wantPair(t, "random tables", tables, a, b, want)
		}
		want := r.nfc(l)
		wantNFC(t, "random tables", tables, l, want)
		for _, list := range [][]int{l, want} {
			quick := quickOf(tables, r, list)
			answers[quick]++
			wantQuick(t, "random tables", tables, list, quick)
		}
	}
	if wellFormed < 1000 || others < 500 || composed < 1000 || answers[api.No] < 300 || answers[api.Maybe] < 300 || answers[api.Yes] < 300 {
		t.Errorf("%d tables are well-formed, %d are not; %d compositions; answers: %v", wellFormed, others, composed, answers)
	}
}
