package mapping_test

import (
	"math/rand"
	"slices"
	"testing"

	"namedesk/api"
	"namedesk/mapping"
	"namedesk/table"
)

// oracle gives what Map puts in the place of each scalar value, and false if it is Disallowed, and reports which
// code points have the status Deviation.
type oracle struct {
	replacement func(c int) ([]int, bool)
	isDeviation func(c int) bool
}

// ofSample is the oracle for the sample.
var ofSample = oracle{replacement, func(c int) bool { return slices.Contains(deviating, c) }}

// wantOracle compares all functions for a list of scalar values that is not too long.
func wantOracle(t *testing.T, tables api.Tables, o oracle, l []int) {
	t.Helper()
	wantDeviations(t, "oracle", tables, l, o.deviations(l)...)
	at := slices.IndexFunc(l, func(c int) bool {
		_, found := o.replacement(c)
		return !found
	})
	if at >= 0 {
		wantError(t, "oracle", tables, l, at, api.ErrStatus)
		return
	}
	var want []int
	for _, c := range l {
		to, _ := o.replacement(c)
		want = append(want, to...)
	}
	if len(want) > most {
		wantError(t, "oracle", tables, l, 0, api.ErrFull)
		return
	}
	wantMap(t, "oracle", tables, l, want)
}

// deviations counts down from the last element of l.
func (o oracle) deviations(l []int) []int {
	var indices []int
	for i := len(l) - 1; i >= 0; i-- {
		if o.isDeviation(l[i]) {
			indices = append(indices, i)
		}
	}
	slices.Reverse(indices)
	return indices
}

// alphabet has each status, and marks that are not in order.
var alphabet = []int{'a', 'B', ignored, toOne, toTwo, deviation, refused, above230, devMark}

// everyList calls visit with every list of at most size elements of the alphabet.
func everyList(size int, visit func([]int)) {
	var extend func(l []int)
	extend = func(l []int) {
		visit(l)
		if len(l) == size {
			return
		}
		for _, c := range alphabet {
			extend(append(slices.Clone(l), c))
		}
	}
	extend(nil)
}

func TestEveryShortList(t *testing.T) {
	tables, count := sample(), 0
	everyList(5, func(l []int) {
		count++
		wantOracle(t, tables, ofSample, l)
	})
	if count != 66430 {
		t.Errorf("%d lists", count)
	}
}

// Map of two sequences one after the other is the Maps of these one after the other, and its error that of the
// first one that has one.
func TestMapOfParts(t *testing.T) {
	tables := sample()
	everyList(4, func(l []int) {
		want, wantAt, wantE := mapping.Map(tables, l)
		for i := range len(l) + 1 {
			got, at, e := mapping.Map(tables, l[:i])
			second, secondAt, secondE := mapping.Map(tables, l[i:])
			switch {
			case e == api.OK && secondE == api.OK:
				got = join(got, second)
			case e == api.OK:
				got, at, e = nil, secondAt+i, secondE
			}
			if !slices.Equal(got, want) || at != wantAt || e != wantE {
				t.Errorf("Map(%s) = %s, %d, %d, but of its parts %s, %d, %d", shown(l), shown(want), wantAt, wantE, shown(got), at, e)
			}
		}
	})
}

// pool returns the code points of the sample with each status, in ascending order for each.
func pool() [api.Deviation + 1][]int {
	var p [api.Deviation + 1][]int
	for c := range api.MaxRune + 1 {
		// Not all of those that are Disallowed, or syllables.
		isSurrogate := c >= 0xD800 && c <= 0xDFFF
		if !isSurrogate && (c < 0x100 || c%0x1000 == 0x80 || statusOf(c) > api.Valid) {
			p[statusOf(c)] = append(p[statusOf(c)], c)
		}
	}
	return p
}

func TestRandomLists(t *testing.T) {
	random := rand.New(rand.NewSource(131))
	tables, byStatus := sample(), pool()
	for i := range 2000 {
		sizes := []int{8, 60, 400, most}
		l := make([]int, random.Intn(sizes[i%len(sizes)]+1))
		// In most lists, nothing is Disallowed, or only few code points are.
		oneIn := []int{1, 10, 1000, 1 << 30}[random.Intn(4)]
		for j := range l {
			status := 1 + random.Intn(api.Deviation)
			if random.Intn(5*oneIn) == 0 {
				status = api.Disallowed
			}
			l[j] = byStatus[status][random.Intn(len(byStatus[status]))]
		}
		wantOracle(t, tables, ofSample, l)
	}
}

// randomTables returns tables with rows of random statuses, of which many are well-formed.
func randomTables(random *rand.Rand) api.Tables {
	var t api.Tables
	c := 0x80
	for range 1 + random.Intn(20) {
		c += random.Intn(3)
		status := random.Intn(api.Deviation + 1)
		last := c + random.Intn(3)
		t.Status = append(t.Status, span(c, last, status))
		for ; c <= last; c++ {
			// Now and then, a mapping is missing or too much.
			if (status == api.Mapped) != (random.Intn(60) == 0) {
				t.Maps = append(t.Maps, row(c))
			}
		}
	}
	for i := range t.Maps {
		t.Maps[i].To = randomTarget(random, t.Status)
	}
	return t
}

// randomTarget returns what a code point may be mapped to: ASCII, and code points that have a row, most of them
// Valid or Deviation.
func randomTarget(random *rand.Rand, statuses spans) []int {
	to := make([]int, 1+random.Intn(3))
	if random.Intn(10) == 0 {
		to = make([]int, api.MaxMap)
	}
	for i := range to {
		s := statuses[random.Intn(len(statuses))]
		isTarget := s.Value == api.Valid || s.Value == api.Deviation || random.Intn(200) == 0
		if isTarget {
			to[i] = s.From + random.Intn(s.To-s.From+1)
		} else {
			to[i] = 'a' + random.Intn(26)
		}
	}
	return to
}

// statusIn looks at each row, one after the other.
func statusIn(t api.Tables, c int) int {
	for _, s := range t.Status {
		if s.From <= c && c <= s.To {
			return s.Value
		}
	}
	switch {
	case c < 0x80 && isValidASCII(c):
		return api.Valid
	case isCapital(c):
		return api.Mapped
	default:
		return api.Disallowed
	}
}

// oracleOf returns the oracle for tables that are well-formed.
func oracleOf(t api.Tables) oracle {
	return oracle{
		replacement: func(c int) ([]int, bool) {
			switch statusIn(t, c) {
			case api.Disallowed:
				return nil, false
			case api.Ignored:
				return nil, true
			case api.Mapped:
				for _, m := range t.Maps {
					if m.From == c {
						return m.To, true
					}
				}
				return []int{c - 'A' + 'a'}, true
			default:
				return []int{c}, true
			}
		},
		isDeviation: func(c int) bool { return statusIn(t, c) == api.Deviation },
	}
}

func TestRandomTables(t *testing.T) {
	random := rand.New(rand.NewSource(132))
	wellFormed, others := 0, 0
	for range 6000 {
		tables := randomTables(random)
		l := make([]int, random.Intn(12))
		for i := range l {
			s := tables.Status[random.Intn(len(tables.Status))]
			switch {
			case random.Intn(4) == 0:
				l[i] = []int{'a', 'A', '0'}[random.Intn(3)] + random.Intn(10)
			case s.Value != api.Disallowed || random.Intn(4) == 0:
				l[i] = s.From + random.Intn(s.To-s.From+1)
			default:
				l[i] = '-'
			}
		}
		if table.Check(tables) != 0 {
			others++
			wantRefused(t, "random tables", tables, l, api.ErrTable)
			continue
		}
		wellFormed++
		wantOracle(t, tables, oracleOf(tables), l)
	}
	if wellFormed < 1000 || others < 1000 {
		t.Errorf("%d tables are well-formed, %d are not", wellFormed, others)
	}
}
