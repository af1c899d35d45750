package stream_test

import (
	"math/rand"
	"slices"
	"testing"

	"namedesk/api"
	"namedesk/compose"
	"namedesk/stream"
	"namedesk/table"
)

// oracle follows the words of promises 9.3 and 9.4, with its own list of boundaries.
type oracle struct {
	tables     api.Tables
	isBoundary func(c int) bool
	most       int
	held       []int
}

// normal returns the NFC of a list that has one.
func (o *oracle) normal(t *testing.T, l []int) []int {
	t.Helper()
	nfc, e := compose.NFC(o.tables, l)
	if e != api.OK {
		t.Fatalf("NFC of %d elements: %d", len(l), e)
	}
	return nfc
}

// push returns what Push has to return.
func (o *oracle) push(t *testing.T, c int) ([]int, api.Errno) {
	t.Helper()
	switch {
	case c < 0 || c > api.MaxRune || c >= 0xD800 && c <= 0xDFFF:
		return nil, api.ErrRange
	case o.isBoundary(c):
		nfc := o.normal(t, o.held)
		o.held = []int{c}
		return nfc, api.OK
	case len(o.held) == o.most:
		return nil, api.ErrFull
	default:
		o.held = append(o.held, c)
		return nil, api.OK
	}
}

// end returns what End has to return.
func (o *oracle) end(t *testing.T) []int {
	t.Helper()
	nfc := o.normal(t, o.held)
	o.held = nil
	return nfc
}

// play pushes l into a stream and ends it. It compares each result with the oracle, and all of them with
// the NFC of everything that was accepted. It returns the number of each error.
func play(t *testing.T, name string, s *stream.Stream, o *oracle, l []int) map[api.Errno]int {
	t.Helper()
	var results, accepted []int
	errors := map[api.Errno]int{}
	for _, c := range l {
		want, wantErr := o.push(t, c)
		got, e := s.Push(c)
		if !slices.Equal(got, want) || e != wantErr {
			t.Errorf("%s: %#x with most %d: Push(%#x) = %#x, %d, want %#x, %d", name, l, o.most, c, got, e, want, wantErr)
		}
		wantHeld(t, name, s, len(o.held))
		errors[e]++
		if e == api.OK {
			results, accepted = append(results, got...), append(accepted, c)
		}
	}
	want, got := o.end(t), s.End()
	if !slices.Equal(got, want) {
		t.Errorf("%s: %#x with most %d: End = %#x, want %#x", name, l, o.most, got, want)
	}
	wantHeld(t, name, s, 0)
	if results = append(results, got...); !slices.Equal(results, o.normal(t, accepted)) {
		t.Errorf("%s: %#x with most %d: all results are %#x, want %#x", name, l, o.most, results, o.normal(t, accepted))
	}
	return errors
}

// everyList calls visit with every list of at most size elements of letters.
func everyList(letters []int, size int, visit func([]int)) {
	var extend func(l []int)
	extend = func(l []int) {
		visit(l)
		if len(l) == size {
			return
		}
		for _, c := range letters {
			extend(append(slices.Clone(l), c))
		}
	}
	extend(nil)
}

func TestEveryShortList(t *testing.T) {
	tables := api.Tables{Class: sample().Class, Decomps: sample().Decomps, Excluded: sample().Excluded}
	count := 0
	letters := []int{'e', 'c', 'b', 'd', below220, acute230, 0xE9, secondFirst, markFirst, twice, 0x1100, 0x1161, 0x11A8, -1}
	streams := map[int]*stream.Stream{}
	for most := 1; most <= 3; most++ {
		streams[most] = newStream(t, tables, most)
	}
	everyList(letters, 3, func(l []int) {
		count++
		// One stream is used for all lists: End begins a new one each time.
		for most, s := range streams {
			play(t, "short", s, &oracle{tables: tables, isBoundary: isBoundary, most: most}, l)
		}
	})
	if count != 2955 {
		t.Errorf("%d lists", count)
	}
}

func TestEveryListOfFive(t *testing.T) {
	tables := api.Tables{
		Class:   spans{{From: 0x301, To: 0x301, Value: 230}, {From: 0x323, To: 0x323, Value: 220}},
		Decomps: mappings{mapping(0xE9, 'e', 0x301), mapping(0x1EB9, 'e', 0x323), mapping(0xF0000, 0xE9, 'b')},
	}
	isBoundary := func(c int) bool { return c != 0x301 && c != 0x323 && c != 'b' }
	for most := 2; most <= 5; most++ {
		s := newStream(t, tables, most)
		everyList([]int{'e', 'b', 0x301, 0x323, 0xE9}, 5, func(l []int) {
			play(t, "five", s, &oracle{tables: tables, isBoundary: isBoundary, most: most}, l)
		})
	}
}

// everyPart returns everything that the decompositions of the sample are about, and Hangul.
func everyPart() []int {
	parts := []int{'a', 'm', 'x', 0x3042, cover1, below220b, lonelyMark, 0x1100, 0x1112, 0x1161, 0x1175, 0x11A8, 0x11C2, 0xAC00, 0xAC01, 0xD788}
	for _, m := range sample().Decomps {
		parts = append(append(parts, m.From), m.To...)
	}
	return parts
}

func TestRandomLists(t *testing.T) {
	random := rand.New(rand.NewSource(91))
	tables, pool := sample(), everyPart()
	marks := slices.DeleteFunc(slices.Clone(pool), isBoundary)
	errors := map[api.Errno]int{}
	for range 300 {
		most := 1 + random.Intn(mostHeld)
		s, o := newStream(t, tables, most), &oracle{tables: tables, isBoundary: isBoundary, most: most}
		// Several lists in one stream, from lists of boundaries to lists of what is none.
		for range 3 {
			l, percent := make([]int, random.Intn(40)), random.Intn(101)
			for i := range l {
				switch {
				case random.Intn(40) == 0:
					l[i] = notScalar[random.Intn(len(notScalar))]
				case random.Intn(100) < percent:
					l[i] = marks[random.Intn(len(marks))]
				default:
					l[i] = pool[random.Intn(len(pool))]
				}
			}
			for e, n := range play(t, "random", s, o, l) {
				errors[e] += n
			}
		}
	}
	if errors[api.OK] < 5000 || errors[api.ErrFull] < 500 || errors[api.ErrRange] < 100 || len(errors) != 3 {
		t.Errorf("errors: %v", errors)
	}
}

// randomTables returns tables of which many are well-formed: most decompositions lead to later code
// points, to letters or to marks.
func randomTables(random *rand.Rand) api.Tables {
	var t api.Tables
	count := 1 + random.Intn(10)
	for i := range count {
		to := make([]int, 1+min(random.Intn(8), 1))
		for j := range to {
			switch random.Intn(5) {
			case 0, 1:
				to[j] = 'a' + random.Intn(4)
			case 2, 3:
				to[j] = 0xE0000 + random.Intn(4)
			default:
				to[j] = 0xF0000 + i + random.Intn(count-i+1)
			}
		}
		if random.Intn(3) > 0 {
			to[0] = 'a' + random.Intn(4)
		}
		t.Decomps = append(t.Decomps, mapping(0xF0000+i, to...))
		if random.Intn(8) == 0 {
			t.Excluded = append(t.Excluded, 0xF0000+i)
		}
	}
	for i := range 4 {
		if random.Intn(5) > 0 {
			t.Class = append(t.Class, api.Span{From: 0xE0000 + i, To: 0xE0000 + i, Value: 10 + random.Intn(3)})
		}
	}
	for i := range count {
		if random.Intn(12) == 0 {
			t.Class = append(t.Class, api.Span{From: 0xF0000 + i, To: 0xF0000 + i, Value: 10 + random.Intn(3)})
		}
	}
	return t
}

// boundariesOf decides without the layers below which code points of well-formed tables are boundaries.
// The code points are those of randomTables.
func boundariesOf(t api.Tables) func(c int) bool {
	decomps := map[int][]int{}
	for _, m := range t.Decomps {
		decomps[m.From] = m.To
	}
	class := func(c int) int {
		for _, s := range t.Class {
			if s.From <= c && c <= s.To {
				return s.Value
			}
		}
		return 0
	}
	var full func(c int) []int
	full = func(c int) []int {
		if decomps[c] == nil {
			return []int{c}
		}
		var l []int
		for _, part := range decomps[c] {
			l = append(l, full(part)...)
		}
		return l
	}
	var composable func(c int) bool
	composable = func(c int) bool {
		to := decomps[c]
		if len(to) != 2 || slices.Contains(t.Excluded, c) || class(c)+class(to[0]) != 0 || decomps[to[1]] != nil {
			return false
		}
		before := full(to[0])
		return (decomps[to[0]] == nil || composable(to[0])) && (class(to[1]) == 0 || class(to[1]) >= class(before[len(before)-1]))
	}
	return func(c int) bool {
		d := full(c)[0]
		return class(d) == 0 && !slices.ContainsFunc(t.Decomps, func(m api.Mapping) bool { return composable(m.From) && m.To[1] == d })
	}
}

func TestRandomTables(t *testing.T) {
	random := rand.New(rand.NewSource(92))
	wellFormed, others, boundaries := 0, 0, map[bool]int{}
	for range 3000 {
		tables, most := randomTables(random), 1+random.Intn(6)
		points := []int{'a', 'b', 'c', 'd', 0xE0000, 0xE0001, 0xE0002, 0xE0003}
		for _, m := range tables.Decomps {
			points = append(points, m.From)
		}
		if table.Check(tables) != 0 {
			others++
			wantNoStream(t, "random tables", tables, most, api.ErrTable)
			wantBoundary(t, "random tables", tables, points[random.Intn(len(points))], false)
			continue
		}
		wellFormed++
		isBoundary := boundariesOf(tables)
		for _, c := range points {
			boundaries[isBoundary(c)]++
			wantBoundary(t, "random tables", tables, c, isBoundary(c))
		}
		l := make([]int, random.Intn(16))
		for i := range l {
			l[i] = points[random.Intn(len(points))]
		}
		play(t, "random tables", newStream(t, tables, most), &oracle{tables: tables, isBoundary: isBoundary, most: most}, l)
	}
	if wellFormed < 1000 || others < 200 || boundaries[true] < 5000 || boundaries[false] < 5000 {
		t.Errorf("%d tables are well-formed, %d are not; boundaries: %v", wellFormed, others, boundaries)
	}
}
