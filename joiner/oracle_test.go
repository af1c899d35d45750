package joiner_test

import (
	"math/rand"
	"regexp"
	"slices"
	"testing"

	"namedesk/api"
	"namedesk/joiner"
	"namedesk/table"
)

// What stands before and behind an element, with a letter for the joining type of each one.
var (
	leftOnes   = regexp.MustCompile(`[^T]T*$`)
	rightOnes  = regexp.MustCompile(`^T*[^T]`)
	joinBefore = regexp.MustCompile(`[LD]T*$`)
	joinBehind = regexp.MustCompile(`^T*[RD]`)
)

// typeLetters are the letters for the joining types.
const typeLetters = "NLRDCT"

// oracle gives the joining type of each code point, and reports whether this has the class Virama.
type oracle struct {
	joining  func(c int) int
	isVirama func(c int) bool
}

// ofSample is the oracle for the sample.
var ofSample = oracle{
	func(c int) int { return joiningOf[c] },
	func(c int) bool { return slices.Contains(viramas, c) },
}

// letters returns the letters for the joining types of a list.
func (o oracle) letters(l []int) string {
	var b []byte
	for _, c := range l {
		b = append(b, typeLetters[o.joining(c)])
	}
	return string(b)
}

// neighbours returns the results of Left and Right.
func (o oracle) neighbours(letters string, i int) (int, int) {
	leftIndex, rightIndex := -1, -1
	if at := leftOnes.FindStringIndex(letters[:i]); at != nil {
		leftIndex = at[0]
	}
	if at := rightOnes.FindStringIndex(letters[i+1:]); at != nil {
		rightIndex = i + at[1]
	}
	return leftIndex, rightIndex
}

// permits returns the result of Permitted.
func (o oracle) permits(l []int, letters string, i int) bool {
	switch {
	case l[i] < 0x200C || l[i] > 0x200D:
		return true
	case i > 0 && o.isVirama(l[i-1]):
		return true
	default:
		return l[i] == 0x200C && joinBefore.MatchString(letters[:i]) && joinBehind.MatchString(letters[i+1:])
	}
}

// wantOracle compares the results of the functions for these indices of a list of scalar values that is not too
// long, and that of Check.
func wantOracle(t *testing.T, tables api.Tables, o oracle, l, indices []int) {
	t.Helper()
	letters := o.letters(l)
	for _, i := range indices {
		leftIndex, rightIndex := o.neighbours(letters, i)
		wantNeighbours(t, "oracle", tables, l, i, leftIndex, rightIndex)
		wantPermitted(t, "oracle", tables, l, i, o.permits(l, letters, i))
	}
	for i := range l {
		if !o.permits(l, letters, i) {
			wantCheck(t, "oracle", tables, l, i, api.ErrJoiner)
			return
		}
	}
	wantCheck(t, "oracle", tables, l, 0, api.OK)
}

// allOf returns the indices of a list.
func allOf(l []int) []int {
	var indices []int
	for i := range l {
		indices = append(indices, i)
	}
	return indices
}

// alphabet has each joining type, the class Virama, and both joiners.
var alphabet = []int{plain, left, right, dual, zwj, transparent, virama, dualVirama, zwnj}

// everyList calls visit with every list of at most size elements of the alphabet.
func everyList(size int, visit func([]int)) {
	var extend func(l []int)
	extend = func(l []int) {
		visit(l)
		if len(l) == size {
			return
		}
		for _, c := range alphabet {
			extend(append(slices.Clone(l), c))
		}
	}
	extend(nil)
}

func TestEveryShortList(t *testing.T) {
	// Only what bears on joiners, because each call looks at all of it.
	tables, count := api.Tables{Class: sample().Class, Joining: sample().Joining}, 0
	everyList(5, func(l []int) {
		count++
		wantOracle(t, tables, ofSample, l, allOf(l))
	})
	if count != 66430 {
		t.Errorf("%d lists", count)
	}
}

// Promise 14.3: Check of two sequences with a letter between that joins nothing, so that what stands on one side of
// it does not matter on the other one.
func TestCheckOfParts(t *testing.T) {
	tables := sample()
	everyList(3, func(first []int) {
		for _, second := range [][]int{nil, {zwj}, {virama, zwj}, {dual, zwnj, right}, {dual, zwnj, plain}} {
			at, e := joiner.Check(tables, first)
			if e == api.OK {
				at, e = joiner.Check(tables, join([]int{plain}, second))
				if e != api.OK {
					at += len(first)
				}
			}
			wantCheck(t, "two parts", tables, join(first, []int{plain}, second), at, e)
		}
	})
}

// randomPart returns a few elements that are permitted as they stand, or now and then perhaps not.
func randomPart(random *rand.Rand, oneIn int) []int {
	pick := func(of ...int) int { return of[random.Intn(len(of))] }
	some := func() []int {
		l := make([]int, random.Intn(4))
		for i := range l {
			l[i] = pick(transparent, transparent2, transparent7, transparent8, virama, api.MaxRune)
		}
		return l
	}
	switch {
	case random.Intn(oneIn) == 0:
		return []int{pick(zwnj, zwj)}
	case random.Intn(3) == 0:
		return join([]int{pick(left, dual, leftVirama)}, some(), []int{zwnj}, some(), []int{pick(right, dual2, dualVirama)})
	case random.Intn(2) == 0:
		return []int{pick(virama, nonVirama, leftVirama), pick(zwnj, zwj)}
	default:
		return append(some(), pick(plain, '.', right, left, dual, causing, rightMark, nonClass10, 0xD7FF, 0xE000, 0x200B))
	}
}

func TestRandomLists(t *testing.T) {
	random := rand.New(rand.NewSource(141))
	tables := sample()
	permitted, others := 0, 0
	for i := range 1500 {
		size := random.Intn([]int{8, 60, 400, most}[i%4] + 1)
		oneIn := []int{10, 1000, 1 << 30}[random.Intn(3)]
		var l []int
		for len(l) < size {
			l = append(l, randomPart(random, oneIn)...)
		}
		l = l[:size]
		var indices []int
		for range min(size, 6) {
			indices = append(indices, random.Intn(size))
		}
		wantOracle(t, tables, ofSample, l, indices)
		if _, e := joiner.Check(tables, l); e == api.OK {
			permitted++
		} else {
			others++
		}
	}
	if permitted < 300 || others < 300 {
		t.Errorf("%d lists are permitted, %d are not", permitted, others)
	}
}

// randomRows returns rows of random values for the code points of these tests, not all of them valid.
func randomRows(random *rand.Rand, greatest int) spans {
	var rows spans
	for _, bounds := range [][2]int{{0x600, 0x60F}, {zwnj, zwj}} {
		for c := bounds[0] + random.Intn(3); c <= bounds[1]; {
			last := min(c+random.Intn(3), bounds[1])
			rows = append(rows, span(c, last, 1+random.Intn(greatest)))
			c = last + 1 + random.Intn(2)
		}
	}
	if random.Intn(5) == 0 {
		// This one may be wrong, depending on what the values are for.
		rows[random.Intn(len(rows))].Value = []int{-1, 0, greatest + 1}[random.Intn(3)]
	}
	return rows
}

// valueIn looks at each row, one after the other.
func valueIn(rows spans, c int) int {
	for _, s := range rows {
		if s.From <= c && c <= s.To {
			return s.Value
		}
	}
	return 0
}

func TestRandomTables(t *testing.T) {
	random := rand.New(rand.NewSource(142))
	wellFormed, others := 0, 0
	for range 6000 {
		// The greatest class of these is 10, so that many are Virama.
		tables := api.Tables{Joining: randomRows(random, api.Transparent), Class: randomRows(random, 10)}
		l := make([]int, random.Intn(14))
		for i := range l {
			l[i] = 0x600 + random.Intn(16)
			if random.Intn(3) == 0 {
				l[i] = zwnj + random.Intn(2)
			}
		}
		if table.Check(tables) != 0 {
			others++
			wantRefused(t, "random tables", tables, l, api.ErrTable)
			continue
		}
		wellFormed++
		o := oracle{
			func(c int) int { return valueIn(tables.Joining, c) },
			func(c int) bool { return valueIn(tables.Class, c) == 9 },
		}
		wantOracle(t, tables, o, l, allOf(l))
	}
	if wellFormed < 1000 || others < 500 {
		t.Errorf("%d tables are well-formed, %d are not", wellFormed, others)
	}
}
