package context_test

import (
	"math/rand"
	"slices"
	"strings"
	"testing"

	"namedesk/api"
	"namedesk/context"
	"namedesk/table"
)

// oracle gives the script of each code point that is no code point of ASCII or Hangul.
type oracle func(c int) int

// ofSample is the oracle for the sample.
var ofSample oracle = func(c int) int { return scriptOf[c] }

// letters returns a list as two strings: a letter for what each element is itself, and one for its script.
func (o oracle) letters(l []int) (kinds, scripts string) {
	var k, s []byte
	for _, c := range l {
		kind := byte('.')
		switch at := slices.Index(needing, c); {
		case c == 0x6C:
			kind = 'l'
		case at >= 15:
			kind = 'E'
		case at >= 5:
			kind = 'A'
		case at >= 0:
			kind = "MNGGK"[at]
		}
		script := byte('.')
		switch o(c) {
		case api.Greek:
			script = 'g'
		case api.Hebrew:
			script = 'h'
		case api.Hiragana, api.Katakana, api.Han:
			script = 'j'
		}
		k, s = append(k, kind), append(s, script)
	}
	return string(k), string(s)
}

// permits returns the result of Permitted for a list with these letters.
func permits(kinds, scripts string, i int) bool {
	switch kinds[i] {
	case 'M':
		return strings.HasSuffix(kinds[:i], "l") && strings.HasPrefix(kinds[i+1:], "l")
	case 'N':
		return strings.HasPrefix(scripts[i+1:], "g")
	case 'G':
		return strings.HasSuffix(scripts[:i], "h")
	case 'K':
		return strings.Contains(scripts, "j")
	case 'A':
		return !strings.Contains(kinds, "E")
	case 'E':
		return !strings.Contains(kinds, "A")
	default:
		return true
	}
}

// check returns the results of Check.
func (o oracle) check(l []int) (int, api.Errno) {
	kinds, scripts := o.letters(l)
	for i := range l {
		if !permits(kinds, scripts, i) {
			return i, api.ErrContext
		}
	}
	return 0, api.OK
}

// wantOracle compares the results of Permitted for these indices of a list of scalar values that is not too long,
// and of Check.
func wantOracle(t *testing.T, tables api.Tables, o oracle, l, indices []int) {
	t.Helper()
	kinds, scripts := o.letters(l)
	for _, i := range indices {
		wantPermitted(t, "oracle", tables, l, i, permits(kinds, scripts, i))
	}
	at, e := o.check(l)
	wantCheck(t, "oracle", tables, l, at, e)
}

// allOf returns the indices of a list.
func allOf(l []int) []int {
	var indices []int
	for i := range l {
		indices = append(indices, i)
	}
	return indices
}

// alphabet has each kind of code points that need a context, and what permits them.
var alphabet = []int{plain, el, middleDot, keraia, greek, geresh, gershayim, hebrew, katakanaDot, hiragana, katakana, han, arabic9, extended0}

// everyList calls visit with every list of at most size elements of the alphabet.
func everyList(size int, visit func([]int)) {
	var extend func(l []int)
	extend = func(l []int) {
		visit(l)
		if len(l) == size {
			return
		}
		for _, c := range alphabet {
			extend(append(slices.Clone(l), c))
		}
	}
	extend(nil)
}

func TestEveryShortList(t *testing.T) {
	// Only what bears on contexts, because each call looks at all of it.
	tables, count := api.Tables{Script: sample().Script}, 0
	everyList(4, func(l []int) {
		count++
		wantOracle(t, tables, ofSample, l, allOf(l))
	})
	if count != 41371 {
		t.Errorf("%d lists", count)
	}
}

// digits reports whether a list has digits of the one kind, and of the other kind.
func digits(l []int) (arabic, extended bool) {
	return slices.ContainsFunc(l, func(c int) bool { return c >= 0x660 && c <= 0x669 }),
		slices.ContainsFunc(l, func(c int) bool { return c >= 0x6F0 && c <= 0x6F9 })
}

// The consequence of the chapter: two sequences that are permitted, with a full stop between them.
func TestTwoSequencesWithAFullStopBetween(t *testing.T) {
	tables := scripts(sample().Script...)
	var permitted [][]int
	everyList(2, func(l []int) {
		if _, e := context.Check(tables, l); e == api.OK {
			permitted = append(permitted, l)
		}
	})
	permitted = append(permitted, amongOthers, []int{el, middleDot, el}, []int{hebrew, geresh, extended5}, repeat(arabic0, 1000))
	for _, first := range permitted {
		for _, second := range permitted {
			arabic1, extended1 := digits(first)
			arabic2, extended2 := digits(second)
			want := api.OK
			if arabic1 && extended2 || extended1 && arabic2 {
				want = api.ErrContext
			}
			l := join(first, []int{'.'}, second)
			if _, e := context.Check(tables, l); e != want {
				t.Errorf("Check(%s) = %d, want %d", shown(l), e, want)
			}
		}
	}
	if len(permitted) < 100 {
		t.Errorf("%d sequences are permitted", len(permitted))
	}
}

// randomPart returns a few elements that are permitted as they stand, or now and then perhaps not.
func randomPart(random *rand.Rand, oneIn int) []int {
	pick := func(of ...int) int { return of[random.Intn(len(of))] }
	switch {
	case random.Intn(oneIn) == 0:
		return []int{pick(middleDot, keraia, geresh, gershayim, katakanaDot, extended5)}
	case random.Intn(6) == 0:
		return []int{el, middleDot, el}
	case random.Intn(5) == 0:
		return []int{keraia, pick(greek, greekMark, api.MaxRune)}
	case random.Intn(4) == 0:
		return []int{pick(hebrew, hebrewMark, 0xD7FF), pick(geresh, gershayim), pick(geresh, plain)}
	case random.Intn(40) == 0:
		return []int{katakanaDot, pick(hiragana, katakana, han), katakanaDot}
	case random.Intn(40) == 0:
		return []int{arabic0 + random.Intn(10)}
	default:
		return []int{pick(plain, '.', el, greek, hebrew, latin, inherited, extendedGreek, extendedHebrew, extendedKana, extendedHan, hangul, unknown)}
	}
}

func TestRandomLists(t *testing.T) {
	random := rand.New(rand.NewSource(151))
	tables := sample()
	permitted, others := 0, 0
	for i := range 1500 {
		size := random.Intn([]int{8, 60, 400, most}[i%4] + 1)
		oneIn := []int{10, 1000, 1 << 30}[random.Intn(3)]
		var l []int
		for len(l) < size {
			l = append(l, randomPart(random, oneIn)...)
		}
		l = l[:size]
		var indices []int
		for range min(size, 6) {
			indices = append(indices, random.Intn(size))
		}
		wantOracle(t, tables, ofSample, l, indices)
		if _, e := ofSample.check(l); e == api.OK {
			permitted++
		} else {
			others++
		}
	}
	if permitted < 300 || others < 300 {
		t.Errorf("%d lists are permitted, %d are not", permitted, others)
	}
}

// randomRows returns rows of random scripts for the code points of these tests, not all of them valid.
func randomRows(random *rand.Rand) spans {
	among := []int{api.Greek, api.Hebrew, api.Han, api.Hiragana, api.Katakana, api.Common, api.Latin, api.Bopomofo, api.Arabic, 0, api.MaxScript}
	var rows spans
	for _, bounds := range [][2]int{{middleDot, middleDot}, {0x371, 0x376}, {0x5F1, 0x5F6}, {0x65F, 0x661}, {0x6F9, 0x6FA}, {0x30FA, 0x30FC}} {
		for c := bounds[0] + random.Intn(3); c <= bounds[1]; {
			last := min(c+random.Intn(3), bounds[1])
			rows = append(rows, span(c, last, among[random.Intn(len(among))]))
			c = last + 1 + random.Intn(2)
		}
	}
	if len(rows) > 0 && random.Intn(4) == 0 {
		rows[random.Intn(len(rows))].Value = []int{-1, api.MaxScript + 1}[random.Intn(2)]
	}
	return rows
}

// valueIn looks at each row, one after the other.
func valueIn(rows spans, c int) int {
	for _, s := range rows {
		if s.From <= c && c <= s.To {
			return s.Value
		}
	}
	return 0
}

func TestRandomTables(t *testing.T) {
	random := rand.New(rand.NewSource(152))
	wellFormed, others := 0, 0
	among := []int{el, el, middleDot, 0x371, 0x372, 0x376, keraia, keraia, 0x5F1, 0x5F2, geresh, gershayim, 0x5F5, katakanaDot, 0x30FA, 0x30FC}
	for range 6000 {
		tables := scripts(randomRows(random)...)
		l := make([]int, random.Intn(14))
		for i := range l {
			l[i] = among[random.Intn(len(among))]
			if random.Intn(5) == 0 {
				l[i] = []int{0x65F, 0x660, 0x661, 0x6F9, 0x6FA}[random.Intn(5)]
			}
		}
		if table.Check(tables) != 0 {
			others++
			wantRefused(t, "random tables", tables, l, api.ErrTable)
			continue
		}
		wellFormed++
		wantOracle(t, tables, func(c int) int { return valueIn(tables.Script, c) }, l, allOf(l))
	}
	if wellFormed < 1000 || others < 500 {
		t.Errorf("%d tables are well-formed, %d are not", wellFormed, others)
	}
}
