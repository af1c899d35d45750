package valid_test

import (
	"math/rand"
	"regexp"
	"slices"
	"strings"
	"testing"

	"namedesk/api"
	"namedesk/table"
)

// oracle gives the properties of each code point. The decompositions are always those of the sample, and so are the
// classes of what takes part in them.
type oracle struct {
	isFor, isMark func(c int) bool
	joining       func(c int) int
	script        func(c int) int
	class         func(c int) int
}

// ofSample is the oracle for the sample, with its properties written out a second time.
var ofSample = oracle{
	isFor: func(c int) bool {
		return c >= 'a' && c <= 'z' || c >= '0' && c <= '9' || c == '-' || c >= 0xAC00 && c <= 0xD7A3 || slices.Contains(permittedByStatus, c)
	},
	isMark: func(c int) bool { return slices.Contains(marks, c) },
	joining: func(c int) int {
		return map[int]int{
			left: api.LeftJoining, right: api.RightJoining, dual: api.DualJoining, 0x300: api.Transparent, acute: api.Transparent,
			roof: api.Transparent, transparent: api.Transparent, virama: api.Transparent, zwj: api.JoinCausing,
		}[c]
	},
	script: func(c int) int {
		return map[int]int{
			omega: api.Greek, greek: api.Greek, 0x3B2: api.Greek, hebrew: api.Hebrew, 0x5D1: api.Hebrew, hiragana: api.Hiragana, han: api.Han, 0x4E01: api.Han,
		}[c]
	},
	class: func(c int) int {
		return map[int]int{
			0x300: 230, acute: 230, roof: 230, devMark: 216, below: 220, refusedMark: 220, slash: 1, mappedMark: 230, transparent: 27, nukta: 7,
			virama: 9, viramaLetter: 9, ring: 218,
		}[c]
	},
}

// lettersOf returns a label as a string, with a letter for each element.
func lettersOf(l []int, letter func(c int) byte) string {
	var b []byte
	for _, c := range l {
		b = append(b, letter(c))
	}
	return string(b)
}

// notComposed describes what composition changes: one that is replaced, two jamo or a syllable and a jamo, and
// two that compose, possibly with others of a class from 1 to 229 between them.
var notComposed = regexp.MustCompile(`S|LV|vT|[eE]m*a|em*r|Rm*a|0m*a|-s`)

// composing returns the letter of a code point for notComposed.
func (o oracle) composing(c int) byte {
	if at := slices.Index([]int{singleton, excluded, leading, vowel, trailing, syllable, 'e', 'E', roofE, acute, roof, mark0, hyph, '<', slash}, c); at >= 0 {
		return "SSLVTveERar0--s"[at]
	}
	if class := o.class(c); class > 0 && class < 230 {
		return 'm'
	}
	return '.'
}

// isNormal reports whether a label is in normalization form C. It looks twice for what composes, because slash does so
// itself, and also stands between others that do.
func (o oracle) isNormal(l []int) bool {
	for i := 1; i < len(l); i++ {
		if class := o.class(l[i]); class != 0 && class < o.class(l[i-1]) {
			return false
		}
	}
	letters := lettersOf(l, o.composing)
	return !notComposed.MatchString(letters) && !notComposed.MatchString(strings.ReplaceAll(letters, "s", "m"))
}

// These describe the elements on both sides of ZWNJ where it is permitted between those that join.
var (
	joinsBefore = regexp.MustCompile(`[ld]t*$`)
	joinsBehind = regexp.MustCompile(`^t*[rd]`)
)

// isJoinerWrong reports whether the element with index i is a joiner that is not permitted.
func (o oracle) isJoinerWrong(l []int, i int) bool {
	if l[i] != zwnj && l[i] != zwj || i > 0 && o.class(l[i-1]) == 9 {
		return false
	}
	letters := lettersOf(l, func(c int) byte { return ".lrdct"[o.joining(c)] })
	return l[i] == zwj || !joinsBefore.MatchString(letters[:i]) || !joinsBehind.MatchString(letters[i+1:])
}

// isContextWrong reports whether the element with index i needs a context that it does not have.
func (o oracle) isContextWrong(l []int, i int) bool {
	letters := lettersOf(l, func(c int) byte {
		switch {
		case c == el:
			return 'l'
		case c >= 0x660 && c <= 0x669:
			return 'A'
		case c >= 0x6F0 && c <= 0x6F9:
			return 'E'
		default:
			return '.'
		}
	})
	scripts := lettersOf(l, func(c int) byte { return byte('0' + o.script(c)) })
	switch c := l[i]; {
	case c == middleDot:
		return !strings.HasSuffix(letters[:i], "l") || !strings.HasPrefix(letters[i+1:], "l")
	case c == keraia:
		return !strings.HasPrefix(scripts[i+1:], string(rune('0'+api.Greek)))
	case c == geresh || c == gershayim:
		return !strings.HasSuffix(scripts[:i], string(rune('0'+api.Hebrew)))
	case c == katakanaDot:
		return !strings.ContainsAny(scripts, string([]rune{'0' + api.Hiragana, '0' + api.Katakana, '0' + api.Han}))
	case letters[i] == 'A':
		return strings.Contains(letters, "E")
	case letters[i] == 'E':
		return strings.Contains(letters, "A")
	default:
		return false
	}
}

// check returns the result of Check for a label of scalar values that is not too long, and neither is its NFD.
func (o oracle) check(l []int) api.Errno {
	isWrongAt := func(isWrong func(l []int, i int) bool) bool {
		for i := range l {
			if isWrong(l, i) {
				return true
			}
		}
		return false
	}
	switch {
	case len(l) == 0:
		return api.ErrEmpty
	case !o.isNormal(l):
		return api.ErrNormal
	case refusedHyphens.MatchString(lettersOf(l, func(c int) byte { return map[bool]byte{true: '-', false: 'a'}[c == '-'] })):
		return api.ErrHyphen
	case o.isMark(l[0]):
		return api.ErrMark
	case slices.ContainsFunc(l, func(c int) bool { return c == '.' || !o.isFor(c) }):
		return api.ErrStatus
	case isWrongAt(o.isJoinerWrong):
		return api.ErrJoiner
	case isWrongAt(o.isContextWrong):
		return api.ErrContext
	default:
		return api.OK
	}
}

// alphabets have elements for each error, and what it depends on.
var alphabets = []struct {
	elements []int
	size     int
}{
	{[]int{
		plain, el, 'e', hyph, stop, acute, below, mark0, acuteE, singleton, ignored, mapped, deviation, zwnj, zwj, virama, viramaLetter, dual,
		transparent, middleDot, geresh, hebrew, arabic0, extended0,
	}, 3},
	{[]int{el, hyph, 'e', acute, stop, zwj, virama, middleDot}, 5},
	{[]int{hyph, mark0, acute, refused, zwnj, dual, keraia, greek}, 5},
	{[]int{hyph, plain, katakanaDot, han}, 7},
}

// everyLabel calls visit with every label of at most size elements of an alphabet.
func everyLabel(alphabet []int, size int, visit func([]int)) {
	var extend func(l []int)
	extend = func(l []int) {
		visit(l)
		if len(l) == size {
			return
		}
		for _, c := range alphabet {
			extend(append(slices.Clone(l), c))
		}
	}
	extend(nil)
}

func TestEveryShortLabel(t *testing.T) {
	// Without what does not bear on labels, because each call looks at all of it.
	tables, counts := sample(), map[api.Errno]int{}
	tables.Bidi, tables.Ignorable, tables.Extensions, tables.Prototypes = nil, nil, nil, nil
	for _, a := range alphabets {
		everyLabel(a.elements, a.size, func(l []int) {
			want := ofSample.check(l)
			counts[want]++
			wantCheck(t, "every label", tables, l, want)
		})
	}
	if counts[api.ErrEmpty] != len(alphabets) {
		t.Errorf("%d empty labels", counts[api.ErrEmpty])
	}
	for _, e := range []api.Errno{api.OK, api.ErrNormal, api.ErrHyphen, api.ErrMark, api.ErrStatus, api.ErrJoiner, api.ErrContext} {
		if counts[e] < 1000 {
			t.Errorf("%d labels with the result %d", counts[e], e)
		}
	}
}

// randomPart returns a few elements that are permitted in the middle of a label.
func randomPart(random *rand.Rand) []int {
	pick := func(of ...int) int { return of[random.Intn(len(of))] }
	parts := [][]int{
		{el, middleDot, el}, {keraia, greek}, {hebrew, geresh}, {hebrew, gershayim, geresh}, {dual, transparent, zwnj, transparent, right},
		{dual, zwnj, dual}, {ka, virama, pick(zwnj, zwj)}, {viramaLetter, zwj}, {plain, hyph, plain}, {arabic0 + random.Intn(10)},
		{'e', below, 0x300}, {roofAcuteE, acute}, {plain, slash, nukta, virama, transparent, devMark, below, acute, roof},
		{pick(plain, '0', acuteE, roofE, deviation, hebrew, syllable, syllable3, api.MaxRune)}, {plain, ring, pick(below, acute)}, {mark0, below},
	}
	return parts[random.Intn(len(parts))]
}

// wrongParts are a few elements each that are not permitted in the middle of a label, or not behind some others.
var wrongParts = [][]int{
	{'e', acute}, {singleton}, {plain, acute, below}, {syllable, trailing}, {'E', below, acute}, {stop}, {refused}, {'A'}, {ignored}, {mapped},
	{plain, refusedMark}, {plain, zwj}, {right, zwnj, dual}, {plain, zwnj, virama}, {middleDot}, {plain, geresh}, {keraia}, {katakanaDot}, {extended0},
}

// randomLabel returns a label of about this size, with what is wrong once in so many parts.
func randomLabel(random *rand.Rand, size, oneIn int) []int {
	l, wrong := []int(nil), wrongParts[random.Intn(len(wrongParts))]
	for len(l) < size {
		if random.Intn(oneIn) == 0 {
			l = append(l, wrong...)
		} else {
			l = append(l, randomPart(random)...)
		}
	}
	for _, c := range []int{hyph, mark0, below, plain} {
		if random.Intn(8) == 0 {
			l = append([]int{c}, l...)
		}
	}
	if random.Intn(12) == 0 {
		l = append(l, hyph)
	}
	return l
}

func TestRandomLabels(t *testing.T) {
	random := rand.New(rand.NewSource(171))
	tables, counts := sample(), map[api.Errno]int{}
	for i := range 5000 {
		size, oneIn := random.Intn([]int{6, 30, 300, most / 4}[i%4]), []int{4, 40, 400, 1 << 30}[random.Intn(4)]
		l := randomLabel(random, size, oneIn)
		want := ofSample.check(l)
		counts[want]++
		wantCheck(t, "a random label", tables, l, want)
	}
	for _, e := range []api.Errno{api.OK, api.ErrEmpty, api.ErrNormal, api.ErrHyphen, api.ErrMark, api.ErrStatus, api.ErrJoiner, api.ErrContext} {
		if counts[e] < 40 {
			t.Errorf("%d labels with the result %d", counts[e], e)
		}
	}
}

// anyRows returns rows from one code point to another with random values, not all of them valid.
func anyRows(random *rand.Rand, from, to, least, greatest int) spans {
	var rows spans
	for c := from + random.Intn(2); c <= to; {
		last := min(c+random.Intn(3), to)
		rows = append(rows, span(c, last, least+random.Intn(greatest-least+1)))
		c = last + 1 + random.Intn(2)
	}
	if len(rows) > 0 && random.Intn(20) == 0 {
		rows[random.Intn(len(rows))].Value = []int{-1, 255}[random.Intn(2)]
	}
	return rows
}

// valueIn looks at each row, one after the other, and returns otherwise if no row has c.
func valueIn(rows spans, c, otherwise int) int {
	for _, s := range rows {
		if s.From <= c && c <= s.To {
			return s.Value
		}
	}
	return otherwise
}

// oracleOf returns the oracle for tables with the decompositions of the sample, or none.
func oracleOf(tables api.Tables) oracle {
	return oracle{
		isFor: func(c int) bool {
			fixed := c >= 'a' && c <= 'z' || c >= '0' && c <= '9' || c == '-'
			status := valueIn(tables.Status, c, 0)
			return fixed || status == api.Valid || status == api.Deviation
		},
		isMark:  func(c int) bool { return valueIn(tables.Category, c, 0) == api.Mark },
		joining: func(c int) int { return valueIn(tables.Joining, c, 0) },
		script:  func(c int) int { return valueIn(tables.Script, c, 0) },
		class:   func(c int) int { return valueIn(tables.Class, c, 0) },
	}
}

// randomTables returns tables with random properties of the code points from 0x1230 to 0x123F and of those that
// have a meaning of their own.
func randomTables(random *rand.Rand) api.Tables {
	const from, to = 0x1230, 0x123F
	one := func(c, value int) api.Span { return span(c, c, value) }
	t := api.Tables{
		Category: append(anyRows(random, from, to, api.Letter, api.Digit), one(zwnj, random.Intn(4)), one(katakanaDot, random.Intn(3))),
		Class:    append(anyRows(random, from, to, 8, 10), one(zwj, 1+random.Intn(20))),
		Joining:  append(anyRows(random, from, to, 0, api.Transparent), one(zwj, random.Intn(6))),
		Script:   append(anyRows(random, from, to, api.Latin, api.Hebrew), one(keraia, 0)),
		Status:   append(spans{one(middleDot, 1+random.Intn(2)), one(keraia, api.Valid), one(geresh, api.Valid)}, anyRows(random, from, to, 0, 2)...),
	}
	slices.SortFunc(t.Script, func(a, b api.Span) int { return a.From - b.From })
	t.Status = append(t.Status, one(zwnj, 4-random.Intn(3)&^1), one(zwj, api.Deviation), one(katakanaDot, api.Valid))
	if random.Intn(3) > 0 {
		for i := range t.Status {
			t.Status[i].Value = []int{api.Valid, api.Deviation}[random.Intn(2)]
		}
	}
	return t
}

func TestRandomTables(t *testing.T) {
	random := rand.New(rand.NewSource(172))
	others, counts := 0, map[api.Errno]int{}
	for range 12000 {
		tables := randomTables(random)
		l := make([]int, random.Intn(8))
		for i := range l {
			l[i] = 0x1230 + random.Intn(16)
			if random.Intn(3) == 0 {
				l[i] = []int{hyph, zwnj, zwj, middleDot, el, el, keraia, geresh, katakanaDot, plain}[random.Intn(10)]
			}
		}
		if table.Check(tables) != 0 {
			others++
			wantCheck(t, "random tables", tables, l, api.ErrTable)
			continue
		}
		want := oracleOf(tables).check(l)
		counts[want]++
		wantCheck(t, "random tables", tables, l, want)
	}
	if others < 500 {
		t.Errorf("%d tables are not well-formed", others)
	}
	for _, e := range []api.Errno{api.OK, api.ErrEmpty, api.ErrNormal, api.ErrHyphen, api.ErrMark, api.ErrStatus, api.ErrJoiner, api.ErrContext} {
		if counts[e] < 200 {
			t.Errorf("%d labels with the result %d", counts[e], e)
		}
	}
}
