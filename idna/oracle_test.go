package idna_test

import (
	"math/rand"
	"regexp"
	"slices"
	"strings"
	"testing"
	"unicode/utf8"

	"namedesk/api"
)

// This file computes what the three functions return for the sample in another way: with strings and expressions, and
// with the properties of the sample written out a second time.

// mappedTo is what replaces the code points of the sample that are Mapped or Ignored, but for capital letters.
var mappedTo = map[rune]string{
	0xAD: "", 0xC9: "é", 0xF4: "o", 0xFB: "", 0x132: "ij", 0x341: "\u0301", 0x2025: "..", 0x212A: "k", 0x2488: "1.", 0x3002: ".",
	0xFDFA: "aaaaaaaaaaaaaaaaaa", 0xFDFB: "éééééééééééééééééé", 0xFF0D: "-", 0xFF38: "x", 0x1F12F: "xn--",
}

// permitted describes the code points of the sample that are Valid or Deviation.
var permitted = regexp.MustCompile(`^[-.a-z0-9\x{B7}\x{DF}\x{E9}\x{FC}\x{300}-\x{302}\x{323}\x{3A9}\x{488}\x{5D0}-\x{5EA}\x{628}\x{660}\x{6F0}\x{915}` +
	`\x{93C}\x{94D}\x{958}\x{200C}\x{200D}\x{2126}\x{4E00}-\x{9FFF}\x{AC00}-\x{D7A3}\x{1F600}\x{10FFFF}]$`)

// mapName returns a name mapped, or the index of the first code point that is Disallowed.
func mapName(s string) (string, int, api.Errno) {
	var b strings.Builder
	for i, r := range []rune(s) {
		to, isMapped := mappedTo[r]
		switch {
		case isMapped:
			b.WriteString(to)
		case r >= 'A' && r <= 'Z':
			b.WriteRune(r + 'a' - 'A')
		case permitted.MatchString(string(r)):
			b.WriteRune(r)
		default:
			return "", i, api.ErrStatus
		}
	}
	if utf8.RuneCountInString(b.String()) > most {
		return "", 0, api.ErrFull
	}
	return b.String(), 0, api.OK
}

// apart replaces all that has a decomposition in the sample, and the only syllable that the tests use.
var apart = strings.NewReplacer("É", "E\u0301", "é", "e\u0301", "ê", "e\u0302", "ô", "o\u0302", "û", "u\u0302", "\u0958", "\u0915\u093C",
	"\u2126", "\u03A9", "\uAC00", "\u1100\u1161")

var classOf = map[rune]int{0x300: 230, 0x301: 230, 0x302: 230, 0x341: 230, 0x323: 220, 0x93C: 7, 0x94D: 9}

// normalForms returns the normalization forms D and C of s.
func normalForms(s string) (nfd, nfc string) {
	l := []rune(apart.Replace(s))
	for i := range l {
		for j := i; j > 0 && classOf[l[j]] > 0 && classOf[l[j-1]] > classOf[l[j]]; j-- {
			l[j-1], l[j] = l[j], l[j-1]
		}
	}
	nfd = string(l)
	return nfd, strings.ReplaceAll(composing.ReplaceAllStringFunc(nfd, composed), "\u1100\u1161", "\uAC00")
}

// composing describes a letter and the first mark of the class 230 behind it.
var composing = regexp.MustCompile(`[Eeou][\x{93C}\x{94D}\x{323}]*[\x{301}\x{302}]`)

// composed composes what composing describes, if the letter and the mark do so.
func composed(s string) string {
	l := []rune(s)
	whole := map[string]string{"E\u0301": "É", "e\u0301": "é", "e\u0302": "ê", "o\u0302": "ô", "u\u0302": "û"}[string(l[0])+string(l[len(l)-1])]
	if whole == "" {
		return s
	}
	return whole + string(l[1:len(l)-1])
}

// isASCII reports whether all bytes of s are from 0 to 127.
func isASCII(s string) bool { return strings.IndexFunc(s, func(r rune) bool { return r > 127 }) < 0 }

// decodeLabel returns what a label stands for.
func decodeLabel(label string) (string, api.Errno) {
	code, isCode := strings.CutPrefix(label, "xn--")
	switch {
	case !isASCII(label) || !isCode:
		return label, api.OK
	case len(label) > 63:
		return "", api.ErrLong
	}
	decoded, e := unpunycode(code)
	if e == api.OK && (isASCII(decoded) || punycode(decoded) != code) {
		return "", api.ErrPuny
	}
	return decoded, e
}

// These describe labels that are not valid, in the order of the errors behind ErrNormal, when all that is permitted for
// joiners and middle dots has been taken away.
var (
	wrongHyphen = regexp.MustCompile(`^-|^..--|-$`)
	wrongMark   = regexp.MustCompile(`^[\x{300}-\x{302}\x{323}\x{341}\x{488}\x{93C}\x{94D}]`)
	goodJoiner  = regexp.MustCompile(`(\x{94D})[\x{200C}\x{200D}]`)
	goodBetween = regexp.MustCompile(`(\x{628}[\x{300}-\x{302}\x{94D}]*)\x{200C}([\x{300}-\x{302}\x{94D}]*\x{628})`)
	wrongJoiner = regexp.MustCompile(`[\x{200C}\x{200D}]`)
	wrongDigits = regexp.MustCompile(`\x{660}.*\x{6F0}|\x{6F0}.*\x{660}`)
)

// checkLabel returns the error of a label of the sample.
func checkLabel(label string) api.Errno {
	_, nfc := normalForms(label)
	switch {
	case label == "":
		return api.ErrEmpty
	case nfc != label:
		return api.ErrNormal
	case wrongHyphen.MatchString(label):
		return api.ErrHyphen
	case wrongMark.MatchString(label):
		return api.ErrMark
	}
	for _, r := range label {
		if r == '.' || !permitted.MatchString(string(r)) {
			return api.ErrStatus
		}
	}
	// Twice, since the same letter may stand behind one joiner and before the next.
	joiners := goodJoiner.ReplaceAllString(label, "$1")
	joiners = goodBetween.ReplaceAllString(goodBetween.ReplaceAllString(joiners, "$1$2"), "$1$2")
	if wrongJoiner.MatchString(joiners) {
		return api.ErrJoiner
	}
	dots := strings.ReplaceAll(strings.ReplaceAll(label, "l\u00B7l", "ll"), "l\u00B7l", "ll")
	if strings.Contains(dots, "\u00B7") || wrongDigits.MatchString(label) {
		return api.ErrContext
	}
	return api.OK
}

// bidiLetter returns a letter that stands for the Bidi class of a code point of the sample.
func bidiLetter(r rune) rune {
	switch {
	case r >= '0' && r <= '9':
		return 'E'
	case r == '-':
		return 'S'
	case r >= 0x300 && r <= 0x36F:
		return 'M'
	case r >= 0x5D0 && r <= 0x5EA:
		return 'R'
	case r == 0x628:
		return 'A'
	case r == 0x660:
		return 'N'
	case r == api.ZWNJ || r == api.ZWJ:
		return 'B'
	case r == 0x1F600:
		return 'O'
	default:
		return 'L'
	}
}

// These describe labels that are RTL, and those that violate the rule, by these letters.
var (
	rightToLeft = regexp.MustCompile(`[RAN]`)
	wrongBidi   = regexp.MustCompile(`^[^LRA]|^[RA].*L|^[RA](.*[^RAENM])M*$|^[RA](.*E.*N|.*N.*E)|^L.*[RAN]|^L(.*[^LEM])M*$`)
)

// checkBidi returns the number of the first label that violates the Bidi rule, if it matters.
func checkBidi(labels []string) (int, api.Errno) {
	isRight, at := false, -1
	for i, label := range labels {
		letters := strings.Map(bidiLetter, label)
		isRight = isRight || rightToLeft.MatchString(letters)
		if at < 0 && wrongBidi.MatchString(letters) {
			at = i
		}
	}
	if !isRight || at < 0 {
		return 0, api.OK
	}
	return at, api.ErrBidi
}

// processed returns the labels of a name in Unicode form, or an error and a position.
func processed(s string) ([]string, int, api.Errno) {
	if s == "" {
		return nil, 0, api.ErrEmpty
	}
	if len(s) > api.MaxBytes {
		return nil, 0, api.ErrFull
	}
	for i, r := range s {
		if _, size := utf8.DecodeRuneInString(s[i:]); r == utf8.RuneError && size == 1 {
			return nil, i, api.ErrUTF
		}
	}
	s, at, e := mapName(s)
	if e != api.OK {
		return nil, at, e
	}
	nfd, nfc := normalForms(s)
	if utf8.RuneCountInString(nfd) > most {
		return nil, 0, api.ErrFull
	}
	labels := strings.Split(nfc, ".")
	for i := range labels {
		if labels[i], e = decodeLabel(labels[i]); e == api.OK {
			e = checkLabel(labels[i])
		}
		if e != api.OK {
			return nil, i, e
		}
	}
	at, e = checkBidi(labels)
	return labels, at, e
}

// outcomeOf returns what the three functions return for a name and the sample.
func outcomeOf(s string) outcome {
	labels, at, e := processed(s)
	if e != api.OK {
		return fails(at, e)
	}
	unicode := strings.Join(labels, ".")
	for i, label := range labels {
		switch isShort := utf8.RuneCountInString(label) <= 256; {
		case isASCII(label):
		case !isShort:
			return late(unicode, i, api.ErrFull)
		default:
			labels[i] = xn(label)
		}
		if len(labels[i]) > 63 {
			return late(unicode, i, api.ErrLong)
		}
	}
	ascii := strings.Join(labels, ".")
	if len(ascii) > 253 || len(labels) > 127 {
		return late(unicode, 0, api.ErrLong)
	}
	return forms(unicode, ascii)
}

func TestOracle(t *testing.T) {
	for _, r := range names {
		if got := outcomeOf(r.s); got != r.want {
			t.Errorf("%s: outcomeOf(%s) = %v", r.name, shown(r.s), got)
		}
	}
}

// alphabets are parts of names, for each error and what it depends on, and how many of them are put together.
var alphabets = []struct {
	parts []string
	size  int
}{
	{[]string{
		"a", "e", "l", "-", ".", " ", "XN--", "9ca", "4db", "e-xbb", ignored, middleDot, bigAcuteE, acuteE, digraph, acute, below, alef, number, virama, excluded,
		zwj, twoStops, wholePrefix, "\xC3",
	}, 3},
	{[]string{"e", "-", ".", acute, "xn--", "9ca"}, 4},
	{[]string{"a", "1", ".", alef, number, acute, "xn--4db"}, 4},
	{[]string{"xn--", "-", "9", "c", "A"}, 5},
	{[]string{"\xC3", "\xA9", "\xE2", "\x80", "\xAD", "a", "."}, 4},
}

// everyName calls visit with every name of at most size parts.
func everyName(parts []string, size int, visit func(string)) {
	var extend func(s string, count int)
	extend = func(s string, count int) {
		visit(s)
		if count == size {
			return
		}
		for _, part := range parts {
			extend(s+part, count+1)
		}
	}
	extend("", 0)
}

// unicodeOf are the Unicode forms of the names that were seen, by their ASCII forms.
type unicodeOf map[string]string

// see compares what the three functions return for a name, and looks at the consequences: names with the same ASCII
// form have the same Unicode form, and both lead to both. It returns the error.
func (u unicodeOf) see(t *testing.T, name string, tables api.Tables, s string) api.Errno {
	want := outcomeOf(s)
	wantOutcome(t, name, tables, s, want)
	if want.e != api.OK {
		return want.e
	}
	unicode, wasSeen := u[want.ascii]
	if !wasSeen {
		u[want.ascii] = want.unicode
		wantSameAgain(t, name, tables, want)
	} else if unicode != want.unicode {
		t.Errorf("%s: %s and %s have the ASCII form %s", name, shown(unicode), shown(want.unicode), shown(want.ascii))
	}
	return api.OK
}

// wantCounts looks at how many names have each result.
func wantCounts(t *testing.T, counts map[api.Errno]int, least int, of ...api.Errno) {
	t.Helper()
	for _, e := range of {
		if counts[e] < least {
			t.Errorf("%d names with the result %d", counts[e], e)
		}
	}
}

func TestEveryShortName(t *testing.T) {
	// Without what does not bear on names, because each call looks at all of it.
	tables, counts, seen := sample(), map[api.Errno]int{}, unicodeOf{}
	tables.Ignorable, tables.Extensions, tables.Prototypes, tables.Script = nil, nil, nil, nil
	for _, a := range alphabets {
		everyName(a.parts, a.size, func(s string) { counts[seen.see(t, "every name", tables, s)]++ })
	}
	wantCounts(t, counts, 20, api.OK, api.ErrUTF, api.ErrStatus, api.ErrPuny, api.ErrEmpty, api.ErrNormal, api.ErrHyphen, api.ErrMark, api.ErrJoiner, api.ErrContext,
		api.ErrBidi)
}

// randomLabel returns a label of about this many parts.
func randomLabel(random *rand.Rand, size int) string {
	parts := []string{
		"a", "b", "l" + middleDot + "l", "0", "1-a", acuteE, "e" + acute, "E" + below + acute, deviation, digraph, kelvin, ignored, ohm, omega, "Z", han, syllable, face,
		ka + virama + zwj + ka, excluded, "a" + mark0, "x" + mappedMark, smallU, last, manyLetters,
	}
	right := []string{alef, bet, beh, beh + zwnj + beh, "1", alef + acute, "-" + bet}
	label := ""
	if random.Intn(12) == 0 {
		for range size + 1 {
			label += right[random.Intn(len(right))]
		}
		return label
	}
	for range 1 + random.Intn(size+1) {
		label += parts[random.Intn(len(parts))]
	}
	return label
}

// randomFlaw returns a part of a name that may not be accepted where it stands.
func randomFlaw(random *rand.Rand) string {
	flaws := []string{
		"..", "-", "--", twoStops, " ", refused, "e" + roof, "u" + roof, zwj, zwnj, middleDot, number, "1." + alef, alef + "a", "\xC3", "\xED\xA0\x80", acute, mark0,
		".xn--9.", "xn--", ".xn--bcher-kva.", ".XN--9CA.", ".xn--a" + acuteE + ".", ".xn--99999999999a.", "." + xn("-"+acuteE) + ".", ".XN--" + punycode(ohm) + ".",
		"." + xn("e"+acute) + ".", times("a", 40), times(smallU, 130), ".a.b.c.d.e.f.g.h", times(manyLetters, 230), times(manyAcute, 120),
	}
	return flaws[random.Intn(len(flaws))]
}

// randomName returns a name of up to so many labels of up to about this many parts, some of them already in ASCII form,
// with a flaw once in so many labels.
func randomName(random *rand.Rand, labels, size, oneIn int) string {
	var all []string
	for range 1 + random.Intn(labels) {
		label := randomLabel(random, size)
		if _, nfc := normalForms(label); random.Intn(4) == 0 && !isASCII(nfc) {
			label = xn(nfc)
		}
		if random.Intn(oneIn) == 0 {
			label += randomFlaw(random)
		}
		if random.Intn(oneIn) == 0 {
			label = randomFlaw(random) + label
		}
		all = append(all, label)
	}
	return strings.Join(all, []string{".", ".", wideStop}[random.Intn(3)])
}

func TestRandomNames(t *testing.T) {
	random := rand.New(rand.NewSource(181))
	tables, counts, seen := sample(), map[api.Errno]int{}, unicodeOf{}
	sizes := [][2]int{{1, 4}, {4, 3}, {4, 30}, {12, 8}, {130, 1}, {100, 3}}
	for i := range 4000 {
		size := sizes[i%len(sizes)]
		s := randomName(random, size[0], size[1], []int{3, 30, 1 << 30}[random.Intn(3)])
		counts[seen.see(t, "a random name", tables, s)]++
	}
	wantCounts(t, counts, 10, api.OK, api.ErrFull, api.ErrUTF, api.ErrStatus, api.ErrPuny, api.ErrEmpty, api.ErrLong, api.ErrNormal, api.ErrHyphen, api.ErrMark,
		api.ErrJoiner, api.ErrContext, api.ErrBidi)
}

// Rules R1 and R3: any bytes, in names that were accepted or not.
func TestRandomBytes(t *testing.T) {
	random := rand.New(rand.NewSource(182))
	tables, counts, seen := sample(), map[api.Errno]int{}, unicodeOf{}
	for range 6000 {
		b := []byte(randomName(random, 3, 3, 4))
		for range random.Intn(4) {
			at, some := random.Intn(len(b)+1), byte(random.Intn(256))
			if random.Intn(2) == 0 {
				some = "abxn-.019E"[random.Intn(10)]
			}
			if at < len(b) && random.Intn(2) == 0 {
				b[at] = some
			} else {
				b = slices.Insert(b, at, some)
			}
		}
		if isUsed(string(b)) {
			counts[seen.see(t, "random bytes", tables, string(b))]++
		}
	}
	wantCounts(t, counts, 20, api.OK, api.ErrUTF, api.ErrStatus, api.ErrPuny, api.ErrHyphen, api.ErrBidi)
}

// isUsed reports whether the computations above know all that may happen to a name: random bytes could be other
// syllables.
func isUsed(s string) bool {
	return strings.IndexFunc(strings.ReplaceAll(s, syllable, ""), func(r rune) bool { return r >= 0xAC00 && r <= 0xD7A3 }) < 0
}
