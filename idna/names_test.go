package idna_test

import (
	"strings"
	"testing"

	"namedesk/api"
)

// Promises 18.1 to 18.3: the examples of the chapter and of DOC.md, with the tables of the tests and with none.
func TestExamples(t *testing.T) {
	for _, tables := range []api.Tables{{}, sample()} {
		wantNames(t, tables, []sampleName{
			{"capital letters", "Example", same("example")},
			{"two full stops next to each other", "a..b", fails(1, api.ErrEmpty)},
			{"no Punycode", "xn--9", fails(0, api.ErrPuny)},
		})
	}
	wantNames(t, sample(), []sampleName{{"bücher", "bücher", forms("bücher", "xn--bcher-kva")}})
}

// Promises 18.1 to 18.3: names of ASCII.
func TestNamesOfASCII(t *testing.T) {
	for _, tables := range []api.Tables{{}, sample()} {
		wantNames(t, tables, []sampleName{
			{"a letter", "a", same("a")},
			{"a digit", "7", same("7")},
			{"all letters and digits", "abcdefghijklmnopqrstuvwxyz0123456789", same("abcdefghijklmnopqrstuvwxyz0123456789")},
			{"all capital letters", "ABCDEFGHIJKLMNOPQRSTUVWXYZ", same("abcdefghijklmnopqrstuvwxyz")},
			{"several labels", "Www.Example-1.COM", same("www.example-1.com")},
			{"digits and hyphens", "1-2.3--4.5-6---7", same("1-2.3--4.5-6---7")},
			{"a beginning of the prefix", "x.xn.xn-a.n--x", same("x.xn.xn-a.n--x")},
			{"the prefix behind the beginning", "axn--b", same("axn--b")},
			{"a prefix that a full stop divides", "xn-.-a", fails(0, api.ErrHyphen)},
		})
	}
}

// Promise 18.1, step 2: code points that are mapped, ignored and kept, which may make anything of a name.
func TestMappedNames(t *testing.T) {
	wantNames(t, sample(), []sampleName{
		{"a letter", bigAcuteE, forms(acuteE, "xn--9ca")},
		{"several letters", "a" + digraph + kelvin, same("aijk")},
		{"one of MaxMap letters", manyLetters, same("aaaaaaaaaaaaaaaaaa")},
		{"a Deviation stays", "Fa" + deviation + ".de", forms("faß.de", "xn--fa-hia.de")},
		{"ignored ones", ignored + "a" + ignored + ignored + "b" + ignored, same("ab")},
		{"ignored ones next to full stops", "a" + ignored + "." + ignored + "b", same("a.b")},
		{"a mark on a letter", "e" + mappedMark, forms(acuteE, "xn--9ca")},
		{"an ignored one between a letter and a mark", "e" + ignored + acute, forms(acuteE, "xn--9ca")},
		{"an ignored one within the prefix", "xn-" + ignored + "-bcher-kva", forms("bücher", "xn--bcher-kva")},
		{"a letter of the prefix", wideX + "n--bcher-kva", forms("bücher", "xn--bcher-kva")},
		{"hyphens of the prefix", "xn" + wideHyphen + wideHyphen + "bcher" + wideHyphen + "kva", forms("bücher", "xn--bcher-kva")},
		{"the whole prefix", wholePrefix + "bcher-kva", forms("bücher", "xn--bcher-kva")},
		{"a letter of Punycode", "xn--bcher-" + kelvin + "va", forms("bücher", "xn--bcher-kva")},
		{"all that makes no label", ignored, fails(0, api.ErrEmpty)},
		{"all that makes no label, several", ignored + ignored, fails(0, api.ErrEmpty)},
		{"all of a label behind another", "a." + ignored + ".b", fails(1, api.ErrEmpty)},
		{"a hyphen that is first", wideHyphen + "a", fails(0, api.ErrHyphen)},
		{"a hyphen that is last when ignored ones are gone", "a-" + ignored, fails(0, api.ErrHyphen)},
		{"a mark that is first when ignored ones are gone", ignored + acute, fails(0, api.ErrMark)},
	})
}

// Promise 18.1, step 2 and 4: full stops that mapping makes divide a name too.
func TestMappedFullStops(t *testing.T) {
	wantNames(t, sample(), []sampleName{
		{"one", "a" + wideStop + "b", same("a.b")},
		{"some of several", "A" + wideStop + "b.c" + wideStop + acuteE, forms("a.b.c."+acuteE, "a.b.c.xn--9ca")},
		{"one behind a digit", "a" + oneStop + "b", same("a1.b")},
		{"one behind a digit, and an ignored one", oneStop + ignored + "b", same("1.b")},
		{"in front of a prefix", "a" + wideStop + "xn--9ca", forms("a."+acuteE, "a.xn--9ca")},
		{"within Punycode", "xn--9" + wideStop + "ca", fails(0, api.ErrPuny)},
		{"only one", wideStop, fails(0, api.ErrEmpty)},
		{"at the beginning", wideStop + "a", fails(0, api.ErrEmpty)},
		{"at the end", "a" + wideStop, fails(1, api.ErrEmpty)},
		{"at the end, behind a digit", "a.b" + oneStop, fails(2, api.ErrEmpty)},
		{"two next to each other", "a" + wideStop + wideStop + "b", fails(1, api.ErrEmpty)},
		{"next to one of ASCII", "a." + wideStop + "b", fails(1, api.ErrEmpty)},
		{"before one of ASCII", "a" + wideStop + ".b", fails(1, api.ErrEmpty)},
		{"two of one code point", "a" + twoStops + "b", fails(1, api.ErrEmpty)},
		{"the number of a label behind them", "a" + wideStop + "b" + oneStop + "-c", fails(2, api.ErrHyphen)},
		{"a mark behind one", "a" + wideStop + acute, fails(1, api.ErrMark)},
	})
}

// Promise 18.1, step 3: names are brought into normalization form C when they have been mapped.
func TestNormalizedNames(t *testing.T) {
	wantNames(t, sample(), []sampleName{
		{"a letter and a mark", "e" + acute, forms(acuteE, "xn--9ca")},
		{"a capital letter and a mark", "E" + acute, forms(acuteE, "xn--9ca")},
		{"marks that are not in order", "e" + acute + below, forms(acuteE+below, xn(acuteE+below))},
		{"marks that are not in order, and do not compose", "a" + acute + below, forms("a"+below+acute, xn("a"+below+acute))},
		{"marks that stay as they are", "a" + below + acute, forms("a"+below+acute, xn("a"+below+acute))},
		{"one that is replaced", ohm, forms(omega, xn(omega))},
		{"one that is never composed", excluded, forms(ka+nukta, xn(ka+nukta))},
		{"several labels", "e" + acute + "." + ohm + ".a", forms(acuteE+"."+omega+".a", "xn--9ca."+xn(omega)+".a")},
		{"a syllable", syllable, forms(syllable, xn(syllable))},
		{"one that becomes Disallowed", "e" + roof, fails(0, api.ErrStatus)},
		{"one that becomes Mapped", "a.o" + roof, fails(1, api.ErrStatus)},
		{"one that becomes Ignored", "a.b.u" + roof, fails(2, api.ErrStatus)},
		{"one that is Mapped as it stands", mappedRoof, same("o")},
		{"one that is Ignored as it stands", "a" + ignoredRoof, same("a")},
		{"one that is Disallowed as it stands", "a.e" + roof + refusedRoof, fails(4, api.ErrStatus)},
	})
}

// Promise 18.1, step 3: code points of ASCII may compose, if the tables say so. What results is not ASCII, and neither a
// name nor a label is left out because it was. (The consequences of the chapter are not for such tables.)
func TestASCIIThatComposes(t *testing.T) {
	const ab, nHyphen, cd = "\u1234", "\u1235", "\u1236"
	tables := api.Tables{
		Status:  spans{span(0x1234, 0x1235, api.Valid), one(0x3002, api.Mapped)},
		Maps:    mappings{row(0x3002, '.')},
		Decomps: mappings{row(0x1234, 'a', 'b'), row(0x1235, 'n', '-'), row(0x1236, 'c', 'd')},
	}
	for _, row := range []sampleName{
		{"letters", "ab", forms(ab, xn(ab))},
		{"capital letters", "AB", forms(ab, xn(ab))},
		{"the same letters in another order", "baab", forms("ba"+ab, xn("ba"+ab))},
		{"a full stop between them", "a.b", same("a.b")},
		{"a mapped full stop between them", "a" + wideStop + "b", same("a.b")},
		{"a hyphen that is no more last", "ban-", forms("ba"+nHyphen, xn("ba"+nHyphen))},
		{"a prefix that is none any more", "xn--9ca", forms("x"+nHyphen+"-9ca", xn("x"+nHyphen+"-9ca"))},
		{"a prefix that is none any more, and is no Punycode", "xn--9", forms("x"+nHyphen+"-9", xn("x"+nHyphen+"-9"))},
		{"one that becomes Disallowed", "a.cd", fails(1, api.ErrStatus)},
		{"one that becomes Disallowed, divided", "a.c.d", same("a.c.d")},
	} {
		wantOutcome(t, row.name, tables, row.s, row.want)
	}
	tables.Decomps = tables.Decomps[:1]
	for _, row := range []sampleName{
		{"letters behind the prefix", "xn--ab", fails(0, api.ErrHyphen)},
		{"letters of Punycode", xn(smallU + "ab"), fails(0, api.ErrHyphen)},
		{"Punycode of what composes", xn("ab" + acuteE), fails(0, api.ErrHyphen)},
		{"Punycode of what has composed", xn(ab), forms(ab, xn(ab))},
	} {
		wantOutcome(t, row.name, tables, row.s, row.want)
	}
}

// Promise 18.1, step 4: labels with the prefix are decoded.
func TestDecodedLabels(t *testing.T) {
	wantNames(t, sample(), []sampleName{
		{"alone", "xn--bcher-kva", forms("bücher", "xn--bcher-kva")},
		{"capital letters in the prefix", "XN--bcher-kva", forms("bücher", "xn--bcher-kva")},
		{"a capital X", "Xn--bcher-kva", forms("bücher", "xn--bcher-kva")},
		{"a capital N", "xN--bcher-kva", forms("bücher", "xn--bcher-kva")},
		{"capital letters in the code", "xn--BCHER-KVA", forms("bücher", "xn--bcher-kva")},
		{"capital letters", "XN--BcHeR-kVa", forms("bücher", "xn--bcher-kva")},
		{"the first of three", "xn--9ca.a.b", forms(acuteE+".a.b", "xn--9ca.a.b")},
		{"a middle one of three", "a.xn--9ca.b", forms("a."+acuteE+".b", "a.xn--9ca.b")},
		{"the last one of three", "a.b.XN--9CA", forms("a.b."+acuteE, "a.b.xn--9ca")},
		{"several, and others in Unicode", "xn--9ca.é.xn--9ca.E" + acute, forms("é.é.é.é", "xn--9ca.xn--9ca.xn--9ca.xn--9ca")},
		{"a Deviation", "xn--fa-hia", forms("faß", "xn--fa-hia")},
		{"no basic code point", xn(omega + omega), forms(omega+omega, xn(omega+omega))},
		{"the last code point", xn(last), forms(last, xn(last))},
		{"a joiner behind a virama", xn(ka + virama + zwj), forms(ka+virama+zwj, xn(ka+virama+zwj))},
		{"a joiner between letters that join", xn(beh + zwnj + beh), forms(beh+zwnj+beh, xn(beh+zwnj+beh))},
		{"a hyphen", xn("a-é"), forms("a-é", xn("a-é"))},
		{"a hyphen that is third", xn("ab-é"), forms("ab-é", xn("ab-é"))},
		{"a syllable", xn(syllable), forms(syllable, xn(syllable))},
	})
}

// labelsThatDoNotDecode are what stands behind the prefix of such labels, with the error of alabel.Decode.
var labelsThatDoNotDecode = []struct {
	name, code string
	want       api.Errno
}{
	{"nothing", "", api.ErrPuny},
	{"a number that is not complete", "9", api.ErrPuny},
	{"a number that is not complete, behind code points", "bcher-kv", api.ErrPuny},
	{"a number that is not complete, behind another", "9ca9", api.ErrPuny},
	{"a hyphen", "-", api.ErrPuny},
	{"several hyphens", "--", api.ErrPuny},
	{"a hyphen that is first", "-9ca", api.ErrPuny},
	{"code points without numbers", "abc-", api.ErrPuny},
	{"code points and a hyphen without numbers", "a--", api.ErrPuny},
	{"the first surrogate", digitsOf(0xD800-0x80, 72), api.ErrPuny},
	{"the last surrogate", digitsOf(0xDFFF-0x80, 72), api.ErrPuny},
	{"a surrogate behind a code point", "a-" + digitsOf((0xD800-0x80)*2, 72), api.ErrPuny},
	{"a code point behind the last one", digitsOf(0x110000-0x80, 72), api.ErrOverflow},
	{"a number that is too great", digitsOf(1<<31, 72), api.ErrOverflow},
	{"a number that is far too great", "99999999999a", api.ErrOverflow},
	{"a number that is far too great, and not complete", "99999999999", api.ErrPuny},
	{"more bytes than a label may have", "a" + times("a", 55) + "-9ca", api.ErrLong},
	{"many bytes more than a label may have", times("9", 1000), api.ErrLong},
}

// Promise 18.1, step 4: labels with the prefix that do not decode, as the first, a middle and the last one.
func TestLabelsThatDoNotDecode(t *testing.T) {
	for _, row := range labelsThatDoNotDecode {
		for _, prefix := range []string{"xn--", "XN--", "Xn--", "xN--", wholePrefix, wideX + "N--", "x" + ignored + "n--"} {
			for _, code := range []string{row.code, strings.ToUpper(row.code)} {
				wantNames(t, sample(), []sampleName{
					{row.name, prefix + code, fails(0, row.want)},
					{row.name + ", the first one", prefix + code + ".a.b", fails(0, row.want)},
					{row.name + ", a middle one", "a." + prefix + code + ".b", fails(1, row.want)},
					{row.name + ", the last one", acuteE + ".b." + prefix + code, fails(2, row.want)},
				})
			}
		}
	}
}

// Promise 18.1, step 4: labels with the prefix that decode, but not to a label that is valid.
func TestLabelsThatDecodeToNone(t *testing.T) {
	for _, row := range []struct {
		name, label string
		want        api.Errno
	}{
		{"not composed", "e" + acute, api.ErrNormal},
		{"not in order", "a" + acute + below, api.ErrNormal},
		{"one that is replaced", ohm, api.ErrNormal},
		{"one that is never composed", excluded, api.ErrNormal},
		{"jamo", jamo + "\u1161", api.ErrNormal},
		{"a hyphen that is first", "-" + acuteE, api.ErrHyphen},
		{"a hyphen that is last", acuteE + "-", api.ErrHyphen},
		{"hyphens that are the third and the fourth one", "ab--" + acuteE, api.ErrHyphen},
		{"the prefix once more", "xn--" + acuteE, api.ErrHyphen},
		{"a mark", acute, api.ErrMark},
		{"a mark of the class 0", mark0 + "a", api.ErrMark},
		{"one that is Disallowed", "a" + refused, api.ErrStatus},
		{"one that is unknown", unknown, api.ErrStatus},
		{"one that is Mapped", bigAcuteE + "a", api.ErrStatus},
		{"one that is Mapped, without a decomposition", digraph, api.ErrStatus},
		{"one that is Mapped to a full stop", "a" + wideStop + "b", api.ErrStatus},
		{"one that is ignored", "a" + ignored + "b", api.ErrStatus},
		{"only what is ignored", ignored, api.ErrStatus},
		{"one jamo", jamo, api.ErrStatus},
		{"a joiner", "a" + zwj + "b", api.ErrJoiner},
		{"a joiner that is not between those that join", beh + zwnj + "b", api.ErrJoiner},
		{"a dot that is not between letters l", "l" + middleDot, api.ErrContext},
	} {
		for _, s := range []string{xn(row.label), strings.ToUpper(xn(row.label))} {
			wantNames(t, sample(), []sampleName{
				{row.name, s, fails(0, row.want)},
				{row.name + ", the first one", s + ".a.b", fails(0, row.want)},
				{row.name + ", a middle one", "a." + s + ".b", fails(1, row.want)},
				{row.name + ", the last one", acuteE + ".b." + s, fails(2, row.want)},
			})
		}
	}
}

// Promise 18.1, step 4: only labels that are ASCII are decoded.
func TestPrefixOfOtherLabels(t *testing.T) {
	wantNames(t, sample(), []sampleName{
		{"a letter behind the prefix", "xn--" + acuteE, fails(0, api.ErrHyphen)},
		{"a letter behind Punycode", "a.xn--9ca" + acuteE, fails(1, api.ErrHyphen)},
		{"a mark that composes behind Punycode", "xn--bcher-kve" + acute, fails(0, api.ErrHyphen)},
		{"a letter behind the prefix, and what is no code", "xn--9" + acuteE, fails(0, api.ErrHyphen)},
		{"more bytes than a label may have", "xn--" + times("a", 60) + acuteE, fails(0, api.ErrHyphen)},
		{"a letter before the prefix", acuteE + "xn--9ca", forms(acuteE+"xn--9ca", xn(acuteE+"xn--9ca"))},
	})
}
