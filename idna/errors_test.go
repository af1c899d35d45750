package idna_test

import (
	"testing"

	"namedesk/api"
)

const most = api.MaxRunes

// Promise 18.1: ErrTable for each rule of tables, whatever the name is.
func TestErrTable(t *testing.T) {
	names := []string{
		"", "a", "Example", ".", "a..b", "\xFF", "a\xC3", "a b", refused, times("a", api.MaxBytes+1), times(manyLetters, 228), "xn--9", "xn--9ca", "-a", acute,
		alef + "a", times("a", 64), times("a.", 200) + "b", acuteE,
	}
	for rule := 1; rule <= 9; rule++ {
		for _, s := range names {
			wantOutcome(t, "violated rule", violating(rule), s, fails(0, api.ErrTable))
		}
	}
	for _, tables := range []api.Tables{
		{Excluded: []int{5}}, {Bidi: spans{one('a', api.BidiR)}}, {Joining: spans{one(0xE9, 6)}}, {Extensions: mappings{row(0xE9)}},
		{Maps: mappings{row(0xC9, 0xE9)}}, {Prototypes: mappings{row(0x80, 0x80)}}, {Ignorable: spans{span(0xAE, 0xAD, 1)}},
	} {
		for _, s := range names {
			wantOutcome(t, "other tables", tables, s, fails(0, api.ErrTable))
		}
	}
}

// Promise 18.1: the empty name.
func TestEmptyName(t *testing.T) {
	for _, tables := range []api.Tables{{}, sample()} {
		wantOutcome(t, "the empty name", tables, "", fails(0, api.ErrEmpty))
	}
}

// Promise 18.1, step 1: names that are not well-formed UTF-8, with the position of utf.Decode, which is that of a byte.
func TestErrUTF(t *testing.T) {
	for _, flaw := range []struct{ name, s string }{
		{"a byte that is first in none", "\xFF"},
		{"a further byte", "\x80"},
		{"a byte that is too long an encoding", "\xC0\x80"},
		{"an encoding of two bytes without the second", "\xC3"},
		{"an encoding of three bytes without the third", "\xE2\x80"},
		{"an encoding of four bytes without the fourth", "\xF0\x9F\x98"},
		{"a surrogate", "\xED\xA0\x80"},
		{"a number above MaxRune", "\xF4\x90\x80\x80"},
		{"an encoding that is longer than necessary", "\xE0\x80\xAF"},
	} {
		for _, tables := range []api.Tables{{}, sample()} {
			wantNames(t, tables, []sampleName{
				{flaw.name + ", alone", flaw.s, fails(0, api.ErrUTF)},
				{flaw.name + ", at the first byte", flaw.s + "a.b", fails(0, api.ErrUTF)},
				{flaw.name + ", at the last bytes", "a.bc" + flaw.s, fails(4, api.ErrUTF)},
				{flaw.name + ", in the middle", "a." + flaw.s + "b.c", fails(2, api.ErrUTF)},
				{flaw.name + ", behind others of several bytes", acuteE + han + face + flaw.s + acuteE, fails(9, api.ErrUTF)},
				{flaw.name + ", twice", "ab" + flaw.s + "c" + flaw.s, fails(2, api.ErrUTF)},
				{flaw.name + ", far behind", times("a", api.MaxBytes-len(flaw.s)) + flaw.s, fails(api.MaxBytes-len(flaw.s), api.ErrUTF)},
			})
		}
	}
}

// Promise 18.1, step 1: names of MaxBytes bytes, and of one more.
func TestErrFullOfBytes(t *testing.T) {
	wantNames(t, sample(), []sampleName{
		{"as many bytes as possible", "a." + times("a", api.MaxBytes-2), late("a."+times("a", api.MaxBytes-2), 1, api.ErrLong)},
		{"one more", "a." + times("a", api.MaxBytes-1), fails(0, api.ErrFull)},
		{"as many as possible, with many that are ignored", "a" + times(ignored, api.MaxBytes/2-1) + "b", same("ab")},
		{"one more, with many that are ignored", "a" + times(ignored, api.MaxBytes/2-1) + "bc", fails(0, api.ErrFull)},
		{"one more, but not more code points", times(acuteE, api.MaxBytes/2) + "a", fails(0, api.ErrFull)},
		{"many more", times("a", 1<<16), fails(0, api.ErrFull)},
	})
}

// Promise 18.1, step 2: code points that are Disallowed, with their index, which is that of a code point.
func TestErrStatus(t *testing.T) {
	for _, c := range []string{refused, unknown, refusedRoof, jamo, " ", "_", "\x00", "\x7F", "@", "/", "[", "`", "{", "\u3000", "\U0010FFFE", "\uD7FF", "\uE000"} {
		wantNames(t, sample(), []sampleName{
			{"alone", c, fails(0, api.ErrStatus)},
			{"first", c + "a.b", fails(0, api.ErrStatus)},
			{"last", "a.b" + c, fails(3, api.ErrStatus)},
			{"in the middle", "a." + c + "b.c", fails(2, api.ErrStatus)},
			{"twice", "ab" + c + "c" + c, fails(2, api.ErrStatus)},
			{"behind others of several bytes", acuteE + han + face + c, fails(3, api.ErrStatus)},
			{"behind ignored ones and one mapped to many", ignored + ignored + manyLetters + wholePrefix + c, fails(4, api.ErrStatus)},
			{"behind what composes", "e" + acute + "e" + acute + c, fails(4, api.ErrStatus)},
			{"in Punycode", "a.xn--9" + c + "ca", fails(7, api.ErrStatus)},
			{"far behind", times("a", api.MaxBytes-4) + c, fails(api.MaxBytes-4, api.ErrStatus)},
		})
	}
	wantNames(t, api.Tables{}, []sampleName{
		{"all that are not ASCII, without tables", "a" + acuteE, fails(1, api.ErrStatus)},
		{"a syllable, without tables", syllable, forms(syllable, xn(syllable))},
	})
}

// Promise 18.1, steps 2 and 3: names of MaxRunes code points when they are mapped, or decomposed, and of one more.
func TestErrFullOfCodePoints(t *testing.T) {
	const letters = most / api.MaxMap
	lettersOf := func(more int) string { return "a." + times("a", letters*api.MaxMap+more) }
	acutesOf := func(count, more int) string { return times(acuteE, count*api.MaxMap) + times("a", more) }
	half := letters / 2
	wantNames(t, sample(), []sampleName{
		{"mapped", "a." + times(manyLetters, letters) + times("a", most%api.MaxMap-2), late(lettersOf(most%api.MaxMap-2), 1, api.ErrLong)},
		{"mapped, one more", "a." + times(manyLetters, letters) + times("a", most%api.MaxMap-1), fails(0, api.ErrFull)},
		{"mapped, many more", times(manyLetters, api.MaxBytes/3), fails(0, api.ErrFull)},
		{"decomposed", times(manyAcute, half) + times("a", most-2*api.MaxMap*half), late(acutesOf(half, most-2*api.MaxMap*half), 0, api.ErrFull)},
		{"decomposed, one more", times(manyAcute, half) + times("a", most-2*api.MaxMap*half+1), fails(0, api.ErrFull)},
		{"decomposed, many more, although it is short enough when mapped", times(manyAcute, letters), fails(0, api.ErrFull)},
	})
}

// Promise 18.1 and rule R5: names that deserve two errors of neighbouring steps, and of others, at once.
func TestPairsOfErrors(t *testing.T) {
	long := times("a", 64)
	many := times(manyLetters, 228)   // too long when it is mapped
	acutes := times(manyAcute, 200)   // too long when it is decomposed
	bytes := times("a", api.MaxBytes) // as many bytes as possible
	wantOutcome(t, "tables and the empty name", violating(9), "", fails(0, api.ErrTable))
	wantOutcome(t, "tables and the length", violating(9), bytes+"a", fails(0, api.ErrTable))
	wantOutcome(t, "tables and UTF-8", violating(9), "\xFF", fails(0, api.ErrTable))
	wantNames(t, sample(), []sampleName{
		{"the length and UTF-8", "\xFF" + bytes, fails(0, api.ErrFull)},
		{"the length and UTF-8 behind", bytes + "\xFF", fails(0, api.ErrFull)},
		{"the length and a status", bytes + " ", fails(0, api.ErrFull)},
		{"the length and a label", "." + bytes, fails(0, api.ErrFull)},
		{"UTF-8 and a status before it", " a\xFF", fails(2, api.ErrUTF)},
		{"UTF-8 and a status behind it", "a\xFF ", fails(1, api.ErrUTF)},
		{"UTF-8 and the length when mapped", many + "\xFF", fails(3*228, api.ErrUTF)},
		{"UTF-8 and an empty label", "..\xFF", fails(2, api.ErrUTF)},
		{"UTF-8 and Punycode", "xn--9.\xC3", fails(6, api.ErrUTF)},
		{"a status and the length when mapped", many + " ", fails(228, api.ErrStatus)},
		{"a status and the length when decomposed", acutes + " ", fails(200, api.ErrStatus)},
		{"a status and an empty label", "..a b", fails(3, api.ErrStatus)},
		{"a status and Punycode", "xn--9. ", fails(6, api.ErrStatus)},
		{"a status and a hyphen", "-a b", fails(2, api.ErrStatus)},
		{"a status and a mark", "a." + acute + "_", fails(3, api.ErrStatus)},
		{"a status and the Bidi rule", alef + "a ", fails(2, api.ErrStatus)},
		{"a status and a long label", long + " ", fails(64, api.ErrStatus)},
		{"the length when mapped and an empty label", ".a." + many, fails(0, api.ErrFull)},
		{"the length when mapped and an empty label behind it", many + ".", fails(0, api.ErrFull)},
		{"the length when mapped and Punycode", "a.xn--9." + many, fails(0, api.ErrFull)},
		{"the length when decomposed and an empty label", "a." + acutes + "..", fails(0, api.ErrFull)},
		{"the length when decomposed and Punycode", "a.xn--9." + acutes, fails(0, api.ErrFull)},
		{"the length when decomposed and the Bidi rule", alef + "a." + acutes, fails(0, api.ErrFull)},
		{"Punycode and a hyphen of one label", "a.xn--9-", fails(1, api.ErrPuny)},
		{"Punycode and the hyphens of its prefix", "a.xn--", fails(1, api.ErrPuny)},
		{"Punycode and a hyphen of an earlier label", "-a.xn--9", fails(0, api.ErrHyphen)},
		{"Punycode and a hyphen of a later label", "xn--9.-a", fails(0, api.ErrPuny)},
		{"Punycode and an earlier empty label", "a..xn--9", fails(1, api.ErrEmpty)},
		{"Punycode and a later empty label", "a.xn--9..", fails(1, api.ErrPuny)},
		{"Punycode that is too long, and a hyphen", "a.xn--" + long + "-", fails(1, api.ErrLong)},
		{"Punycode that is too long, and not complete", "xn--" + long + "9", fails(0, api.ErrLong)},
		{"Punycode that is too great, and a hyphen of a later label", "a.xn--99999999999a.-", fails(1, api.ErrOverflow)},
		{"a mark and a hyphen of one label", acute + "-", fails(0, api.ErrHyphen)},
		{"a mark and a hyphen of a later label", acute + ".-", fails(0, api.ErrMark)},
		{"a joiner and an earlier context", "l" + middleDot + ".a" + zwj, fails(0, api.ErrContext)},
		{"a decoded label that is not valid, and one that is not decoded", xn("-"+acuteE) + ".xn--9", fails(0, api.ErrHyphen)},
		{"Punycode and the Bidi rule", alef + "a.xn--9", fails(1, api.ErrPuny)},
		{"an empty label and the Bidi rule", alef + "a.", fails(1, api.ErrEmpty)},
		{"a hyphen and the Bidi rule of one label", alef + "a-", fails(0, api.ErrHyphen)},
		{"a context and the Bidi rule of an earlier label", alef + "a.1." + middleDot, fails(2, api.ErrContext)},
		{"the Bidi rule and a long label", alef + "a." + long, fails(0, api.ErrBidi)},
		{"the Bidi rule and an earlier long label", dotted(long, times(smallU, 257), "1", alef), fails(2, api.ErrBidi)},
		{"the Bidi rule and a long name", times("a.", 200) + alef + "a", fails(200, api.ErrBidi)},
		{"a hyphen and a long label", dotted(long, "-"), fails(1, api.ErrHyphen)},
		{"a hyphen and a long name", times("a.", 200) + "-a", fails(200, api.ErrHyphen)},
		{"a long label and a long name", times("a.", 200) + long, late(times("a.", 200)+long, 200, api.ErrLong)},
	})
}

// flaws are labels that are not accepted, in the order of the steps at which they are refused. Each makes no other flaw
// of the names that it stands in.
var flaws = []struct {
	name, s string
	step    int
	e       api.Errno
}{
	{"UTF-8", "\xFF", 1, api.ErrUTF},
	{"a status", "_", 2, api.ErrStatus},
	{"Punycode", "xn--9", 4, api.ErrPuny},
	{"an empty label", "", 4, api.ErrEmpty},
	{"a hyphen", "-", 4, api.ErrHyphen},
	{"the Bidi rule", alef + "a", 5, api.ErrBidi},
	{"too many code points", times(smallU, 257), 6, api.ErrFull},
	{"too many bytes", times("a", 64), 6, api.ErrLong},
}

// Promises 18.1 to 18.3: every list of up to four labels with these flaws, among labels without one.
func TestOrderOfErrors(t *testing.T) {
	tables, counts := sample(), map[api.Errno]int{}
	choices := len(flaws) + 1
	for list := range choices * choices * choices * choices {
		var labels []string
		best, want := 7, outcome{}
		for i, rest := 0, list; i < 4; i, rest = i+1, rest/choices {
			which := rest % choices
			if which == len(flaws) {
				labels = append(labels, "b")
				continue
			}
			if f := flaws[which]; f.step < best {
				best, want = f.step, fails(positionIn(labels, f.step), f.e)
			}
			labels = append(labels, flaws[which].s)
		}
		name := dotted(labels...)
		switch best {
		case 7:
			want = same(name)
		case 6:
			want = late(name, want.at, want.e)
		}
		counts[want.e]++
		wantOutcome(t, "flaws", tables, name, want)
	}
	for _, f := range flaws {
		if counts[f.e] < 10 {
			t.Errorf("%s: %d names", f.name, counts[f.e])
		}
	}
}

// positionIn returns the position of what is refused in a step and stands behind these labels.
func positionIn(labels []string, step int) int {
	before := dotted(append(labels[:len(labels):len(labels)], "")...)
	switch step {
	case 1:
		return len(before)
	case 2:
		return len(codes(before))
	default:
		return len(labels)
	}
}
