package idna_test

import (
	"testing"

	"namedesk/api"
)

// Promise 18.1, step 4: labels in Unicode that are not valid, as the first, a middle and the last one.
func TestLabelsThatAreNotValid(t *testing.T) {
	for _, row := range []struct {
		name, label string
		want        api.Errno
	}{
		{"empty", "", api.ErrEmpty},
		{"a hyphen", "-", api.ErrHyphen},
		{"a hyphen that is first", "-a", api.ErrHyphen},
		{"a hyphen that is last", "a-", api.ErrHyphen},
		{"a hyphen that is last, behind a letter that is not ASCII", acuteE + "-", api.ErrHyphen},
		{"hyphens that are the third and the fourth one", "ab--c", api.ErrHyphen},
		{"nearly the prefix", "xm--9ca", api.ErrHyphen},
		{"nearly the prefix, with the other letter", "yn--9ca", api.ErrHyphen},
		{"a mark", acute + "a", api.ErrMark},
		{"a mark of the class 0", mark0, api.ErrMark},
		{"a mark that is mapped", mappedMark, api.ErrMark},
		{"one that becomes Disallowed", "e" + roof, api.ErrStatus},
		{"one that becomes Mapped", "O" + roof + acute, api.ErrStatus},
		{"one that becomes Ignored", "au" + roof, api.ErrStatus},
		{"a joiner", "a" + zwj, api.ErrJoiner},
		{"joiners behind a virama", ka + virama + zwj + zwnj, api.ErrJoiner},
		{"a dot that is not between letters l", "l" + middleDot + "a", api.ErrContext},
		{"digits of both kinds", number + "\u06F0", api.ErrContext},
	} {
		wantNames(t, sample(), []sampleName{
			{row.name + ", the first of two", row.label + ".a", fails(0, row.want)},
			{row.name + ", the last of two", "a." + row.label, fails(1, row.want)},
			{row.name + ", a middle one", "xn--9ca." + row.label + ".b", fails(1, row.want)},
			{row.name + ", twice", "a." + row.label + "." + row.label + ".b", fails(1, row.want)},
			{row.name + ", behind many", times("a"+wideStop, 100) + row.label + times(".b", 100), fails(100, row.want)},
		})
		if row.label != "" {
			wantNames(t, sample(), []sampleName{{row.name + ", alone", row.label, fails(0, row.want)}})
		}
	}
}

// Promise 18.1, step 4: full stops at the beginning, at the end, and next to each other.
func TestFullStops(t *testing.T) {
	for _, tables := range []api.Tables{{}, sample()} {
		wantNames(t, tables, []sampleName{
			{"one", "a.b", same("a.b")},
			{"several", "a.b.c.d.e", same("a.b.c.d.e")},
			{"only one", ".", fails(0, api.ErrEmpty)},
			{"only two", "..", fails(0, api.ErrEmpty)},
			{"at the beginning", ".a", fails(0, api.ErrEmpty)},
			{"at the beginning, of several", ".a.b", fails(0, api.ErrEmpty)},
			{"at the end", "a.", fails(1, api.ErrEmpty)},
			{"at the end, of several", "a.b.", fails(2, api.ErrEmpty)},
			{"at both", ".a.", fails(0, api.ErrEmpty)},
			{"two at the beginning", "..a", fails(0, api.ErrEmpty)},
			{"two at the end", "a..", fails(1, api.ErrEmpty)},
			{"two of several", "a.b..c", fails(2, api.ErrEmpty)},
			{"three", "a...b", fails(1, api.ErrEmpty)},
			{"as many as possible", times(".", api.MaxBytes), fails(0, api.ErrEmpty)},
			{"as many as possible behind a letter", "a" + times(".", api.MaxBytes-1), fails(1, api.ErrEmpty)},
			{"at the end of as many labels as possible", times("a.", api.MaxBytes/2), fails(api.MaxBytes/2, api.ErrEmpty)},
		})
	}
}

// Promise 18.1, step 5: names with labels from right to left.
func TestRightToLeft(t *testing.T) {
	hebrew, arabic := xn(alef+bet), xn(beh)
	wantNames(t, sample(), []sampleName{
		{"alone", alef + bet, forms(alef+bet, hebrew)},
		{"alone, decoded", hebrew, forms(alef+bet, hebrew)},
		{"next to letters", "a." + beh + ".b2", forms("a."+beh+".b2", "a."+arabic+".b2")},
		{"both kinds", alef + bet + "." + beh, forms(alef+bet+"."+beh, hebrew+"."+arabic)},
		{"a digit and a hyphen within", alef + "1-2", forms(alef+"1-2", xn(alef+"1-2"))},
		{"a mark at the end", alef + acute, forms(alef+acute, xn(alef+acute))},
		{"a digit that is first, without one", "1a.2", same("1a.2")},
		{"letters behind one", alef + "a", fails(0, api.ErrBidi)},
		{"letters before one", "a" + alef, fails(0, api.ErrBidi)},
		{"letters behind one, decoded", xn(alef + "a"), fails(0, api.ErrBidi)},
		{"a number that is first", number, fails(0, api.ErrBidi)},
		{"a digit that is first, behind one", alef + ".1", fails(1, api.ErrBidi)},
		{"a digit that is first, before one", "1." + alef, fails(0, api.ErrBidi)},
		{"a digit that is first, before a decoded one", "a.1." + arabic, fails(1, api.ErrBidi)},
		{"a digit that is first, far from one", "1" + times(".a", 50) + "." + beh, fails(0, api.ErrBidi)},
		{"a mark of another class that is last", "a" + face + "." + alef, fails(0, api.ErrBidi)},
		{"the same without one", "a" + face + ".b", forms("a"+face+".b", xn("a"+face)+".b")},
		{"both kinds of numbers", "a." + alef + number + "1", fails(1, api.ErrBidi)},
		{"the first of two labels", "a.1." + alef + ".2", fails(1, api.ErrBidi)},
		{"the first of two labels, where the second one is RTL", "a.b.1." + alef + "b", fails(2, api.ErrBidi)},
	})
}

// Promise 18.1: Process returns the labels also of a name that is too long for ASCII. Promise 18.2: the error of
// alabel.Encode for the first label that has one, with its number.
func TestLongLabels(t *testing.T) {
	a63, a64 := times("a", 63), times("a", 64)
	u63, u64 := times("a", 52)+face, times("a", 53)+face
	for _, row := range []struct {
		label string
		want  int
	}{{u63, 63}, {u64, 64}} {
		if size := len(xn(row.label)); size != row.want {
			t.Fatalf("the ASCII form of %s has %d bytes", shown(row.label), size)
		}
	}
	wantNames(t, sample(), []sampleName{
		{"letters", a63, same(a63)},
		{"one letter more", a64, late(a64, 0, api.ErrLong)},
		{"capital letters", times("A", 63), same(a63)},
		{"one capital letter more", times("A", 64), late(a64, 0, api.ErrLong)},
		{"ignored ones between them", times("a"+ignored, 63), same(a63)},
		{"not ASCII", u63, forms(u63, xn(u63))},
		{"not ASCII, one letter more", u64, late(u64, 0, api.ErrLong)},
		{"decoded", xn(u63), forms(u63, xn(u63))},
		{"decoded, one letter more", xn(u64), fails(0, api.ErrLong)},
		{"the first one", dotted(a64, a63, u63), late(dotted(a64, a63, u63), 0, api.ErrLong)},
		{"a middle one", dotted("b", a64, u63), late(dotted("b", a64, u63), 1, api.ErrLong)},
		{"the last one", dotted("b", u63, a64), late(dotted("b", u63, a64), 2, api.ErrLong)},
		{"a middle one, not ASCII", dotted("b", u64, a63), late(dotted("b", u64, a63), 1, api.ErrLong)},
		{"the first of several", dotted("b", u64, a64, u64), late(dotted("b", u64, a64, u64), 1, api.ErrLong)},
		{"as many letters as possible", times("a", api.MaxBytes), late(times("a", api.MaxBytes), 0, api.ErrLong)},
		{"256 code points, not ASCII", times(smallU, 256), late(times(smallU, 256), 0, api.ErrLong)},
		{"257 code points, not ASCII", times(smallU, 257), late(times(smallU, 257), 0, api.ErrFull)},
		{"257 code points, not ASCII but for most", times("a", 256) + smallU, late(times("a", 256)+smallU, 0, api.ErrFull)},
		{"257 code points, ASCII", times("a", 257), late(times("a", 257), 0, api.ErrLong)},
		{"257 code points behind a long label", dotted(a64, times(smallU, 257)), late(dotted(a64, times(smallU, 257)), 0, api.ErrLong)},
		{"257 code points before a long label", dotted("b", times(smallU, 257), a64), late(dotted("b", times(smallU, 257), a64), 1, api.ErrFull)},
	})
}

// Promise 18.2: the error and the number of split.Check: names of MaxName bytes in ASCII form, and of one more.
func TestLongNames(t *testing.T) {
	a61, a62, a63 := times("a", 61), times("a", 62), times("a", 63)
	u63 := times("a", 52) + face
	faces := times(face, 56)
	most := dotted(a63, u63, a63)
	for _, row := range []struct {
		label string
		want  int
	}{{u63, 63}, {faces, 63}} {
		if size := len(xn(row.label)); size != row.want {
			t.Fatalf("the ASCII form of %s has %d bytes", shown(row.label), size)
		}
	}
	wantNames(t, sample(), []sampleName{
		{"MaxName bytes", dotted(a63, a63, a63, a61), same(dotted(a63, a63, a63, a61))},
		{"one byte more", dotted(a63, a63, a63, a62), late(dotted(a63, a63, a63, a62), 0, api.ErrLong)},
		{"one byte more in the first label", dotted(a62, a63, a63, a63), late(dotted(a62, a63, a63, a63), 0, api.ErrLong)},
		{"many bytes more", times(a63+".", 9) + "b", late(times(a63+".", 9)+"b", 0, api.ErrLong)},
		{"not ASCII", dotted(most, a61), forms(dotted(most, a61), dotted(a63, xn(u63), a63, a61))},
		{"not ASCII, one byte more", dotted(most, a62), late(dotted(most, a62), 0, api.ErrLong)},
		{"decoded", dotted(a63, xn(u63), a63, a61), forms(dotted(most, a61), dotted(a63, xn(u63), a63, a61))},
		{"decoded, one byte more", dotted(a63, xn(u63), a63, a62), late(dotted(most, a62), 0, api.ErrLong)},
		{"more bytes than MaxName in UTF-8 only", dotted(faces, faces, faces), forms(dotted(faces, faces, faces), dotted(xn(faces), xn(faces), xn(faces)))},
		{"fewer bytes than MaxName in UTF-8 only", times(acuteE+".", 50) + "b", late(times(acuteE+".", 50)+"b", 0, api.ErrLong)},
		{"127 labels", times("a.", 126) + "b", same(times("a.", 126) + "b")},
		{"127 labels, and one byte more", times("a.", 126) + "bb", late(times("a.", 126)+"bb", 0, api.ErrLong)},
		{"128 labels", times("a.", 127) + "b", late(times("a.", 127)+"b", 0, api.ErrLong)},
		{"128 labels by full stops that mapping makes", times("a"+wideStop, 127) + "b", late(times("a.", 127)+"b", 0, api.ErrLong)},
		{"as many labels as possible", times("a.", api.MaxBytes/2-1) + "b", late(times("a.", api.MaxBytes/2-1)+"b", 0, api.ErrLong)},
		{"a long label in a long name", dotted(a63, a63, a63, a63, a63+"a"), late(dotted(a63, a63, a63, a63, a63+"a"), 4, api.ErrLong)},
		{"a long label behind many", times("a.", 200) + a63 + "a", late(times("a.", 200)+a63+"a", 200, api.ErrLong)},
		{"a long label before many", "b." + a63 + "a" + times(".a", 200), late("b."+a63+"a"+times(".a", 200), 1, api.ErrLong)},
		{"257 code points behind many", times("a.", 200) + times(smallU, 257), late(times("a.", 200)+times(smallU, 257), 200, api.ErrFull)},
	})
}
