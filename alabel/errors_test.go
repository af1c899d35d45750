package alabel_test

import (
	"slices"
	"strings"
	"testing"

	"namedesk/alabel"
	"namedesk/api"
)

// noScalars are numbers that are no scalar values.
var noScalars = []int{
	-1, -128, -1 << 31, -1 << 63, -256 + 0x61, 0xD800, 0xD801, 0xDBFF, 0xDC00, 0xDFFE, 0xDFFF,
	api.MaxRune + 1, api.MaxRune + 128, 1 << 31, 1<<32 + 0x61, 1<<63 - 1,
}

// Promises 11.2 and 11.3: what is empty has no other form.
func TestEmpty(t *testing.T) {
	wantNoLabel(t, "nil", nil, api.ErrEmpty)
	wantNoLabel(t, "no elements", []int{}, api.ErrEmpty)
	wantNoLabel(t, "no elements before others", []int{0xD800, 0x61}[:0], api.ErrEmpty)
	wantNoList(t, "no bytes", "", api.ErrEmpty)
}

// Promise 11.2: elements that are no scalar values, at each place, whatever the result would be.
func TestEncodeRefusesWhatIsNoScalarValue(t *testing.T) {
	for _, c := range noScalars {
		for _, l := range [][]int{
			nil, {0x61}, {0xFC}, points("xn--"), points("b\u00FCcher"), repeated(0x61, api.MaxLabel-1), repeated(0x61, api.MaxLabel),
			repeated(0x61, maxPuny-1), repeated(0xFC, maxPuny-1),
		} {
			for _, at := range []int{0, len(l) / 2, len(l)} {
				wantNoLabel(t, "no scalar value", with(l, at, c), api.ErrRange)
			}
		}
		for _, other := range noScalars {
			wantNoLabel(t, "no scalar values", []int{c, other}, api.ErrRange)
		}
	}
}

// Promise 11.2: more elements than puny.Encode accepts are too many only where the label is not ASCII.
func TestEncodeOfTooManyElements(t *testing.T) {
	for _, n := range []int{maxPuny + 1, maxPuny + 2, api.MaxRunes, api.MaxRunes + 1} {
		for _, c := range []int{0, 0x61, 127} {
			wantNoLabel(t, "ASCII", repeated(c, n), api.ErrLong)
		}
		wantNoLabel(t, "others", repeated(0x80, n), api.ErrFull)
		for _, at := range []int{0, n / 2, n - 1} {
			for _, c := range append([]int{0x80, 0xFC, api.MaxRune}, noScalars...) {
				wantNoLabel(t, "one other", with(repeated(0x61, n-1), at, c), api.ErrFull)
			}
		}
	}
	for _, c := range []int{0x61, 0x80, 0xFC, api.MaxRune} {
		wantNoLabel(t, "256 elements", repeated(c, maxPuny), api.ErrLong)
		wantNoLabel(t, "256 elements, the last another one", append(repeated(c, maxPuny-1), 0x80), api.ErrLong)
		wantNoLabel(t, "256 elements, the last a surrogate", append(repeated(c, maxPuny-1), 0xDFFF), api.ErrRange)
	}
}

// Promises 11.2 and 11.3: labels of ASCII with MaxLabel bytes and with more.
func TestLongLabelsOfASCII(t *testing.T) {
	for n := 1; n < 300; n++ {
		for _, c := range []int{0, 0x2D, 0x41, 0x61, 127} {
			s := strings.Repeat(string(rune(c)), n)
			if n <= api.MaxLabel {
				wantBothWays(t, "ASCII", repeated(c, n), s)
			} else {
				wantNoLabel(t, "ASCII", repeated(c, n), api.ErrLong)
				wantNoList(t, "ASCII", s, api.ErrLong)
			}
		}
	}
	wantNoLabel(t, "ASCII with the prefix", points("xn--"+strings.Repeat("a", api.MaxLabel-3)), api.ErrLong)
	wantEncode(t, "ASCII with the prefix", points("xn--"+strings.Repeat("a", api.MaxLabel-4)), "xn--"+strings.Repeat("a", api.MaxLabel-4))
}

// Promises 11.2 and 11.3: labels with the prefix whose ASCII form has MaxLabel bytes, less and more. The
// numbers are all 0.
func TestLongLabelsWithThePrefix(t *testing.T) {
	for basics := range 70 {
		for others := 1; others < 70; others++ {
			l := slices.Concat(repeated(0x80, others), repeated(0x62, basics))
			s := "xn--" + strings.Repeat("b", basics) + "-" + strings.Repeat("a", others)
			if basics == 0 {
				s = "xn--" + strings.Repeat("a", others)
			}
			if len(s) <= api.MaxLabel {
				wantBothWays(t, "with the prefix", l, s)
				wantDecode(t, "with the prefix", strings.ToUpper(s), l)
			} else {
				wantNoLabel(t, "with the prefix", l, api.ErrLong)
				wantNoList(t, "with the prefix", s, api.ErrLong)
				wantNoList(t, "with the prefix", strings.ToUpper(s), api.ErrLong)
			}
		}
	}
}

// Promise 11.3: bytes above 127 at each place, with the prefix and without it, in strings of any length.
func TestBytesAboveASCII(t *testing.T) {
	for _, s := range []string{
		"", "a", "abc", "xn--", "XN--", "xn--a", "xn--bcher-kva", "xn--abc-", "xn--9", "xn--99999999999a", "xn---", "xn-",
		strings.Repeat("a", api.MaxLabel-1), strings.Repeat("a", api.MaxLabel), strings.Repeat("a", api.MaxLabel+1),
		"xn--" + strings.Repeat("a", api.MaxLabel), "xn--" + strings.Repeat("9", api.MaxLabel) + "a",
	} {
		for at := range len(s) + 1 {
			for b := 128; b < 256; b++ {
				wantNoList(t, "byte above 127", s[:at]+string([]byte{byte(b)})+s[at:], api.ErrPuny)
			}
		}
	}
	for _, n := range []int{2049, api.MaxBytes, api.MaxText} {
		long := strings.Repeat("a", n)
		wantNoList(t, "byte above 127 at the end", long+"\x80", api.ErrPuny)
		wantNoList(t, "byte above 127 at the end", "xn--"+long+"\xFF", api.ErrPuny)
		wantNoList(t, "byte above 127 at the beginning", "\x80"+long, api.ErrPuny)
		wantNoList(t, "bytes above 127", strings.Repeat("\xC3\xBC", n), api.ErrPuny)
	}
	wantNoList(t, "UTF-8", "b\u00FCcher", api.ErrPuny)
}

// Promise 11.3: a string with the prefix that is too long has that error, whatever stands behind it.
func TestLengthComesBeforePunycode(t *testing.T) {
	for _, behind := range []string{"a", "-", "!", "9", "99999999999a", "a-", "abc-", "A", "\x00", "ib9b"} {
		for _, prefix := range []string{"xn--", "XN--"} {
			for _, n := range []int{api.MaxLabel + 1, api.MaxLabel + 2, 2048, 2049, 2052, 2053, api.MaxBytes + 1} {
				padded := prefix + strings.Repeat("a", n-len(behind)-4) + behind
				wantNoList(t, "too long", padded, api.ErrLong)
				wantNoList(t, "too long", prefix+behind+strings.Repeat("9", n-len(behind)-4), api.ErrLong)
			}
		}
	}
	nines := strings.Repeat("9", api.MaxLabel-5)
	wantNoList(t, "MaxLabel bytes", "xn--"+nines+"a", api.ErrOverflow)
	wantNoList(t, "one byte more", "xn--9"+nines+"a", api.ErrLong)
	wantNoList(t, "MaxLabel bytes", "xn--"+nines+"9", api.ErrPuny)
	wantNoList(t, "MaxLabel bytes", "xn--"+nines+"!", api.ErrPuny)
	wantNoList(t, "MaxLabel bytes of ASCII", "xn--"+strings.Repeat("a", api.MaxLabel-5)+"-", api.ErrPuny)
	wantNoList(t, "one byte more", "xn--"+strings.Repeat("a", api.MaxLabel-4)+"-", api.ErrLong)
}

// Promise 11.3: a prefix behind which stand no code points, or only those of ASCII.
func TestNothingBehindThePrefix(t *testing.T) {
	for _, prefix := range []string{"xn--", "Xn--", "xN--", "XN--"} {
		wantNoList(t, "the prefix alone", prefix, api.ErrPuny)
		wantNoList(t, "the example", prefix+"abc-", api.ErrPuny)
		for b := range 128 {
			s := string(rune(b))
			wantNoList(t, "ASCII alone", prefix+s+"-", api.ErrPuny)
			wantNoList(t, "ASCII alone", prefix+"a"+s+"-", api.ErrPuny)
			wantNoList(t, "ASCII alone", prefix+"-"+s+"-", api.ErrPuny)
		}
		for n := 1; n <= api.MaxLabel-5; n++ {
			wantNoList(t, "ASCII alone", prefix+strings.Repeat("a", n)+"-", api.ErrPuny)
			wantNoList(t, "ASCII alone", prefix+strings.Repeat("Q", n)+"-", api.ErrPuny)
			wantNoList(t, "hyphens", prefix+strings.Repeat("-", n), api.ErrPuny)
		}
	}
}

// Promise 11.3: every error that puny.Decode can have for so few bytes.
func TestErrorsOfPunycode(t *testing.T) {
	for _, c := range []struct {
		name, behind string
		want         api.Errno
	}{
		{"hyphen as the first byte", "-", api.ErrPuny},
		{"hyphen as the first byte, then a number", "-a", api.ErrPuny},
		{"hyphen as the first byte, then a number of two digits", "-ba", api.ErrPuny},
		{"no digit", "!", api.ErrPuny},
		{"no digit behind basic ones", "bcher-!", api.ErrPuny},
		{"no digit behind a number", "tda!", api.ErrPuny},
		{"no digit, but a full stop", "tda.", api.ErrPuny},
		{"no digit, but the number 0", "tda\x00", api.ErrPuny},
		{"not complete", "9", api.ErrPuny},
		{"not complete", "b", api.ErrPuny},
		{"not complete behind basic ones", "bcher-kv", api.ErrPuny},
		{"not complete behind a number", "tda9", api.ErrPuny},
		{"not complete in capital letters", "BCHER-KV", api.ErrPuny},
		{"first surrogate", "ib9b", api.ErrPuny},
		{"last surrogate", "zy0c", api.ErrPuny},
		{"first surrogate in capital letters", "IB9B", api.ErrPuny},
		{"surrogate, then too great", "ib9b99999999999a", api.ErrPuny},
		{"too great", "99999999999a", api.ErrOverflow},
		{"too great in capital letters", "99999999999A", api.ErrOverflow},
		{"too great behind basic ones", "a-9999999a", api.ErrOverflow},
		{"too great behind ASCII that would not do", "abc-99999999999a", api.ErrOverflow},
		{"too great behind a number", "tda99999999999a", api.ErrOverflow},
		{"too great, then no digit", "99999999999a!", api.ErrOverflow},
		{"above MaxRune", "en32g", api.ErrOverflow},
		{"above MaxRune in capital letters", "EN32G", api.ErrOverflow},
		{"above MaxRune, then a surrogate", "en32gib9b", api.ErrOverflow},
	} {
		for _, prefix := range []string{"xn--", "Xn--", "xN--", "XN--"} {
			wantNoList(t, c.name, prefix+c.behind, c.want)
		}
		wantDecode(t, c.name+", without the prefix", c.behind, points(c.behind))
	}
}

// Promise 11.3: strings that are not what Encode returns for the code points that they stand for.
func TestStringsThatAreEncodedOtherwise(t *testing.T) {
	for s, list := range map[string]string{
		"xn--abc-": "abc", "xn--ABC-": "abc", "xn--a-": "a", "xn----": "-", "xn-----": "--", "xn--0-": "0", "xn--xn---": "xn--", "xn--bc-kva-": "bc-kva",
	} {
		if label, e := alabel.Encode(points(list)); label == strings.ToLower(s) || e != api.OK {
			t.Errorf("Encode of %q = %q, %d", list, label, e)
		}
		wantNoList(t, "encoded otherwise", s, api.ErrPuny)
	}
}
