package puny_test

import (
	"slices"
	"strings"
	"testing"

	"namedesk/api"
	"namedesk/puny"
)

// The limits of the chapter that package api does not name.
const (
	maxElements = 256
	maxBytes    = 2048
	maxNumber   = 1<<31 - 1
)

// noScalars are numbers that are no scalar values.
var noScalars = []int{
	-1, -128, -1 << 31, -1 << 63, 0xD800, 0xD801, 0xDBFF, 0xDC00, 0xDFFE, 0xDFFF,
	api.MaxRune + 1, api.MaxRune + 128, 1 << 31, 1<<32 + 0x61, 1<<63 - 1,
}

// isDigit reports whether a byte is a digit.
func isDigit(b byte) bool {
	return strings.IndexByte("abcdefghijklmnopqrstuvwxyz0123456789ABCDEFGHIJKLMNOPQRSTUVWXYZ", b) >= 0
}

// points returns the code points of a text.
func points(text string) []int {
	var l []int
	for _, r := range text {
		l = append(l, int(r))
	}
	return l
}

// with returns a list with an element put in before index at.
func with(l []int, at, c int) []int {
	return slices.Concat(l[:at], []int{c}, l[at:])
}

// lowerDigits returns s with small letters as digits.
func lowerDigits(s string) string {
	at := max(0, strings.LastIndex(s, "-"))
	return s[:at] + strings.ToLower(s[at:])
}

// head returns the first elements of a list, for messages.
func head(l []int) []int { return l[:min(len(l), 40)] }

func wantEncode(t *testing.T, name string, l []int, want string) {
	t.Helper()
	if s, e := puny.Encode(l); s != want || e != api.OK {
		t.Errorf("%s: Encode(%x ..) = %.80q, %d, want %.80q", name, head(l), s, e, want)
	}
}

func wantDecode(t *testing.T, name, s string, want []int) {
	t.Helper()
	if l, e := puny.Decode(s); !slices.Equal(l, want) || e != api.OK {
		t.Errorf("%s: Decode(%.80q) = %x .., %d, want %x ..", name, s, head(l), e, head(want))
	}
}

// wantBothWays checks that l is written as s, and s is read as l.
func wantBothWays(t *testing.T, name string, l []int, s string) {
	t.Helper()
	wantEncode(t, name, l, s)
	wantDecode(t, name, s, l)
}

func wantNoCode(t *testing.T, name string, l []int, want api.Errno) {
	t.Helper()
	if s, e := puny.Encode(l); s != "" || e != want {
		t.Errorf("%s: Encode of %d elements = %.80q, %d, want the error %d", name, len(l), s, e, want)
	}
}

func wantNoList(t *testing.T, name, s string, want api.Errno) {
	t.Helper()
	if l, e := puny.Decode(s); len(l) != 0 || e != want {
		t.Errorf("%s: Decode(%.80q) = %x .., %d, want the error %d", name, s, head(l), e, want)
	}
}
