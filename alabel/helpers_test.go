package alabel_test

import (
	"slices"
	"strings"
	"testing"

	"namedesk/alabel"
	"namedesk/api"
)

// maxPuny is the greatest number of elements that puny.Encode accepts.
const maxPuny = 256

// points returns the code points of a text.
func points(text string) []int {
	var l []int
	for _, r := range text {
		l = append(l, int(r))
	}
	return l
}

// with returns a list with an element put in before index at.
func with(l []int, at, c int) []int {
	return slices.Concat(l[:at], []int{c}, l[at:])
}

// repeated returns a list of n equal elements.
func repeated(c, n int) []int { return slices.Repeat([]int{c}, n) }

// head returns the first elements of a list, for messages.
func head(l []int) []int { return l[:min(len(l), 40)] }

func wantEncode(t *testing.T, name string, l []int, want string) {
	t.Helper()
	if s, e := alabel.Encode(l); s != want || e != api.OK {
		t.Errorf("%s: Encode(%x ..) = %.80q, %d, want %.80q", name, head(l), s, e, want)
	}
}

func wantDecode(t *testing.T, name, s string, want []int) {
	t.Helper()
	if l, e := alabel.Decode(s); !slices.Equal(l, want) || e != api.OK {
		t.Errorf("%s: Decode(%.80q) = %x .., %d, want %x ..", name, s, head(l), e, head(want))
	}
}

// wantBothWays checks that l is written as s, and s is read as l.
func wantBothWays(t *testing.T, name string, l []int, s string) {
	t.Helper()
	wantEncode(t, name, l, s)
	wantDecode(t, name, s, l)
}

func wantNoLabel(t *testing.T, name string, l []int, want api.Errno) {
	t.Helper()
	if s, e := alabel.Encode(l); s != "" || e != want {
		t.Errorf("%s: Encode of %d elements, %x .. = %.80q, %d, want the error %d", name, len(l), head(l), s, e, want)
	}
}

func wantNoList(t *testing.T, name, s string, want api.Errno) {
	t.Helper()
	if l, e := alabel.Decode(s); len(l) != 0 || e != want {
		t.Errorf("%s: Decode(%.80q), %d bytes = %x .., %d, want the error %d", name, s, len(s), head(l), e, want)
	}
}

// forEachString calls visit with each string of up to n bytes of the alphabet.
func forEachString(alphabet string, n int, visit func(string)) {
	var extend func(s string)
	extend = func(s string) {
		visit(s)
		if len(s) < n {
			for i := range len(alphabet) {
				extend(s + alphabet[i:i+1])
			}
		}
	}
	extend("")
}

// forEachList calls visit with each list of up to n elements of the alphabet.
func forEachList(alphabet []int, n int, visit func([]int)) {
	var extend func(l []int)
	extend = func(l []int) {
		visit(l)
		if len(l) < n {
			for _, c := range alphabet {
				extend(with(l, len(l), c))
			}
		}
	}
	extend(nil)
}

// everyByte returns all bytes in their order.
func everyByte() string {
	var b strings.Builder
	for i := range 256 {
		b.WriteByte(byte(i))
	}
	return b.String()
}
