package alabel_test

import (
	"math/rand"
	"slices"
	"strings"
	"testing"

	"namedesk/alabel"
	"namedesk/api"
	"namedesk/puny"
)

// lowerByWords replaces the letters A to Z one after the other.
func lowerByWords(s string) string {
	for i, capital := range "ABCDEFGHIJKLMNOPQRSTUVWXYZ" {
		s = strings.ReplaceAll(s, string(capital), "abcdefghijklmnopqrstuvwxyz"[i:i+1])
	}
	return s
}

// isByWords tries the four ways to write the prefix.
func isByWords(s string) bool {
	for _, prefix := range []string{"xn--", "xN--", "Xn--", "XN--"} {
		if strings.HasPrefix(s, prefix) {
			return true
		}
	}
	return false
}

// isOther reports whether an element is not ASCII.
func isOther(c int) bool { return c < 0 || c >= 0x80 }

// encodeByWords follows the words of promise 11.2.
func encodeByWords(l []int) (string, api.Errno) {
	if len(l) == 0 {
		return "", api.ErrEmpty
	}
	s := ""
	if slices.ContainsFunc(l, isOther) {
		code, e := puny.Encode(l)
		if e != api.OK {
			return "", e
		}
		s = "xn--" + code
	} else {
		for _, c := range l {
			s += string(rune(c))
		}
	}
	if len(s) > 63 {
		return "", api.ErrLong
	}
	return s, api.OK
}

// decodeByWords follows the words of promise 11.3.
func decodeByWords(s string) ([]int, api.Errno) {
	if s == "" {
		return nil, api.ErrEmpty
	}
	var l []int
	for i := range len(s) {
		l = append(l, int(s[i]))
	}
	if slices.ContainsFunc(l, isOther) {
		return nil, api.ErrPuny
	}
	if len(s) > 63 {
		return nil, api.ErrLong
	}
	if !isByWords(s) {
		return l, api.OK
	}
	l, e := puny.Decode(lowerByWords(s[4:]))
	if e != api.OK {
		return nil, e
	}
	if len(l) == 0 || !slices.ContainsFunc(l, isOther) {
		return nil, api.ErrPuny
	}
	if label, e := encodeByWords(l); e != api.OK || label != lowerByWords(s) {
		return nil, api.ErrPuny
	}
	return l, api.OK
}

// wantDecodeByWords compares Is, Lower and Decode of s with the computations by words, and checks the way
// back. It returns the error of Decode.
func wantDecodeByWords(t *testing.T, s string) api.Errno {
	t.Helper()
	if alabel.Is(s) != isByWords(s) || alabel.Lower(s) != lowerByWords(s) {
		t.Fatalf("Is(%q) = %t, Lower = %q", s, alabel.Is(s), alabel.Lower(s))
	}
	want, wantErr := decodeByWords(s)
	l, e := alabel.Decode(s)
	if !slices.Equal(l, want) || e != wantErr {
		t.Fatalf("Decode(%q) = %x, %d, want %x, %d", s, l, e, want, wantErr)
	}
	if e != api.OK {
		return e
	}
	back := s
	if isByWords(s) {
		back = lowerByWords(s)
	}
	if label, e := alabel.Encode(l); label != back || e != api.OK {
		t.Fatalf("Decode(%q) = %x, and Encode of it is %q, %d", s, l, label, e)
	}
	return api.OK
}

// wantEncodeByWords compares ASCII and Encode of l with the computations by words, and checks the way
// back, with the exceptions that the chapter names. It returns the error of Encode.
func wantEncodeByWords(t *testing.T, l []int) api.Errno {
	t.Helper()
	ascii := !slices.ContainsFunc(l, isOther)
	if alabel.ASCII(l) != ascii {
		t.Fatalf("ASCII(%x) is not %t", l, ascii)
	}
	want, wantErr := encodeByWords(l)
	s, e := alabel.Encode(l)
	if s != want || e != wantErr {
		t.Fatalf("Encode(%x) = %q, %d, want %q, %d", l, s, e, want, wantErr)
	}
	if e != api.OK || ascii && isByWords(s) {
		return e
	}
	list := slices.Clone(l)
	if !ascii {
		for i, c := range list {
			if c >= 'A' && c <= 'Z' {
				list[i] = c - 'A' + 'a'
			}
		}
	}
	if back, e := alabel.Decode(s); !slices.Equal(back, list) || e != api.OK {
		t.Fatalf("Encode(%x) = %q, and Decode of it is %x, %d", l, s, back, e)
	}
	return api.OK
}

// Promises 11.2 and 11.3: each number as a label, with those beside the scalar values.
func TestEachNumber(t *testing.T) {
	for c := -0x200; c <= api.MaxRune+0x200; c++ {
		want := api.OK
		if c < 0 || c > api.MaxRune || c >= 0xD800 && c <= 0xDFFF {
			want = api.ErrRange
		}
		if e := wantEncodeByWords(t, []int{c}); e != want {
			t.Fatalf("Encode of %#x alone has the error %d, want %d", c, e, want)
		}
	}
}

// Promises 11.1 and 11.2, for every short list of an alphabet with the bounds, and with the prefix.
func TestEveryShortList(t *testing.T) {
	forEachList([]int{-1, 0, 0x2D, 0x41, 0x61, 0x7F, 0x80, 0xFC, 0xD800, api.MaxRune, api.MaxRune + 1}, 4, func(l []int) {
		wantEncodeByWords(t, l)
	})
	forEachList([]int{0x78, 0x58, 0x6E, 0x4E, 0x2D, 0x80}, 6, func(l []int) { wantEncodeByWords(t, l) })
}

// Promises 11.1 and 11.3, for every string of up to two bytes, and longer ones of the bytes of the prefix.
func TestEveryShortString(t *testing.T) {
	forEachString(everyByte(), 2, func(s string) { wantDecodeByWords(t, s) })
	forEachString("xXnN-aA", 6, func(s string) { wantDecodeByWords(t, s) })
}

// Promise 11.3, for every string of up to two bytes behind the prefix, and longer ones of an alphabet with
// the edges of the digits and of the letters.
func TestEveryShortStringBehindThePrefix(t *testing.T) {
	forEachString(everyByte(), 2, func(s string) {
		wantDecodeByWords(t, "xn--"+s)
		wantDecodeByWords(t, "XN--"+s)
	})
	forEachString("-/09:@AZ[`az{\x80", 4, func(s string) { wantDecodeByWords(t, "xn--"+s) })
	seen := map[api.Errno]int{}
	forEachString("-09abzAZ", 6, func(s string) { seen[wantDecodeByWords(t, "xN--"+s)]++ })
	for _, e := range []api.Errno{api.OK, api.ErrPuny} {
		if seen[e] < 20000 {
			t.Errorf("only %d strings with the result %d", seen[e], e)
		}
	}
}

// Promise 11.2, for random lists; among them are enough with each result.
func TestRandomLists(t *testing.T) {
	random := rand.New(rand.NewSource(111))
	seen := map[api.Errno]int{}
	for range 40000 {
		l := make([]int, random.Intn(2+random.Intn(80)))
		width := []int{0x80, 0x82, 0x100, 0x1000, api.MaxRune + 1}[random.Intn(5)]
		for i := range l {
			l[i] = random.Intn(width)
		}
		if random.Intn(3) == 0 {
			l = append(l, slices.Repeat(l, 10)...)
		}
		seen[wantEncodeByWords(t, l)]++
	}
	for _, e := range []api.Errno{api.OK, api.ErrEmpty, api.ErrRange, api.ErrFull, api.ErrLong} {
		if seen[e] < 200 {
			t.Errorf("only %d lists with the result %d", seen[e], e)
		}
	}
}

// Promise 11.3, for random strings; among them are enough with each result.
func TestRandomStrings(t *testing.T) {
	random := rand.New(rand.NewSource(112))
	seen := map[api.Errno]int{}
	for range 40000 {
		seen[wantDecodeByWords(t, randomString(random))]++
	}
	for _, e := range []api.Errno{api.OK, api.ErrEmpty, api.ErrLong, api.ErrPuny, api.ErrOverflow} {
		if seen[e] < 200 {
			t.Errorf("only %d strings with the result %d", seen[e], e)
		}
	}
}

// randomString returns a string that is empty, or has mostly the prefix, basic code points and digits,
// most of which end a number.
func randomString(random *rand.Rand) string {
	if random.Intn(30) == 0 {
		return ""
	}
	var s []byte
	for range random.Intn(30) {
		s = append(s, everyByte()[random.Intn(0x80)])
	}
	if random.Intn(2) == 0 {
		s = nil
	} else {
		s = append(s, '-')
	}
	digits := "abcdefghijklmnopqrstuvwxyz0123456789ABCDEFGHIJKLMNOPQRSTUVWXYZ"
	for range random.Intn(2 + random.Intn(60)) {
		s = append(s, digits[random.Intn(1+random.Intn(len(digits)))])
	}
	if random.Intn(4) == 0 {
		s = append(s, "99999999999"...)
	}
	if random.Intn(30) == 0 {
		s = append(s, byte(random.Intn(256)))
	}
	s = append(s, 'a')
	return []string{"xn--", "XN--", "xN--", ""}[random.Intn(4)] + string(s)
}
