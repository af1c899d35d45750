package alabel_test

import (
	"math"
	"strings"
	"testing"

	"namedesk/alabel"
	"namedesk/api"
)

// Promise 11.1: the prefix in all letters, alone and with something behind it.
func TestIsWithThePrefix(t *testing.T) {
	for _, prefix := range []string{"xn--", "Xn--", "xN--", "XN--"} {
		for _, behind := range []string{"", "-", "a", "A", "bcher-kva", "BCHER-KVA", "xn--", "\x00", "\x80", "\xFF", ".", strings.Repeat("a", 5000)} {
			if !alabel.Is(prefix + behind) {
				t.Errorf("Is(%.20q) is false", prefix+behind)
			}
		}
	}
}

// Promise 11.1: strings that lack a byte of the prefix, or have another one.
func TestIsWithoutThePrefix(t *testing.T) {
	for _, s := range []string{
		"", "x", "X", "-", "xn", "XN", "xn-", "XN-", "n--", "x--", "---", "n--a", "x--a", "xn-a", "xna-", "xn-a-", "nx--", "--xn", "-xn-", "xn",
		" xn--", "axn--", "-xn--", "xxn--", "xnn--", "xn -", "xn.-", "xn-\x00", "xn-\xAD", "abcd", "bcher-kva", "xm--a", "yn--a", "wn--a", "xo--a",
		"x\x00--", "\xF8n--", "x\xEE--", "\x58\x4E\x0D\x0D", "8n--", "x.--", "\x18n--", "x\x0E--", "xn\x0D-", "xn-\x0D", "ab--c",
	} {
		if alabel.Is(s) {
			t.Errorf("Is(%q) is true", s)
		}
	}
}

// Promise 11.1: every byte at each of the four places.
func TestIsWithEachByte(t *testing.T) {
	for at, permitted := range []string{"xX", "nN", "-", "-"} {
		for b := range 256 {
			s := []byte("xn--a")
			s[at] = byte(b)
			want := strings.IndexByte(permitted, byte(b)) >= 0
			if alabel.Is(string(s)) != want || alabel.Is(string(s[:4])) != want {
				t.Errorf("Is(%q) and Is(%q), want %t", s, s[:4], want)
			}
			for size := range 4 {
				if alabel.Is(string(s[:size])) {
					t.Errorf("Is(%q) is true", s[:size])
				}
			}
		}
	}
}

// Promise 11.1: single elements, at each place among ASCII.
func TestASCII(t *testing.T) {
	if !alabel.ASCII(nil) || !alabel.ASCII([]int{}) {
		t.Error("an empty list has elements that are not ASCII")
	}
	for c := -300; c <= 300; c++ {
		wantASCII(t, c, c >= 0 && c <= 127)
	}
	for _, c := range []int{
		0x100, 0x161, 1 << 8, 1<<8 + 0x61, 0xD800, 0xDFFF, 0xFFFF, 1 << 16, api.MaxRune, api.MaxRune + 1, 1 << 31, 1<<31 - 1,
		1 << 32, 1<<32 + 0x61, 1 << 40, math.MaxInt, math.MinInt, math.MinInt + 0x61, -1 << 31, -1 << 32, -1<<32 + 0x61, -256 + 0x61,
	} {
		wantASCII(t, c, false)
	}
}

func wantASCII(t *testing.T, c int, want bool) {
	t.Helper()
	if alabel.ASCII([]int{c}) != want {
		t.Errorf("ASCII of %d alone is %t", c, !want)
	}
	for at := range 5 {
		if l := with([]int{0, 127, 0x61, 0x41}, at, c); alabel.ASCII(l) != want {
			t.Errorf("ASCII(%d) is %t", l, !want)
		}
	}
}

// Promise 11.1: ASCII of longer lists has no limit.
func TestASCIIOfLongLists(t *testing.T) {
	for _, n := range []int{api.MaxLabel, api.MaxLabel + 1, maxPuny + 1, api.MaxRunes + 1, 100000} {
		l := repeated(127, n)
		if !alabel.ASCII(l) {
			t.Errorf("%d elements are not ASCII", n)
		}
		for _, at := range []int{0, n / 2, n - 1} {
			for _, c := range []int{-1, 128} {
				l[at] = c
				if alabel.ASCII(l) {
					t.Errorf("%d elements with %d at %d are ASCII", n, c, at)
				}
				l[at] = 127
			}
		}
	}
}

// Promise 11.1: every byte, alone, between others, and all together.
func TestLowerOfEachByte(t *testing.T) {
	wantAll := ""
	for b := range 256 {
		want := byte(b)
		if at := strings.IndexByte("ABCDEFGHIJKLMNOPQRSTUVWXYZ", want); at >= 0 {
			want = "abcdefghijklmnopqrstuvwxyz"[at]
		}
		wantAll += string([]byte{want})
		wantLower(t, string([]byte{byte(b)}), string([]byte{want}))
		wantLower(t, string([]byte{'A', byte(b), 'Z'}), string([]byte{'a', want, 'z'}))
		wantLower(t, string([]byte{0xC3, byte(b), byte(b)}), string([]byte{0xC3, want, want}))
	}
	wantLower(t, everyByte(), wantAll)
	wantLower(t, strings.Repeat(everyByte(), 40), strings.Repeat(wantAll, 40))
}

func wantLower(t *testing.T, s, want string) {
	t.Helper()
	if got := alabel.Lower(s); got != want {
		t.Errorf("Lower(%.80q) = %.80q, want %.80q", s, got, want)
	}
}

// Promise 11.1: letters that are not A to Z stay, and so do strings that are not UTF-8.
func TestLowerOfStrings(t *testing.T) {
	for s, want := range map[string]string{
		"": "", "A": "a", "Z": "z", "a": "a", "XN--BCHER-KVA": "xn--bcher-kva", "xn--bcher-kva": "xn--bcher-kva",
		"aBcDeF": "abcdef", "@AZ[`az{": "@az[`az{", "0-9.": "0-9.",
		"\u00DC":                   "\u00DC", // U with diaeresis
		"\u0130I":                  "\u0130i",
		"\u212AK":                  "\u212Ak", // the Kelvin sign, whose small letter is k
		"\u0410A":                  "\u0410a",
		"\xC0\x80A":                "\xC0\x80a",
		"\xFF\xFEZ":                "\xFF\xFEz",
		"A\xC3":                    "a\xC3",
		strings.Repeat("Z", 70000): strings.Repeat("z", 70000),
	} {
		wantLower(t, s, want)
		wantLower(t, want, want)
	}
}
