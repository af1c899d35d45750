package alabel_test

import (
	"slices"
	"strings"
	"testing"

	"namedesk/alabel"
	"namedesk/api"
)

// samples are labels and their ASCII forms, which lead back to each other.
var samples = []struct {
	name  string
	list  []int
	label string
}{
	{"the example", []int{0x62, 0xFC, 0x63, 0x68, 0x65, 0x72}, "xn--bcher-kva"},
	{"the number 0", []int{0}, "\x00"},
	{"greatest of ASCII", []int{127}, "\x7F"},
	{"both bounds of ASCII", []int{127, 0, 127}, "\x7F\x00\x7F"},
	{"one letter", []int{0x61}, "a"},
	{"one capital letter", []int{0x41}, "A"},
	{"small letters", []int{0x61, 0x62, 0x63}, "abc"},
	{"capital letters", []int{0x41, 0x42, 0x5A}, "ABZ"},
	{"both letters", []int{0x61, 0x42, 0x7A, 0x5A}, "aBzZ"},
	{"a hyphen", []int{0x2D}, "-"},
	{"hyphens", []int{0x2D, 0x2D, 0x2D, 0x2D}, "----"},
	{"full stops", []int{0x2E, 0x61, 0x2E}, ".a."},
	{"part of the prefix", []int{0x78, 0x6E, 0x2D}, "xn-"},
	{"prefix with another byte", []int{0x78, 0x6D, 0x2D, 0x2D, 0x61}, "xm--a"},
	{"prefix at another place", []int{0x61, 0x78, 0x6E, 0x2D, 0x2D, 0x61}, "axn--a"},
	{"what looks like Punycode", []int{0x62, 0x63, 0x2D, 0x6B, 0x76, 0x61}, "bc-kva"},
	{"least of the others", []int{0x80}, "xn--a"},
	{"both sides of the bound", []int{0x7F, 0x80}, "xn--\x7F-ba"},
	{"u with diaeresis", []int{0xFC}, "xn--tda"},
	{"two others", []int{0x80, 0x81}, "xn--ac"},
	{"before the surrogates", []int{0xD7FF}, "xn--hb9b"},
	{"after the surrogates", []int{0xE000}, "xn--0y0c"},
	{"MaxRune", []int{api.MaxRune}, "xn--dn32g"},
	{"both ends", []int{0x80, api.MaxRune}, "xn--a08093t"},
	{"other and hyphen", []int{0x80, 0x2D}, "xn----a"},
	{"hyphen and other", []int{0x2D, 0x80}, "xn----ba"},
	{"two hyphens and other", []int{0x2D, 0x2D, 0x80}, "xn-----ca"},
	{"space, other and hyphen", []int{0x20, 0xE9, 0x2D}, "xn-- --bja"},
	{"number 0 and other", []int{0, 0x80}, "xn--\x00-ba"},
	{"the prefix and other", []int{0x78, 0x6E, 0x2D, 0x2D, 0x80}, "xn--xn---ea"},
	{"full stop and other", []int{0x2E, 0x80}, "xn--.-ba"},
	{"digits and other", []int{0x39, 0x80, 0x30}, "xn--90-ba"},
	{"munich", points("m\u00FCnchen"), "xn--mnchen-3ya"},
	{"chinese", []int{0x4E2D, 0x56FD}, "xn--fiqs8s"},
	{"cyrillic", []int{0x440, 0x444}, "xn--p1ai"},
	{"a symbol of the second plane", []int{0x1F4A9}, "xn--ls8h"},
	{"greek", []int{0x3B2, 0x3CC, 0x3BB, 0x3BF, 0x3C2}, "xn--nxasmm1c"},
	{"arabic", []int{0x627, 0x6CC, 0x631, 0x627, 0x646}, "xn--mgba3a4f16a"},
	{"tamil", []int{0xB87, 0xBB2, 0xB99, 0xBCD, 0xB95, 0xBC8}, "xn--xkc2al3hye2a"},
	{"with a joiner", []int{0x6E, 0x61, 0x6D, 0x65, api.ZWNJ}, "xn--name-376a"},
}

// Promises 11.2 and 11.3.
func TestSamples(t *testing.T) {
	for _, c := range samples {
		wantBothWays(t, c.name, c.list, c.label)
		if strings.HasPrefix(c.label, "xn--") == alabel.ASCII(c.list) {
			t.Errorf("%s: ASCII is %t", c.name, alabel.ASCII(c.list))
		}
		if !strings.HasPrefix(c.label, "xn--") {
			continue
		}
		for _, changed := range []string{strings.ToUpper(c.label), "XN--" + c.label[4:], "Xn--" + c.label[4:], "xN--" + c.label[4:], "xn--" + strings.ToUpper(c.label[4:])} {
			wantDecode(t, c.name+" in capital letters", changed, c.list)
		}
	}
}

// Promise 11.3: capital letters in the prefix, among the digits and among the basic code points; the last
// become small letters, too.
func TestDecodeOfCapitalLetters(t *testing.T) {
	buecher := points("b\u00FCcher")
	for _, s := range []string{
		"XN--bcher-kva", "Xn--bcher-kva", "xN--bcher-kva", "xn--bcher-KVA", "xn--bcher-kVa", "xn--bcher-Kva", "xn--bcher-kvA",
		"xn--BCHER-kva", "xn--Bcher-kva", "xn--bcheR-kva", "xn--BCHER-KVA", "XN--BCHER-KVA", "XN--BCHER-kva", "xN--bChEr-KvA",
	} {
		wantDecode(t, "capital letters", s, buecher)
	}
	wantDecode(t, "all basic letters", "XN--ABCDEFGHIJKLMNOPQRSTUVWXYZ-0ZC", points("abc\u00FCdefghijklmnopqrstuvwxyz"))
	wantDecode(t, "basic code points beside the letters", "xn--@[`{A-A", []int{0x80, 0x40, 0x5B, 0x60, 0x7B, 0x61})
	wantDecode(t, "basic code points beside the letters", "xn--@[`{A-FA", []int{0x40, 0x5B, 0x60, 0x7B, 0x61, 0x80})
}

// Promise 11.3: without the prefix, capital letters stay.
func TestDecodeKeepsCapitalLettersOfASCII(t *testing.T) {
	for _, s := range []string{"A", "Z", "ABC", "aBc", "XN", "XN-", "XN-A", "XNA--", "XM--BCHER-KVA", "BCHER-KVA", "-XN--A", " XN--A"} {
		wantBothWays(t, "ASCII", points(s), s)
	}
}

// Promise 11.2: capital letters stay, also beside other code points. They are lost on the way back.
func TestEncodeKeepsCapitalLetters(t *testing.T) {
	wantEncode(t, "capital letters", points("B\u00FCcher"), "xn--Bcher-kva")
	wantEncode(t, "capital letters", points("B\u00FCCHER"), "xn--BCHER-kva")
	wantEncode(t, "capital letters", points("A\u0080Z"), "xn--AZ-ba")
	wantDecode(t, "capital letters", "xn--Bcher-kva", points("b\u00FCcher"))
	for c := 'A'; c <= 'Z'; c++ {
		s, e := alabel.Encode([]int{int(c), 0x80})
		if want := "xn--" + string(c) + "-ba"; s != want || e != api.OK {
			t.Errorf("Encode of %c and another one = %q, %d, want %q", c, s, e, want)
		}
		wantDecode(t, "capital letter", s, []int{int(c) + 0x20, 0x80})
	}
}

// Promise 11.2: a label that is ASCII is its own ASCII form also where it has the prefix. The way back is
// another one then.
func TestEncodeOfASCIIWithThePrefix(t *testing.T) {
	for _, s := range []string{"xn--", "XN--", "xn--a", "xN--tda", "xn--bcher-kva", "XN--BCHER-KVA", "xn--abc-", "xn---", "xn--9", "xn--!", "xn--99999999999a"} {
		wantEncode(t, "ASCII with the prefix", points(s), s)
	}
	wantDecode(t, "ASCII with the prefix", "xn--bcher-kva", points("b\u00FCcher"))
}

// Promises 11.2 and 11.3: each byte of ASCII as a label.
func TestEachByteOfASCII(t *testing.T) {
	for b := range 128 {
		s := string(rune(b))
		wantBothWays(t, "one byte", []int{b}, s)
		wantBothWays(t, "among others", []int{0x61, b, 0x41}, "a"+s+"A")
	}
	for at := 0; at < 128; at += api.MaxLabel {
		s := everyByte()[at:min(128, at+api.MaxLabel)]
		wantBothWays(t, "many bytes", points(s), s)
	}
}

// Rule R2: the argument is unchanged, with its unused capacity.
func TestEncodeLeavesItsArgument(t *testing.T) {
	for _, backing := range [][]int{points("z\u00FCb\u00E4\u00F6a\u00FC\u00E9\u00DF\u00FC-"), points("ABCabcXN--")} {
		before := slices.Clone(backing)
		for n := 1; n <= len(backing); n++ {
			if _, e := alabel.Encode(backing[:n]); e != api.OK || !slices.Equal(backing, before) {
				t.Fatalf("Encode of %d elements: %d, and the list became %x", n, e, backing)
			}
			if alabel.ASCII(backing[:n]); !slices.Equal(backing, before) {
				t.Fatalf("ASCII of %d elements: the list became %x", n, backing)
			}
		}
		backing[5] = -1
		before = slices.Clone(backing)
		if _, e := alabel.Encode(backing); e != api.ErrRange || !slices.Equal(backing, before) {
			t.Errorf("%d, and the list became %x", e, backing)
		}
	}
}

// Rule R2: results share no memory with each other, with their unused capacity.
func TestDecodeReturnsNewMemory(t *testing.T) {
	for _, c := range samples {
		first, _ := alabel.Decode(c.label)
		second, _ := alabel.Decode(c.label)
		for i := range first[:cap(first)] {
			first[:cap(first)][i] = -99
		}
		if third, _ := alabel.Decode(c.label); !slices.Equal(second, c.list) || !slices.Equal(third, c.list) {
			t.Errorf("%s: a change of one result changed others: %x, %x", c.name, second, third)
		}
	}
}
