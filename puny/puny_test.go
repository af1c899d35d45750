package puny_test

import (
	"slices"
	"strings"
	"testing"

	"namedesk/api"
	"namedesk/puny"
)

// samples are lists and their Punycode, as fixed strings.
var samples = []struct {
	name string
	list []int
	code string
}{
	{"nothing", nil, ""},
	{"nothing, not nil", []int{}, ""},
	{"the number 0", []int{0}, "\x00-"},
	{"greatest basic one", []int{0x7F}, "\x7F-"},
	{"least other one", []int{0x80}, "a"},
	{"both sides of the basic ones", []int{0x7F, 0x80}, "\x7F-ba"},
	{"second other one", []int{0x81}, "ba"},
	{"one below a greatest first digit", []int{0xA2}, "8a"},
	{"greatest first digit", []int{0xA3}, "9a"},
	{"greatest first digit and one more", []int{0xA4}, "bba"},
	{"u with diaeresis", []int{0xFC}, "tda"},
	{"the example", []int{0x62, 0xFC, 0x63, 0x68, 0x65, 0x72}, "bcher-kva"},
	{"before the surrogates", []int{0xD7FF}, "hb9b"},
	{"after the surrogates", []int{0xE000}, "0y0c"},
	{"across the surrogates", []int{0xD7FF, 0xE000}, "hb9bk0m"},
	{"across the surrogates, descending", []int{0xE000, 0xD7FF}, "hb9bj0m"},
	{"end of the first plane", []int{0xFFFF}, "1n7c"},
	{"begin of the second plane", []int{0x10000}, "2n7c"},
	{"MaxRune", []int{0x10FFFF}, "dn32g"},
	{"MaxRune twice", []int{0x10FFFF, 0x10FFFF}, "dn32ga"},
	{"both ends", []int{0x80, 0x10FFFF}, "a08093t"},
	{"both ends, descending", []int{0x10FFFF, 0x80}, "a97093t"},
	{"MaxRune at the end", []int{0x61, 0x10FFFF}, "a-h023p"},
	{"MaxRune at the beginning", []int{0x10FFFF, 0x61}, "a-g023p"},
	{"basic ones alone", []int{0x61, 0x62, 0x63}, "abc-"},
	{"basic ones in their order", []int{0x63, 0x61, 0x62, 0x61}, "caba-"},
	{"capital letters stay", []int{0x41, 0x5A, 0x61, 0x5A}, "AZaZ-"},
	{"digits stay", []int{0x30, 0x39}, "09-"},
	{"a hyphen", []int{0x2D}, "--"},
	{"two hyphens", []int{0x2D, 0x2D}, "---"},
	{"hyphen at the beginning", []int{0x2D, 0x61}, "-a-"},
	{"hyphen at the end", []int{0x61, 0x2D}, "a--"},
	{"hyphens everywhere", []int{0x2D, 0x61, 0x2D, 0x2D, 0x62, 0x2D}, "-a--b--"},
	{"hyphen and another one", []int{0x2D, 0x80}, "--ba"},
	{"another one and a hyphen", []int{0x80, 0x2D}, "--a"},
	{"space, another one and a hyphen", []int{0x20, 0xE9, 0x2D}, " --bja"},
	{"another one at the beginning", []int{0x80, 0x61}, "a-a"},
	{"another one at the end", []int{0x61, 0x80}, "a-ba"},
	{"another one in between", []int{0x61, 0x80, 0x62}, "ab-ba"},
	{"equal ones between basic ones", []int{0x61, 0xFC, 0x62, 0xFC, 0x63}, "abc-hoab"},
	{"capital letter and another one", []int{0x41, 0x80}, "A-ba"},
	{"two equal ones", []int{0x80, 0x80}, "aa"},
	{"eight equal ones", slices.Repeat([]int{0x80}, 8), "aaaaaaaa"},
	{"ascending", []int{0x80, 0x81}, "ac"},
	{"descending", []int{0x81, 0x80}, "ab"},
	{"three descending", []int{0x82, 0x81, 0x80}, "abc"},
	{"a lesser one between equal ones", []int{0x81, 0x80, 0x81}, "abb"},
	{"a greater one between equal ones", []int{0x80, 0x81, 0x80}, "aac"},
	{"three letters", []int{0xE4, 0xF6, 0xFC}, "4ca0bs"},
	{"three letters in another order", []int{0xFC, 0xE4, 0xF6}, "4ca0bq"},
}

// texts are sample texts of RFC 3492 and their Punycode.
var texts = []struct{ text, code string }{
	{"-> $1.00 <-", "-> $1.00 <--"},
	{"Pročprostěnemluvíčesky", "Proprostnemluvesky-uyb24dma41a"},
	{"PorquénopuedensimplementehablarenEspañol", "PorqunopuedensimplementehablarenEspaol-fmd56a"},
	{"TạisaohọkhôngthểchỉnóitiếngViệt", "TisaohkhngthchnitingVit-kjcr8268qyxafd2f1b9g"},
	{"почемужеонинеговорятпорусски", "b1abfaaepdrnnbgefbadotcwatmq2g4l"},
	{"他们为什么不说中文", "ihqwcrb4cv8a8dqg056pqjye"},
	{"他們爲什麽不說中文", "ihqwctvzc91f659drss3x8bo0yb"},
	{"なぜみんな日本語を話してくれないのか", "n8jok5ay5dzabd5bym9f0cm5685rrjetr6pdxa"},
	{"세계의모든사람들이한국어를이해한다면얼마나좋을까", "989aomsvi5e83db1d2a355cv1e0vak1dwrv93d5xbh15a0dt30a5jpsd879ccm6fea98c"},
	{"3年B組金八先生", "3B-ww4c5e180e575a65lsy2b"},
	{"安室奈美恵-with-SUPER-MONKEYS", "-with-SUPER-MONKEYS-pc58ag80a8qai00g7n9n"},
	{"Hello-Another-Way-それぞれの場所", "Hello-Another-Way--fc4qua05auwb3674vfr0b"},
	{"ひとつ屋根の下2", "2-u9tlzr9756bt3uc0v"},
	{"MajiでKoiする5秒前", "MajiKoi5-783gue6qz075azm5e"},
	{"パフィーdeルンバ", "de-jg4avhby1noc0d"},
	{"そのスピードで", "d9juau41awczczp"},
}

// Promises 10.2 and 10.3.
func TestSamples(t *testing.T) {
	for _, c := range samples {
		wantBothWays(t, c.name, c.list, c.code)
	}
	for _, c := range texts {
		wantBothWays(t, c.text, points(c.text), c.code)
	}
}

// Promise 10.2: the digits of the number of each scalar value that stands alone, and the way back.
func TestEachScalarValue(t *testing.T) {
	for c := range api.MaxRune + 1 {
		if c >= 0xD800 && c <= 0xDFFF {
			continue
		}
		s, e := puny.Encode([]int{c})
		want := string(rune(c)) + "-"
		if c >= 0x80 {
			want = s
			if c < 0x4000 || c%64 == 0 {
				want = smallDigits(c-0x80, 72)
			}
		}
		if s != want || e != api.OK {
			t.Fatalf("Encode of %#x = %q, %d, want %q", c, s, e, want)
		}
		if l, e := puny.Decode(s); len(l) != 1 || l[0] != c || e != api.OK {
			t.Fatalf("Decode(%q) = %x, %d, want %#x", s, l, e, c)
		}
	}
}

// Promise 10.3: digits may be capital letters, and basic code points keep theirs.
func TestCapitalDigits(t *testing.T) {
	wantDecode(t, "capital digits", "TDA", []int{0xFC})
	wantDecode(t, "some capital digits", "tDa", []int{0xFC})
	wantDecode(t, "the example", "bcher-KVA", points("bücher"))
	wantDecode(t, "capital basic ones", "BCHER-kva", points("BüCHER"))
	wantDecode(t, "capital digits with a meaning elsewhere", "b1abfaaepdrnnbgefbaDotcwatmq2g4l", points("почемужеонинеговорятпорусски"))
	for _, c := range texts {
		at := max(0, strings.LastIndex(c.code, "-"))
		wantDecode(t, c.text, c.code[:at]+strings.ToUpper(c.code[at:]), points(c.text))
	}
}

// Promise 10.2: elements that are no scalar values, at each place.
func TestEncodeRefusesWhatIsNoScalarValue(t *testing.T) {
	longest := slices.Repeat([]int{0xFC}, maxElements-1)
	for _, c := range noScalars {
		for _, l := range [][]int{nil, {0x61}, {0xFC}, points("bücher"), longest} {
			for at := range len(l) + 1 {
				wantNoCode(t, "no scalar value", with(l, at, c), api.ErrRange)
			}
		}
		for _, other := range noScalars {
			wantNoCode(t, "no scalar values", []int{c, other}, api.ErrRange)
		}
	}
}

// Promise 10.2: the limit, which comes before the elements.
func TestEncodeLimit(t *testing.T) {
	for _, c := range []int{0, 0x61, 0x2D, 0x7F, 0x80, 0xFC, 0xD7FF, 0xE000, api.MaxRune} {
		l := slices.Repeat([]int{c}, maxElements)
		want := strings.Repeat("a", maxElements-1)
		if c < 0x80 {
			want = strings.Repeat(string(rune(c)), maxElements) + "-"
		} else {
			want = smallDigits(c-0x80, 72) + want
		}
		wantBothWays(t, "256 elements", l, want)
		wantNoCode(t, "257 elements", append(l, c), api.ErrFull)
		wantNoCode(t, "257 elements, one basic", append(l, 0x61), api.ErrFull)
	}
	for _, c := range noScalars {
		for _, n := range []int{maxElements + 1, maxElements + 2, api.MaxRunes} {
			for _, at := range []int{0, maxElements - 1, maxElements, n - 1} {
				l := make([]int, n)
				l[at] = c
				wantNoCode(t, "too many elements", l, api.ErrFull)
			}
		}
	}
}

// Promise 10.3: the limit, and sequences that are longer than those of Encode.
func TestDecodeLimit(t *testing.T) {
	zeros := strings.Repeat("a", maxBytes)
	wantDecode(t, "2048 numbers", zeros, slices.Repeat([]int{0x80}, maxBytes))
	wantDecode(t, "2047 basic ones", zeros[1:]+"-", slices.Repeat([]int{0x61}, maxBytes-1))
	wantDecode(t, "2046 basic ones and a number", zeros[2:]+"-a", with(slices.Repeat([]int{0x61}, maxBytes-2), 0, 0x80))
	wantDecode(t, "257 numbers", zeros[:257], slices.Repeat([]int{0x80}, 257))
	for _, s := range []string{
		zeros[1:] + "9", zeros[1:] + "!", "!" + zeros[1:], zeros[2:] + "-!", zeros[2:] + "-9", "\x80" + zeros[2:] + "-",
		zeros[2:] + "\x80-", "-" + zeros[1:], strings.Repeat("9", maxBytes), strings.Repeat("\xFF", maxBytes),
	} {
		wantNoList(t, "2048 bytes", s, api.ErrPuny)
	}
	wantNoList(t, "2048 bytes", strings.Repeat("9", maxBytes-1)+"a", api.ErrOverflow)
	for _, s := range []string{
		"a" + zeros, zeros + "-", "-" + zeros, zeros + "!", "!" + zeros, zeros + "9", "\x80" + zeros[1:] + "-", zeros[1:] + "-!",
		strings.Repeat("9", maxBytes) + "a", strings.Repeat("9", maxBytes+1), strings.Repeat("\xFF", maxBytes+1),
		zeros + zeros, strings.Repeat("-", maxBytes+1), strings.Repeat("\xFF", api.MaxText),
	} {
		wantNoList(t, "more than 2048 bytes", s, api.ErrFull)
	}
}

// Rule R2: the argument is unchanged, with its unused capacity.
func TestEncodeLeavesItsArgument(t *testing.T) {
	backing := points("zübäöaüéßü-")
	before := slices.Clone(backing)
	for n := range len(backing) + 1 {
		if _, e := puny.Encode(backing[:n]); e != api.OK || !slices.Equal(backing, before) {
			t.Fatalf("Encode of %d elements: %d, and the list became %x", n, e, backing)
		}
	}
	backing[5] = -1
	before = slices.Clone(backing)
	if _, e := puny.Encode(backing); e != api.ErrRange || !slices.Equal(backing, before) {
		t.Errorf("%d, and the list became %x", e, backing)
	}
}

// Rule R2: results share no memory with each other, with their unused capacity.
func TestDecodeReturnsNewMemory(t *testing.T) {
	for _, c := range samples {
		first, _ := puny.Decode(c.code)
		second, _ := puny.Decode(c.code)
		for i := range first[:cap(first)] {
			first[:cap(first)][i] = -99
		}
		if third, _ := puny.Decode(c.code); !slices.Equal(second, c.list) || !slices.Equal(third, c.list) {
			t.Errorf("%s: a change of one result changed others: %x, %x", c.name, second, third)
		}
	}
}
