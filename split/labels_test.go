package split_test

import (
	"math"
	"slices"
	"strings"
	"testing"

	"namedesk/api"
	"namedesk/split"
)

// samples are texts of ASCII and their labels.
var samples = []struct {
	name, text string
	labels     []string
}{
	{"nothing", "", []string{""}},
	{"the example", "a..b", []string{"a", "", "b"}},
	{"one label", "a", []string{"a"}},
	{"one longer label", "abc", []string{"abc"}},
	{"two labels", "a.b", []string{"a", "b"}},
	{"three labels", "ab.c.def", []string{"ab", "c", "def"}},
	{"labels in descending order", "c.b.a", []string{"c", "b", "a"}},
	{"equal labels", "ab.ab.ab", []string{"ab", "ab", "ab"}},
	{"a full stop alone", ".", []string{"", ""}},
	{"two full stops", "..", []string{"", "", ""}},
	{"three full stops", "...", []string{"", "", "", ""}},
	{"a full stop at the start", ".a", []string{"", "a"}},
	{"two full stops at the start", "..a", []string{"", "", "a"}},
	{"a full stop at the end", "a.", []string{"a", ""}},
	{"two full stops at the end", "a..", []string{"a", "", ""}},
	{"full stops at both ends", ".a.", []string{"", "a", ""}},
	{"two in a row twice", "a..b..c", []string{"a", "", "b", "", "c"}},
	{"three in a row", "a...b", []string{"a", "", "", "b"}},
	{"bytes beside the full stop", "-.-/./", []string{"-", "-/", "/"}},
	{"other stops", "a,b;c:d!e?f", []string{"a,b;c:d!e?f"}},
	{"spaces stay", " a . b ", []string{" a ", " b "}},
	{"letters stay as they are", "Ab.xn--BCHER-kva.Z", []string{"Ab", "xn--BCHER-kva", "Z"}},
	{"least and greatest of ASCII", "\x00.\x7F", []string{"\x00", "\x7F"}},
	{"a name", "www.example.com", []string{"www", "example", "com"}},
	{"a name with an empty label at its end", "www.example.com.", []string{"www", "example", "com", ""}},
}

// codes returns the bytes of a text as numbers.
func codes(text string) []int {
	l := []int{}
	for i := range len(text) {
		l = append(l, int(text[i]))
	}
	return l
}

// allCodes returns the bytes of each label as numbers.
func allCodes(labels []string) [][]int {
	var lists [][]int
	for _, label := range labels {
		lists = append(lists, codes(label))
	}
	return lists
}

// Promise 12.1: the same samples for all three functions.
func TestSamples(t *testing.T) {
	for _, c := range samples {
		wantStrings(t, c.name, c.text, c.labels)
		wantLabels(t, c.name, codes(c.text), allCodes(c.labels))
		wantJoin(t, c.name, allCodes(c.labels), codes(c.text))
	}
}

// Promise 12.1: what has no elements.
func TestNothing(t *testing.T) {
	wantLabels(t, "nil", nil, [][]int{{}})
	wantLabels(t, "no elements", []int{}, [][]int{{}})
	wantLabels(t, "no elements before others", []int{46, 97, 46}[:0], [][]int{{}})
	wantStrings(t, "no bytes", "a.b"[3:], []string{""})
	wantJoin(t, "nil", nil, nil)
	wantJoin(t, "no labels", [][]int{}, nil)
	wantJoin(t, "no labels before others", [][]int{{97}, {98}}[:0], nil)
}

// Promise 12.1: Join of empty labels, nil or not.
func TestJoinOfEmptyLabels(t *testing.T) {
	for _, empty := range [][]int{nil, {}} {
		for n := 1; n <= 200; n++ {
			wantJoin(t, "empty labels", repeated(empty, n), repeated(46, n-1))
		}
		wantJoin(t, "at the start", [][]int{empty, {97}}, []int{46, 97})
		wantJoin(t, "at the end", [][]int{{97}, empty}, []int{97, 46})
		wantJoin(t, "in the middle", [][]int{{97}, empty, {98}}, []int{97, 46, 46, 98})
	}
}

// Promise 12.1: full stops within a label stay, and count as others do on the way back.
func TestJoinOfLabelsWithFullStops(t *testing.T) {
	for _, c := range []struct {
		list [][]int
		want []int
	}{
		{[][]int{{46}}, []int{46}},
		{[][]int{{46}, {46}}, []int{46, 46, 46}},
		{[][]int{{97, 46, 98}}, []int{97, 46, 98}},
		{[][]int{{97, 46}, {98}}, []int{97, 46, 46, 98}},
		{[][]int{{97}, {46, 98}}, []int{97, 46, 46, 98}},
		{[][]int{{46, 46}, {}, {97, 46, 98}}, []int{46, 46, 46, 46, 97, 46, 98}},
	} {
		wantJoin(t, "full stops in labels", c.list, c.want)
		stops := 0
		for _, v := range c.want {
			if v == 46 {
				stops++
			}
		}
		if got := split.Labels(c.want); len(got) != stops+1 || !slices.Equal(split.Join(got), c.want) {
			t.Errorf("Labels(%d) = %d", c.want, got)
		}
	}
}

// Promise 12.1: one label as it is, whatever its length.
func TestSingleLabels(t *testing.T) {
	for n := range 300 {
		wantJoin(t, "one label", [][]int{repeated(97, n)}, repeated(97, n))
		wantLabels(t, "one label", repeated(97, n), [][]int{repeated(97, n)})
		wantStrings(t, "one label", letters(n), []string{letters(n)})
	}
}

// notFullStops are numbers that are no full stops, among them those that have the same low bits, those that
// mean one elsewhere, and numbers beside the limits.
var notFullStops = []int{
	45, 47, 0, 1, -1, -46, 46 + 128, 46 + 1<<8, 46 + 1<<16, 46 + 1<<31, 46 + 1<<32, 46 + 1<<40, 46 - 1<<8, 46 - 1<<32, math.MinInt + 46,
	math.MinInt, math.MaxInt, ^46, 0x2024, 0x3002, 0xFE52, 0xFF0E, 0xFF61, 0xD800, 0xDFFF, api.MaxRune, api.MaxRune + 1, 1<<31 - 1, 1 << 31, -1 << 31,
}

// Promise 12.1: every other number belongs to a label.
func TestNumbersThatAreNoFullStops(t *testing.T) {
	for c := -70000; c <= 70000; c++ {
		if c != 46 {
			wantPart(t, c)
		}
	}
	for _, c := range notFullStops {
		wantPart(t, c)
	}
	wantLabels(t, "all of them", notFullStops, [][]int{notFullStops})
	wantLabels(t, "all of them twice", slices.Concat(notFullStops, []int{46}, notFullStops), [][]int{notFullStops, notFullStops})
}

// wantPart checks that c divides nothing, alone and beside a full stop.
func wantPart(t *testing.T, c int) {
	t.Helper()
	wantLabels(t, "alone", []int{c}, [][]int{{c}})
	wantLabels(t, "between others", []int{97, c, 98}, [][]int{{97, c, 98}})
	wantLabels(t, "beside a full stop", []int{c, 46, c, c}, [][]int{{c}, {c, c}})
	wantJoin(t, "beside a full stop", [][]int{{c}, {c, c}}, []int{c, 46, c, c})
}

// Promise 12.1: every byte, alone and beside a full stop.
func TestEachByte(t *testing.T) {
	for b := range 256 {
		s := string([]byte{byte(b)})
		if b == 46 {
			wantStrings(t, "full stop", s, []string{"", ""})
			wantStrings(t, "full stop between others", "a"+s+"b", []string{"a", "b"})
			continue
		}
		wantStrings(t, "alone", s, []string{s})
		wantStrings(t, "between others", "a"+s+"b", []string{"a" + s + "b"})
		wantStrings(t, "beside a full stop", s+"."+s+s, []string{s, s + s})
	}
}

// Promise 12.1: Strings looks at bytes alone, UTF-8 or not.
func TestStringsThatAreNotASCII(t *testing.T) {
	for s, want := range map[string][]string{
		"b\u00FCcher.\u4E2D\u56FD": {"b\u00FCcher", "\u4E2D\u56FD"},
		"a\u3002b\uFF0Ec\uFF61d":   {"a\u3002b\uFF0Ec\uFF61d"}, // other full stops
		"a\u2024b\u2026c\uFE52d":   {"a\u2024b\u2026c\uFE52d"},
		"\u002E\u012E.\u2E2E":      {"", "\u012E", "\u2E2E"}, // code points with 2E among their bytes
		"\xC0\xAE.\xE0\x80\xAE":    {"\xC0\xAE", "\xE0\x80\xAE"},
		"\xC3.\xBC":                {"\xC3", "\xBC"}, // within an encoding
		"\xFF..\xFE":               {"\xFF", "", "\xFE"},
		"\xE4.\xB8.\xAD":           {"\xE4", "\xB8", "\xAD"},
	} {
		wantStrings(t, "bytes", s, want)
	}
}

// Promise 12.1: a full stop at each place of a longer sequence.
func TestOneFullStopAtEachPlace(t *testing.T) {
	for n := range 70 {
		for at := range n + 1 {
			parts := []string{letters(at), letters(n - at)}
			wantStrings(t, "one full stop", strings.Join(parts, "."), parts)
			wantLabels(t, "one full stop", codes(strings.Join(parts, ".")), allCodes(parts))
			wantJoin(t, "one full stop", allCodes(parts), codes(strings.Join(parts, ".")))
		}
	}
}

// Promise 12.1: none of the three functions has a limit.
func TestLongSequences(t *testing.T) {
	for _, n := range []int{api.MaxLabels, api.MaxLabels + 1, api.MaxName + 1, api.MaxRunes + 1, api.MaxText + 1, 300000} {
		stops, empty := repeated(46, n), repeated([]int(nil), n+1)
		if got := split.Labels(stops); !equalLists(got, empty) {
			t.Errorf("%d full stops have %d labels", n, len(got))
		}
		if got := split.Join(empty); !slices.Equal(got, stops) {
			t.Errorf("%d empty labels are joined to %d elements", n+1, len(got))
		}
		if got := split.Strings(strings.Repeat(".", n)); !slices.Equal(got, repeated("", n+1)) {
			t.Errorf("a string of %d full stops has %d labels", n, len(got))
		}
		letter := repeated([]int{api.MaxRune}, n)
		if got := split.Labels(split.Join(letter)); !equalLists(got, letter) {
			t.Errorf("%d labels become %d labels", n, len(got))
		}
		if got := split.Strings(letters(n) + "." + letters(n)); !slices.Equal(got, repeated(letters(n), 2)) {
			t.Errorf("labels of %d bytes become %d labels", n, len(got))
		}
	}
}
