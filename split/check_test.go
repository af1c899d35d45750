package split_test

import (
	"slices"
	"strings"
	"testing"

	"namedesk/api"
	"namedesk/split"
)

// Promises 12.2 and 12.3: lists of labels without an error, and their names.
func TestNames(t *testing.T) {
	for _, c := range []struct {
		labels []string
		want   string
	}{
		{[]string{"a"}, "a"},
		{[]string{"a", "b"}, "a.b"},
		{[]string{"b", "a", "b"}, "b.a.b"},
		{[]string{"www", "example", "com"}, "www.example.com"},
		{[]string{"xn--bcher-kva", "Ab"}, "xn--bcher-kva.Ab"},
		{[]string{"-", "-a-", "0"}, "-.-a-.0"},
		{[]string{" ", "\x00", "\x7F"}, " .\x00.\x7F"},
		{[]string{"\x80", "\xFF", "b\u00FCcher"}, "\x80.\xFF.b\u00FCcher"}, // not ASCII, which Check is not about
		{[]string{letters(63)}, letters(63)},
		{[]string{letters(63), letters(63)}, letters(63) + "." + letters(63)},
	} {
		wantName(t, "without an error", c.labels, c.want)
		if got := split.Strings(c.want); !slices.Equal(got, c.labels) {
			t.Errorf("Strings(%q) = %q, want %q", c.want, got, c.labels)
		}
	}
}

// Promises 12.2 and 12.3: each byte as a label, and among others.
func TestEachByteAsALabel(t *testing.T) {
	for b := range 256 {
		s := string([]byte{byte(b)})
		wantName(t, "one byte", []string{s}, s)
		wantName(t, "among others", []string{"a", s + s, "b"}, "a."+s+s+".b")
	}
}

// Promises 12.2 and 12.3: a full stop within a label is a byte like any other. Strings of the name has more
// labels then.
func TestLabelsWithFullStops(t *testing.T) {
	wantName(t, "a full stop", []string{"."}, ".")
	wantName(t, "two full stops", []string{".", "."}, "...")
	wantName(t, "within a label", []string{"a.b", "c"}, "a.b.c")
	wantName(t, "two in a row", []string{"a..b"}, "a..b")
	wantName(t, "at the ends", []string{".a", "b."}, ".a.b.")
	wantName(t, "MaxLabel of them", []string{strings.Repeat(".", 63)}, strings.Repeat(".", 63))
	wantNoName(t, "one more", []string{strings.Repeat(".", 64)}, 0, api.ErrLong)
	wantStrings(t, "within a label", "a.b.c", []string{"a", "b", "c"})
}

// Promises 12.2 and 12.3: no labels at all.
func TestNoLabels(t *testing.T) {
	wantNoName(t, "nil", nil, 0, api.ErrEmpty)
	wantNoName(t, "no labels", []string{}, 0, api.ErrEmpty)
	wantNoName(t, "no labels before others", []string{"a", "b"}[:0], 0, api.ErrEmpty)
}

// Promises 12.2 and 12.3: the example, and what Strings returns for texts with empty labels.
func TestEmptyLabelsOfStrings(t *testing.T) {
	for s, want := range map[string]int{
		"a..b": 1, "": 0, ".": 0, "..": 0, ".a": 0, "a.": 1, "a..": 1, ".a.": 0, "a.b.": 2, "a.b..c": 2, "a.b.c.d.": 4, "..a..": 0, "www.example.com.": 3,
	} {
		wantNoName(t, s, split.Strings(s), want, api.ErrEmpty)
	}
}

// counts are numbers of labels, below the limit, at it, and above it.
var counts = []int{1, 2, 3, 4, 5, 60, 126, 127, 128, 129, 253, 254, 300, 5000}

// Promises 12.2 and 12.3: an empty label in each place, also in a list of too many labels or bytes.
func TestEmptyLabelInEachPlace(t *testing.T) {
	for _, n := range counts {
		for _, size := range []int{1, 2, 63} {
			labels := repeated(letters(size), n)
			for at := range n {
				if n < 1000 || at < 2 || at%999 == 0 || at == n-1 {
					wantNoName(t, "one empty label", replaced(labels, at, ""), at, api.ErrEmpty)
				}
			}
			wantNoName(t, "empty labels to the end", append(labels, repeated("", n)...), n, api.ErrEmpty)
		}
		wantNoName(t, "empty labels", repeated("", n), 0, api.ErrEmpty)
	}
}

// Promises 12.2 and 12.3: labels of MaxLabel bytes and of one more in each place, also in a list of too many
// labels or bytes.
func TestLongLabelInEachPlace(t *testing.T) {
	for _, n := range counts {
		labels := repeated("b", n)
		for at := range n {
			if n > 1000 && at > 2 && at%999 != 0 && at < n-1 {
				continue
			}
			for _, size := range []int{64, 65, 126, 127, 128, 253, 254, 255, 256, 319, 320, 512, 4097} {
				wantNoName(t, "one long label", replaced(labels, at, letters(size)), at, api.ErrLong)
			}
			greatest := replaced(labels, at, letters(63))
			if n <= 96 { // 63 bytes, and two for each other label: at most 253
				wantName(t, "MaxLabel bytes", greatest, strings.Join(greatest, "."))
			} else {
				wantNoName(t, "MaxLabel bytes, too long together", greatest, 0, api.ErrLong)
			}
		}
		wantNoName(t, "long labels to the end", append(labels, repeated(letters(64), n)...), n, api.ErrLong)
		wantNoName(t, "long labels", repeated(letters(64), n), 0, api.ErrLong)
	}
}

// Promise 12.2: a label of each length, whose bytes are counted, not its code points.
func TestLabelsOfEachLength(t *testing.T) {
	for n := 1; n < 600; n++ {
		if n <= 63 {
			wantName(t, "one label", []string{letters(n)}, letters(n))
			wantName(t, "the second label", []string{"b", letters(n)}, "b."+letters(n))
		} else {
			wantNoName(t, "one label", []string{letters(n)}, 0, api.ErrLong)
			wantNoName(t, "the second label", []string{"b", letters(n)}, 1, api.ErrLong)
		}
	}
	wide := strings.Repeat("\u00FC", 31)
	wantName(t, "62 bytes and one", []string{wide + "a"}, wide+"a")
	wantNoName(t, "62 bytes and two", []string{wide + "\u00FC"}, 0, api.ErrLong)
	wantNoName(t, "63 code points", []string{"a", strings.Repeat("\u4E2D", 63)}, 1, api.ErrLong)
}

// Promises 12.2 and 12.3: MaxLabels labels, which have MaxName bytes then, and one more.
func TestNumberOfLabels(t *testing.T) {
	for n := 1; n < 600; n++ {
		labels := repeated("a", n)
		if n <= 127 {
			wantName(t, "labels of one byte", labels, strings.Join(labels, "."))
		} else {
			wantNoName(t, "labels of one byte", labels, 0, api.ErrLong)
		}
	}
	for _, n := range []int{api.MaxText, 300000} {
		wantNoName(t, "many labels", repeated("a", n), 0, api.ErrLong)
		wantNoName(t, "many labels of MaxLabel bytes", repeated(letters(63), n), 0, api.ErrLong)
	}
}

// Promises 12.2 and 12.3: names of MaxName bytes, of one less and of one more, with each number of labels that
// there can be.
func TestNumberOfBytes(t *testing.T) {
	for n := 4; n <= 127; n++ {
		for size := 252; size <= 254; size++ {
			labels, fits := labelsOfSize(n, size)
			if !fits {
				continue
			}
			for range 3 {
				if size <= 253 {
					wantName(t, "fits", labels, strings.Join(labels, "."))
				} else {
					wantNoName(t, "too long", labels, 0, api.ErrLong)
				}
				slices.Reverse(labels)
				labels = append(labels[1:], labels[0])
			}
		}
	}
}

// labelsOfSize returns n labels that have size bytes with the full stops between them, the first ones as long
// as possible, if there are such labels.
func labelsOfSize(n, size int) ([]string, bool) {
	spare := size - (n - 1) - n
	var labels []string
	for range n {
		more := max(0, min(spare, 62))
		labels = append(labels, letters(1+more))
		spare -= more
	}
	return labels, spare == 0
}

// Promises 12.2 and 12.3: lengths of a few labels around the limit.
func TestFourLabelsAroundTheLimit(t *testing.T) {
	for a := 58; a <= 63; a++ {
		for b := 58; b <= 63; b++ {
			for c := 58; c <= 63; c++ {
				for d := 1; d <= 63; d++ {
					labels := []string{letters(a), letters(b), letters(c), letters(d)}
					if a+b+c+d+3 <= 253 {
						wantName(t, "fits", labels, strings.Join(labels, "."))
					} else {
						wantNoName(t, "too long", labels, 0, api.ErrLong)
					}
				}
			}
		}
	}
	full := []string{letters(63), letters(63), letters(63), letters(61)}
	wantName(t, "253 bytes", full, strings.Join(full, "."))
	wantNoName(t, "254 bytes", replaced(full, 3, letters(62)), 0, api.ErrLong)
	wantNoName(t, "255 bytes", append(full, "a"), 0, api.ErrLong)
	short := replaced(full, 3, letters(59))
	wantName(t, "253 bytes with a fifth label", append(short, "a"), strings.Join(short, ".")+".a")
	wantNoName(t, "254 bytes with a fifth label", append(short, "ab"), 0, api.ErrLong)
}

// Promises 12.2 and 12.3, rule R5: the first label with an error decides, and a label comes before the whole.
func TestSeveralErrors(t *testing.T) {
	long := letters(64)
	for _, n := range append([]int{0}, counts...) { // labels that are in order, before those that are not
		for _, size := range []int{1, 63} {
			before := repeated(letters(size), n)
			for _, behind := range [][]string{nil, {"a"}, repeated("a", 127), repeated(letters(63), 4)} {
				for _, c := range []struct {
					labels []string
					want   api.Errno
				}{
					{[]string{"", long}, api.ErrEmpty},
					{[]string{long, ""}, api.ErrLong},
					{[]string{"", "a", long}, api.ErrEmpty},
					{[]string{long, "a", ""}, api.ErrLong},
					{[]string{"", "", long}, api.ErrEmpty},
					{[]string{long, long, ""}, api.ErrLong},
					{[]string{"", long, ""}, api.ErrEmpty},
					{[]string{long, "", long}, api.ErrLong},
				} {
					wantNoName(t, "several errors", slices.Concat(before, c.labels, behind), n, c.want)
				}
			}
		}
	}
}
