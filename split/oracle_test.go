package split_test

import (
	"math/rand"
	"slices"
	"strings"
	"testing"

	"namedesk/api"
	"namedesk/split"
)

// labelByWords returns label k of a sequence: the elements with exactly k full stops before them that are no
// full stops themselves.
func labelByWords(l []int, k int) []int {
	var label []int
	stops := 0
	for _, c := range l {
		if c == 46 {
			stops++
		} else if stops == k {
			label = append(label, c)
		}
	}
	return label
}

// wantLabelsByWords compares Labels of l with the computation by words, and checks the way back.
func wantLabelsByWords(t *testing.T, l []int) {
	t.Helper()
	labels := split.Labels(l)
	stops := 0
	for _, c := range l {
		if c == 46 {
			stops++
		}
	}
	if len(labels) != stops+1 {
		t.Fatalf("Labels(%d) = %d, which are not %d labels", l, labels, stops+1)
	}
	for k, label := range labels {
		if want := labelByWords(l, k); !slices.Equal(label, want) {
			t.Fatalf("Labels(%d): label %d is %d, want %d", l, k, label, want)
		}
	}
	if back := split.Join(labels); !slices.Equal(back, l) {
		t.Fatalf("Join(Labels(%d)) = %d", l, back)
	}
}

// checkByWords makes a list of all errors that labels have, in the order of promise 12.2, and returns the
// first one.
func checkByWords(labels []string) (int, api.Errno) {
	type flaw struct {
		at int
		e  api.Errno
	}
	var flaws []flaw
	if len(labels) == 0 {
		flaws = append(flaws, flaw{0, api.ErrEmpty})
	}
	for i, label := range labels {
		if len(label) == 0 {
			flaws = append(flaws, flaw{i, api.ErrEmpty})
		}
		if len(label) >= 64 {
			flaws = append(flaws, flaw{i, api.ErrLong})
		}
	}
	if len(labels) >= 128 || len(strings.Join(labels, ".")) >= 254 {
		flaws = append(flaws, flaw{0, api.ErrLong})
	}
	flaws = append(flaws, flaw{0, api.OK})
	return flaws[0].at, flaws[0].e
}

// wantNameByWords compares Check and Name of labels with the computation by words, and checks the way back,
// with the exception that the chapter names. It returns the error.
func wantNameByWords(t *testing.T, labels []string) api.Errno {
	t.Helper()
	wantAt, want := checkByWords(labels)
	if want != api.OK {
		wantNoName(t, "by words", labels, wantAt, want)
		return want
	}
	name := strings.Join(labels, ".")
	wantName(t, "by words", labels, name)
	if !strings.Contains(strings.Join(labels, ""), ".") {
		wantStrings(t, "way back", name, labels)
	}
	return api.OK
}

// Promise 12.1, for every short sequence of an alphabet with the numbers beside the full stop.
func TestEveryShortSequence(t *testing.T) {
	forEachList([]int{-46, 45, 46, 47, 97, 0x3002, 1 << 40}, 6, func(l []int) { wantLabelsByWords(t, l) })
	forEachList([]int{46, 97}, 12, func(l []int) { wantLabelsByWords(t, l) })
}

// Promise 12.1, for every short string of an alphabet with the bytes beside the full stop.
func TestEveryShortString(t *testing.T) {
	forEachList([]byte{0, 45, 46, 47, 97, 0xAE, 0xC3}, 6, func(b []byte) {
		wantStrings(t, "short", string(b), strings.Split(string(b), "."))
	})
}

// Promises 12.2 and 12.3, for every list of a few labels that are empty, short, at the limit and too long.
func TestEveryShortListOfLabels(t *testing.T) {
	seen := map[api.Errno]int{}
	forEachList([]string{"", "a", ".", letters(61), letters(62), letters(63), letters(64)}, 5, func(labels []string) {
		seen[wantNameByWords(t, labels)]++
	})
	for _, e := range []api.Errno{api.OK, api.ErrEmpty, api.ErrLong} {
		if seen[e] < 500 {
			t.Errorf("only %d lists with the result %d", seen[e], e)
		}
	}
}

// Promise 12.1, for random sequences and strings, and for lists of labels.
func TestRandomSequences(t *testing.T) {
	random := rand.New(rand.NewSource(121))
	for range 3000 {
		l := make([]int, random.Intn(2+random.Intn(200)))
		width := 1 + random.Intn(40)
		for i := range l {
			l[i] = 46 + random.Intn(width) - random.Intn(width)
		}
		wantLabelsByWords(t, l)
		b := make([]byte, len(l))
		for i, c := range l {
			b[i] = byte(c)
		}
		wantStrings(t, "random", string(b), strings.Split(string(b), "."))
		labels := make([]string, random.Intn(20))
		for i := range labels {
			labels[i] = string(b[random.Intn(len(b)+1):])
		}
		wantJoin(t, "random", allCodes(labels), codes(strings.Join(labels, ".")))
	}
}

// Promises 12.2 and 12.3, for random lists of labels; among them are enough with each result.
func TestRandomListsOfLabels(t *testing.T) {
	random := rand.New(rand.NewSource(122))
	seen := map[api.Errno]int{}
	for range 30000 {
		labels := make([]string, random.Intn(1+random.Intn(160)))
		width := 1 + random.Intn(1+random.Intn(66))
		for i := range labels {
			labels[i] = strings.Repeat(string(rune(97+random.Intn(26))), 1+random.Intn(width))
		}
		if len(labels) > 0 && random.Intn(4) == 0 {
			labels[random.Intn(len(labels))] = ""
		}
		seen[wantNameByWords(t, labels)]++
	}
	for _, e := range []api.Errno{api.OK, api.ErrEmpty, api.ErrLong} {
		if seen[e] < 1000 {
			t.Errorf("only %d lists with the result %d", seen[e], e)
		}
	}
}
