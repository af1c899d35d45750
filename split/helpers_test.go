package split_test

import (
	"slices"
	"strings"
	"testing"

	"namedesk/api"
	"namedesk/split"
)

// repeated returns a list of n equal elements.
func repeated[T any](v T, n int) []T { return slices.Repeat([]T{v}, n) }

// letters returns a label of n bytes.
func letters(n int) string { return strings.Repeat("a", n) }

// replaced returns a copy of labels with another one at index at.
func replaced(labels []string, at int, label string) []string {
	changed := slices.Clone(labels)
	changed[at] = label
	return changed
}

// sizesOf returns the lengths of labels, for messages.
func sizesOf(labels []string) []int {
	var sizes []int
	for _, label := range labels[:min(len(labels), 150)] {
		sizes = append(sizes, len(label))
	}
	return sizes
}

// equalLists reports whether two lists of lists have equal elements.
func equalLists(a, b [][]int) bool { return slices.EqualFunc(a, b, slices.Equal[[]int]) }

func wantLabels(t *testing.T, name string, l []int, want [][]int) {
	t.Helper()
	if got := split.Labels(l); !equalLists(got, want) {
		t.Errorf("%s: Labels(%d) = %d, want %d", name, l, got, want)
	}
}

func wantJoin(t *testing.T, name string, l [][]int, want []int) {
	t.Helper()
	if got := split.Join(l); !slices.Equal(got, want) {
		t.Errorf("%s: Join(%d) = %d, want %d", name, l, got, want)
	}
}

func wantStrings(t *testing.T, name, s string, want []string) {
	t.Helper()
	if got := split.Strings(s); !slices.Equal(got, want) {
		t.Errorf("%s: Strings(%q) = %q, want %q", name, s, got, want)
	}
}

// wantName checks that labels have no error, and what their name is.
func wantName(t *testing.T, name string, labels []string, want string) {
	t.Helper()
	if at, e := split.Check(labels); at != 0 || e != api.OK {
		t.Errorf("%s: Check of %d labels with the sizes %d = %d, %d, want no error", name, len(labels), sizesOf(labels), at, e)
	}
	if s, e := split.Name(labels); s != want || e != api.OK {
		t.Errorf("%s: Name of %d labels with the sizes %d = %q, %d, want %q", name, len(labels), sizesOf(labels), s, e, want)
	}
}

// wantNoName checks that labels have an error, and the number of the label that it is about.
func wantNoName(t *testing.T, name string, labels []string, wantAt int, want api.Errno) {
	t.Helper()
	if at, e := split.Check(labels); at != wantAt || e != want {
		t.Errorf("%s: Check of %d labels with the sizes %d = %d, %d, want %d, %d", name, len(labels), sizesOf(labels), at, e, wantAt, want)
	}
	if s, e := split.Name(labels); s != "" || e != want {
		t.Errorf("%s: Name of %d labels with the sizes %d = %q, %d, want the error %d", name, len(labels), sizesOf(labels), s, e, want)
	}
}

// forEachList calls visit with each list of up to n elements of the alphabet.
func forEachList[T any](alphabet []T, n int, visit func([]T)) {
	var extend func(l []T)
	extend = func(l []T) {
		visit(l)
		if len(l) < n {
			for _, v := range alphabet {
				extend(append(slices.Clone(l), v))
			}
		}
	}
	extend(nil)
}
