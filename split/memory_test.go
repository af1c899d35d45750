package split_test

import (
	"reflect"
	"slices"
	"strings"
	"testing"

	"namedesk/api"
	"namedesk/split"
)

// sequences are sequences with labels of several lengths, and with unused capacity.
func sequences() [][]int {
	backing := []int{97, 98, 46, 99, 46, 46, 100, 101, 102, 46, 103, 46}
	var lists [][]int
	for n := range len(backing) {
		lists = append(lists, slices.Clone(backing)[:n])
	}
	return lists
}

// Rule R2: Labels leaves its argument, and its unused capacity, and does not keep it.
func TestLabelsLeavesItsArgument(t *testing.T) {
	for _, l := range sequences() {
		whole := l[:cap(l)]
		before := slices.Clone(whole)
		labels := split.Labels(l)
		if !slices.Equal(whole, before) {
			t.Errorf("Labels changed its argument to %d", whole)
		}
		want := split.Labels(before[:len(l)])
		for i := range whole {
			whole[i] = -7
		}
		if !equalLists(labels, want) {
			t.Errorf("a change of the argument changed the labels to %d, want %d", labels, want)
		}
	}
}

// Rule R2: labels share no memory with the argument or each other, with their unused capacity.
func TestLabelsReturnsNewMemory(t *testing.T) {
	for _, l := range sequences() {
		whole := slices.Clone(l[:cap(l)])
		want := split.Labels(slices.Clone(l))
		for at := range want {
			labels, others := split.Labels(l), split.Labels(l)
			for i := range labels[at][:cap(labels[at])] {
				labels[at][:cap(labels[at])][i] = -8
			}
			_ = append(labels[at], -9, -9)
			labels[at] = want[at]
			if !equalLists(labels, want) || !equalLists(others, want) || !slices.Equal(l[:cap(l)], whole) {
				t.Errorf("a change of label %d of %d changed others: %d, %d", at, whole[:len(l)], labels, others)
			}
			_ = append(labels[:at], []int{-10}, []int{-10})
			if !equalLists(others, want) {
				t.Errorf("a change of one list changed another: %d", others)
			}
		}
	}
}

// overlappingLabels returns labels that all lie in one memory, which is returned too. The rest of it is their
// unused capacity.
func overlappingLabels() ([][]int, []int) {
	memory := codes("abcdefghij0123456789")
	return [][]int{memory[:2], memory[3:3], memory[1:4], memory[8:10], memory[5:6]}, memory
}

// Rule R2: Join leaves its argument, with all unused capacities, and its result is new memory.
func TestJoinLeavesItsArgument(t *testing.T) {
	unchanged, _ := overlappingLabels()
	for n, text := range []string{"", "ab", "ab.", "ab..bcd", "ab..bcd.ij"} {
		l, memory := overlappingLabels()
		before := slices.Clone(memory)
		joined, other := split.Join(l[:n]), split.Join(l[:n])
		want := codes(text)
		if !slices.Equal(joined, want) || !slices.Equal(memory, before) || !equalLists(l, unchanged) {
			t.Errorf("Join of %d labels = %d, and their memory became %d", n, joined, memory)
		}
		for i := range joined[:cap(joined)] {
			joined[:cap(joined)][i] = -7
		}
		if !slices.Equal(memory, before) || !slices.Equal(other, want) {
			t.Errorf("a change of the result changed the labels to %d, or another result to %d", memory, other)
		}
		for i := range memory {
			memory[i] = -8
		}
		if !slices.Equal(other, want) {
			t.Errorf("a change of the labels changed the result to %d", other)
		}
	}
}

// Rule R2: Check and Name leave their argument, with its unused capacity, whatever the error is.
func TestCheckAndNameLeaveTheirArgument(t *testing.T) {
	for _, backing := range [][]string{
		{"b", "a", "XN--A", "a", "-"}, {"b", "", "a"}, {"b", letters(64), "", "a"}, repeated("b", 130), repeated(letters(63), 6),
	} {
		before := slices.Clone(backing)
		for n := range len(backing) + 1 {
			split.Check(backing[:n])
			split.Name(backing[:n])
			if !slices.Equal(backing, before) {
				t.Fatalf("after Check and Name of %d labels, the list is %q", n, backing)
			}
		}
	}
}

// Rule R2: the lists that Strings returns are different ones.
func TestStringsReturnsNewLists(t *testing.T) {
	for _, c := range samples {
		first, second := split.Strings(c.text), split.Strings(c.text)
		for i := range first[:cap(first)] {
			first[:cap(first)][i] = "changed"
		}
		if !slices.Equal(second, c.labels) {
			t.Errorf("%s: a change of one list changed another to %q", c.name, second)
		}
	}
}

// within reports whether part lies in the memory of s. Both have at least two bytes, since the program may keep
// each shorter string in one place for all.
func within(part, s string) bool {
	start, at := reflect.ValueOf(s).Pointer(), reflect.ValueOf(part).Pointer()
	return at >= start && at < start+uintptr(len(s))
}

// Rule R2: strings are new memory, too.
func TestStringsAreNewMemory(t *testing.T) {
	for n := 2; n < 60; n++ {
		label := letters(n)
		for count := 1; count <= 4; count++ {
			name := strings.Join(repeated(label, count+1), ".")[:(n+1)*count-1]
			for at, part := range split.Strings(name) {
				if within(part, name) {
					t.Errorf("label %d of %q lies within it", at, name)
				}
			}
			labels := repeated(label, count)
			whole, e := split.Name(labels)
			if e != api.OK || within(whole, label) {
				t.Errorf("the name of %q lies within a label, or has the error %d", labels, e)
			}
		}
	}
}
