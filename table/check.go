package table

import (
	"slices"

	"namedesk/api"
	"namedesk/ranges"
	"namedesk/utf"
)

const (
	mostClass     = 254            // the greatest combining class
	tooManyPoints = api.MaxMap + 1 // stands for all sizes of full decompositions that are not permitted
)

// Check returns the number of the first rule that tables violate, and 0 if they are well-formed. Each
// rule may rely on those before it.
func Check(t api.Tables) int {
	switch {
	case !areRowsFew(t):
		return 1
	case !areRowsInOrder(t):
		return 2
	case !areValuesInRange(t):
		return 3
	case !areSequencesInRange(t):
		return 4
	case !areMapsOfStatus(t):
		return 5
	case !areDecompsFinite(t):
		return 6
	case !areExcludedDecomps(t):
		return 7
	case !areCompositionsUnique(t):
		return 8
	case !arePrototypesFinal(t):
		return 9
	default:
		return 0
	}
}

// spanLists returns the lists of spans of t in their order.
func spanLists(t api.Tables) [7][]api.Span {
	return [...][]api.Span{t.Category, t.Class, t.Joining, t.Bidi, t.Script, t.Status, t.Ignorable}
}

// mappingLists returns the lists of mappings of t in their order.
func mappingLists(t api.Tables) [4][]api.Mapping {
	return [...][]api.Mapping{t.Extensions, t.Maps, t.Decomps, t.Prototypes}
}

// areRowsFew is rule 1.
func areRowsFew(t api.Tables) bool {
	for _, l := range spanLists(t) {
		if len(l) > api.MaxRows {
			return false
		}
	}
	for _, l := range mappingLists(t) {
		if len(l) > api.MaxRows {
			return false
		}
	}
	return len(t.Excluded) <= api.MaxRows
}

// areRowsInOrder is rule 2.
func areRowsInOrder(t api.Tables) bool {
	for _, l := range spanLists(t) {
		if !ranges.Check(l, 0, api.MaxRune) {
			return false
		}
		if slices.ContainsFunc(l, func(s api.Span) bool { return containsReserved(s.From, s.To) }) {
			return false
		}
	}
	return areKeys(froms(t.Extensions), isReserved) &&
		areKeys(froms(t.Maps), isReserved) &&
		areKeys(froms(t.Decomps), isReserved) &&
		areKeys(froms(t.Prototypes), isReservedForPrototypes) &&
		areKeys(t.Excluded, isReserved)
}

// froms returns the From of each element of l.
func froms(l []api.Mapping) []int {
	keys := make([]int, 0, len(l))
	for _, m := range l {
		keys = append(keys, m.From)
	}
	return keys
}

// areKeys reports whether l consists of ascending code points none of which is forbidden.
func areKeys(l []int, isForbidden func(int) bool) bool {
	return isAscending(l, 0, api.MaxRune) && !slices.ContainsFunc(l, isForbidden)
}

// isAscending reports whether each element of l is greater than the one before it, and all are from
// least to most.
func isAscending(l []int, least, most int) bool {
	for i, v := range l {
		if v < least || v > most || i > 0 && v <= l[i-1] {
			return false
		}
	}
	return true
}

// areValuesInRange is rule 3.
func areValuesInRange(t api.Tables) bool {
	return areValuesFrom(t.Category, 0, api.Control) &&
		areValuesFrom(t.Class, 1, mostClass) &&
		areValuesFrom(t.Joining, 0, api.Transparent) &&
		areValuesFrom(t.Bidi, 0, api.BidiOther) &&
		areValuesFrom(t.Script, 0, api.MaxScript) &&
		areValuesFrom(t.Status, 0, api.Deviation) &&
		areValuesFrom(t.Ignorable, 1, 1)
}

// areValuesFrom reports whether the values of l are from least to most.
func areValuesFrom(l []api.Span, least, most int) bool {
	return !slices.ContainsFunc(l, func(s api.Span) bool { return s.Value < least || s.Value > most })
}

// areSequencesInRange is rule 4.
func areSequencesInRange(t api.Tables) bool {
	return areSequences(t.Extensions, func(to []int) bool { return isAscending(to, api.Latin, api.MaxScript) }) &&
		areSequences(t.Maps, areScalars) &&
		areSequences(t.Decomps, areScalars) &&
		areSequences(t.Prototypes, areScalars)
}

// areSequences reports whether each To of l has a permitted length and elements.
func areSequences(l []api.Mapping, arePermitted func([]int) bool) bool {
	for _, m := range l {
		if len(m.To) < 1 || len(m.To) > api.MaxMap || !arePermitted(m.To) {
			return false
		}
	}
	return true
}

// areScalars reports whether all elements of l are scalar values.
func areScalars(l []int) bool {
	return !slices.ContainsFunc(l, func(c int) bool { return utf.Length(c) == 0 })
}

// areMapsOfStatus is rule 5.
func areMapsOfStatus(t api.Tables) bool {
	// The From of Maps all differ. If each of them is Mapped, and they are as many as the code points
	// that are, they are the same.
	for _, m := range t.Maps {
		if Status(t, m.From) != api.Mapped {
			return false
		}
		for _, c := range m.To {
			if s := Status(t, c); s != api.Valid && s != api.Deviation {
				return false
			}
		}
	}
	return len(t.Maps) == countOfValue(t.Status, api.Mapped)
}

// countOfValue returns the number of code points to which l gives a value.
func countOfValue(l []api.Span, value int) int {
	n := 0
	for _, s := range l {
		if s.Value == value {
			n += s.To - s.From + 1
		}
	}
	return n
}

// areDecompsFinite is rule 6.
func areDecompsFinite(t api.Tables) bool {
	for _, m := range t.Decomps {
		if len(m.To) > 2 || slices.ContainsFunc(m.To, isForbiddenInDecomp) {
			return false
		}
	}
	e := expansion{decomps: t.Decomps, sizes: make([]int, len(t.Decomps))}
	for _, m := range t.Decomps {
		if e.size(m.From) > api.MaxMap {
			return false
		}
	}
	return true
}

// isForbiddenInDecomp reports whether c must not be in a decomposition: a full stop would divide a
// label, and Hangul has decompositions of its own.
func isForbiddenInDecomp(c int) bool { return c == '.' || isSyllable(c) || isJamo(c) }

// expansion computes the sizes of full decompositions. It keeps them, since the number of steps could
// double with each decomposition otherwise.
type expansion struct {
	decomps []api.Mapping
	sizes   []int // of the full decomposition of each From, 0 as long as it has not been computed
}

// size returns the number of elements of the full decomposition of c, and tooManyPoints if it has more
// than MaxMap or is not finite.
func (e *expansion) size(c int) int {
	i, found := findMapping(e.decomps, c)
	if !found {
		return 1
	}
	if e.sizes[i] == 0 {
		// A decomposition that leads back to c meets this size.
		e.sizes[i] = tooManyPoints
		n := 0
		for _, part := range e.decomps[i].To {
			n += e.size(part)
		}
		e.sizes[i] = min(n, tooManyPoints)
	}
	return e.sizes[i]
}

// areExcludedDecomps is rule 7.
func areExcludedDecomps(t api.Tables) bool {
	return !slices.ContainsFunc(t.Excluded, func(c int) bool { return !hasDecomp(t, c) })
}

// areCompositionsUnique is rule 8.
func areCompositionsUnique(t api.Tables) bool {
	taken := map[[2]int]bool{}
	for _, m := range t.Decomps {
		if !isComposable(t, m) {
			continue
		}
		pair := [2]int{m.To[0], m.To[1]}
		if taken[pair] {
			return false
		}
		taken[pair] = true
	}
	return true
}

// isComposable reports whether a decomposition is composable. Full decompositions must be finite.
func isComposable(t api.Tables, m api.Mapping) bool {
	if len(m.To) != 2 || Excluded(t, m.From) {
		return false
	}
	first, second := m.To[0], m.To[1]
	if Class(t, m.From) != 0 || Class(t, first) != 0 || hasDecomp(t, second) {
		return false
	}
	i, found := findMapping(t.Decomps, first)
	if !found {
		// The full decomposition of the first element is itself, and has the class 0.
		return true
	}
	if !isComposable(t, t.Decomps[i]) {
		return false
	}
	// The second element of a composable decomposition has no decomposition: it ends the full one.
	last, class := t.Decomps[i].To[1], Class(t, second)
	return class == 0 || class >= Class(t, last)
}

// arePrototypesFinal is rule 9.
func arePrototypesFinal(t api.Tables) bool {
	for _, m := range t.Prototypes {
		if !isPlain(t, m.From) {
			return false
		}
		for _, c := range m.To {
			_, found := findMapping(t.Prototypes, c)
			if found || isSyllable(c) || !isPlain(t, c) {
				return false
			}
		}
	}
	return true
}

// isPlain reports whether c has no decomposition and is not ignorable.
func isPlain(t api.Tables, c int) bool { return !hasDecomp(t, c) && !Ignorable(t, c) }

// hasDecomp reports whether c has a decomposition in t.
func hasDecomp(t api.Tables, c int) bool {
	_, found := findMapping(t.Decomps, c)
	return found
}
