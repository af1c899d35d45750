package script_test

import (
	"math"
	"testing"

	"namedesk/api"
)

// Promise 19.1: code points of the sample.
func TestSet(t *testing.T) {
	tables, few := sample(), scriptsOnly(sample())
	for c, want := range setOf {
		wantSet(t, "sample", tables, c, want)
		wantSet(t, "only scripts", few, c, want)
	}
}

// Promise 19.1: without tables, only ASCII and Hangul have scripts.
func TestSetWithoutTables(t *testing.T) {
	for c := -0x100; c <= api.MaxRune+0x100; c++ {
		want := uint64(0)
		switch {
		case c >= 'a' && c <= 'z' || c >= 'A' && c <= 'Z':
			want = set(3)
		case c >= 0 && c <= 0x7F:
			want = every
		case c >= 0x1100 && c <= 0x1112 || c >= 0x1161 && c <= 0x1175 || c >= 0x11A8 && c <= 0x11C2 || c >= 0xAC00 && c <= 0xD7A3:
			want = set(9, 63)
		}
		wantSet(t, "without tables", api.Tables{}, c, want)
	}
}

// jointWith are the joint scripts that belong to a Set because of a script.
var jointWith = map[int][]int{api.Han: {61, 62, 63}, api.Hiragana: {62}, api.Katakana: {62}, api.Hangul: {63}, api.Bopomofo: {61}}

// setOfBasis returns the Set of a code point whose basis consists of these scripts, none of which is Unknown, Common or
// Inherited.
func setOfBasis(basis ...int) uint64 {
	want := set(basis...)
	for _, k := range basis {
		want |= set(jointWith[k]...)
	}
	return want
}

// setOfScript returns the Set of a code point to which table.Script gives this script, without Extensions.
func setOfScript(number int) uint64 {
	switch number {
	case api.Unknown:
		return 0
	case api.Common, api.Inherited:
		return every
	default:
		return setOfBasis(number)
	}
}

// Promise 19.1: each script, by table.Script.
func TestSetOfEachScript(t *testing.T) {
	tables := numbered()
	for k := range api.MaxScript + 1 {
		wantSet(t, "one script", tables, codePointOf(k), setOfScript(k))
	}
	for k, want := range map[int]uint64{
		0: 0, 1: every, 2: every, 3: set(3), 4: set(4), 5: set(5), 6: set(6, 61, 62, 63), 7: set(7, 62), 8: set(8, 62), 9: set(9, 63), 10: set(10, 61),
		11: set(11), 59: set(59), 60: set(60),
	} {
		wantSet(t, "one script, written out", tables, codePointOf(k), want)
	}
}

// Promise 19.1: table.Scripts comes before table.Script, whatever that is, and is not united with it.
func TestSetWithExtensions(t *testing.T) {
	const c = 0x1234
	for number := range api.MaxScript + 1 {
		tables := api.Tables{Script: spans{span(c, c, number)}}
		for k := api.Latin; k <= api.MaxScript; k++ {
			tables.Extensions = mappings{row(c, k)}
			wantSet(t, "one script", tables, c, setOfBasis(k))
		}
		tables.Extensions = mappings{row(c, api.Greek, api.Bopomofo, 33)}
		wantSet(t, "three scripts", tables, c, set(4, 10, 33, 61))
		tables.Extensions = mappings{row(c-1, 44), row(c+1, 44)}
		wantSet(t, "others have several scripts", tables, c, setOfScript(number))
	}
}

// Promise 19.1: each two scripts that a code point belongs to.
func TestSetOfEachTwoScripts(t *testing.T) {
	const c = api.MaxRune
	for j := api.Latin; j < api.MaxScript; j++ {
		for k := j + 1; k <= api.MaxScript; k++ {
			wantSet(t, "two scripts", api.Tables{Extensions: mappings{row(c, j, k)}}, c, setOfBasis(j, k))
		}
	}
}

// Promise 19.1: Han, Hiragana, Katakana, Hangul and Bopomofo, alone and together, and with others.
func TestJointScripts(t *testing.T) {
	const c = 0x3000
	if got := setOfBasis(api.Han, api.Hiragana, api.Katakana, api.Hangul, api.Bopomofo); got != set(6, 7, 8, 9, 10, 61, 62, 63) {
		t.Errorf("all of them: %#x", got)
	}
	count := 0
	for chosen := range 1 << 5 {
		var together []int
		for i := range 5 {
			if chosen>>i&1 == 1 {
				together = append(together, api.Han+i)
			}
		}
		for _, before := range [][]int{nil, {api.Latin}, {api.Greek, api.Cyrillic}} {
			for _, behind := range [][]int{nil, {api.Hebrew}, {api.MaxScript}} {
				basis := join(before, together, behind)
				if len(basis) > 0 {
					count++
					wantSet(t, "several scripts", api.Tables{Extensions: mappings{row(c, basis...)}}, c, setOfBasis(basis...))
				}
			}
		}
	}
	if count != 287 {
		t.Errorf("%d bases", count)
	}
}

// Promise 19.1: as many scripts as a code point may belong to.
func TestSetOfManyScripts(t *testing.T) {
	const c = 0x2000
	for first := api.Latin; first+api.MaxMap-1 <= api.MaxScript; first++ {
		var basis []int
		for k := range api.MaxMap {
			basis = append(basis, first+k)
		}
		wantSet(t, "many scripts", api.Tables{Extensions: mappings{row(c, basis...)}}, c, setOfBasis(basis...))
	}
}

// Promise 19.1: the first and the last code point of a span, and those beside it.
func TestSetAtTheEndsOfSpans(t *testing.T) {
	tables := api.Tables{Script: spans{span(0x400, 0x4FF, api.Cyrillic), span(0xE000, api.MaxRune, api.Common)}}
	for c, want := range map[int]uint64{
		0x3FF: 0, 0x400: set(5), 0x480: set(5), 0x4FF: set(5), 0x500: 0, 0xDFFF: 0, 0xE000: every, api.MaxRune: every, api.MaxRune + 1: 0,
	} {
		wantSet(t, "spans", tables, c, want)
	}
}

// notScalar are numbers that are no scalar values.
var notScalar = []int{
	0xD800, 0xD801, 0xDBFF, 0xDC00, 0xDFFE, 0xDFFF, api.MaxRune + 1, 0x110000 + latin, -1, -'a', -han, 'a' + 1<<32, han + 1<<32, han - 1<<32,
	math.MaxInt32, math.MinInt32, math.MaxInt - 1, math.MaxInt, math.MinInt, math.MinInt + latin,
}

// Promise 19.1: numbers that are no scalar values.
func TestSetOfWhatIsNoScalarValue(t *testing.T) {
	wide := api.Tables{Script: spans{span(0x80, 0x10FF, 1), span(0x11C3, 0xABFF, 1), span(0xD7A4, 0xD7FF, 1), span(0xE000, api.MaxRune, 1)}}
	for _, tables := range []api.Tables{{}, sample(), wide} {
		for _, c := range notScalar {
			wantSet(t, "not a scalar value", tables, c, 0)
		}
		for c := 0xD800; c <= 0xDFFF; c++ {
			wantSet(t, "a surrogate", tables, c, 0)
		}
	}
	for _, c := range []int{0x80, 0x10FF, 0x11C3, 0xABFF, 0xD7A4, 0xD7FF, 0xE000, api.MaxRune} {
		wantSet(t, "beside them", wide, c, every)
	}
}

// Promise 19.1: tables that are not well-formed.
func TestSetWithTablesThatAreNotWellFormed(t *testing.T) {
	for rule := 1; rule <= 9; rule++ {
		tables := violating(rule)
		for c := range setOf {
			wantSet(t, "not well-formed", tables, c, 0)
		}
		for _, c := range notScalar {
			wantSet(t, "not well-formed, not a scalar value", tables, c, 0)
		}
	}
	for name, tables := range notWellFormedScripts() {
		for c := range setOf {
			wantSet(t, name, tables, c, 0)
		}
	}
}

// notWellFormedScripts returns tables whose scripts, or what bears on them, are not well-formed.
func notWellFormedScripts() map[string]api.Tables {
	scripts := func(s ...api.Span) api.Tables { return api.Tables{Script: s} }
	several := func(m ...api.Mapping) api.Tables { return api.Tables{Extensions: m} }
	return map[string]api.Tables{
		"a script below 0":                  scripts(span(greek, greek, -1)),
		"a script far below 0":              scripts(span(greek, greek, math.MinInt)),
		"a script that there is not":        scripts(span(greek, greek, api.MaxScript+1)),
		"a joint script":                    scripts(span(greek, greek, 63)),
		"a number of no script":             scripts(span(greek, greek, 64)),
		"a script of a letter of ASCII":     scripts(span('a', 'a', api.Latin)),
		"a script of a syllable":            scripts(span(hangul, hangul, api.Hangul)),
		"a script of a jamo":                scripts(span(jamo, jamo, api.Hangul)),
		"a script of a surrogate":           scripts(span(0xD7FF, 0xE000, api.Han)),
		"scripts that are not ascending":    scripts(span(hebrew, hebrew, api.Hebrew), span(greek, greek, api.Greek)),
		"scripts over each other":           scripts(span(greek, greek+1, api.Greek), span(greek+1, greek+2, api.Greek)),
		"a script above MaxRune":            scripts(span(greek, api.MaxRune+1, api.Greek)),
		"a code point with no scripts":      several(row(greek)),
		"Unknown among the scripts":         several(row(greek, api.Unknown)),
		"Unknown beside another":            several(row(greek, api.Unknown, api.Greek)),
		"Common among the scripts":          several(row(greek, api.Common)),
		"Common beside another":             several(row(greek, api.Common, api.Greek)),
		"Inherited among the scripts":       several(row(greek, api.Inherited)),
		"Inherited beside another":          several(row(greek, api.Inherited, api.Greek)),
		"scripts below 0":                   several(row(greek, -1)),
		"a joint script among the scripts":  several(row(greek, api.Greek, 61)),
		"a number of no script among them":  several(row(greek, api.Greek, 64)),
		"scripts of a code point unordered": several(row(greek, api.Han, api.Greek)),
		"a script twice":                    several(row(greek, api.Greek, api.Greek)),
		"too many scripts":                  several(row(greek, 3, 4, 5, 6, 7, 8, 9, 10, 11, 12, 13, 14, 15, 16, 17, 18, 19, 20, 21)),
		"scripts of a letter of ASCII":      several(row('a', api.Latin)),
		"code points with scripts unsorted": several(row(hebrew, api.Hebrew), row(greek, api.Greek)),
	}
}
