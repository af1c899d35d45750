package script_test

import (
	"math/rand"
	"slices"
	"testing"

	"namedesk/api"
	"namedesk/script"
	"namedesk/table"
)

// flags is a set of scripts with a field for each of them.
type flags [64]bool

// oracle gives the scripts of each code point.
type oracle func(c int) flags

// bits returns the set as a number.
func (f flags) bits() uint64 {
	var scripts uint64
	for k, has := range f {
		if has {
			scripts += 1 << k
		}
	}
	return scripts
}

// basisIn returns the basis of a scalar value, looking at each row, one after the other.
func basisIn(tables api.Tables, c int) []int {
	for _, m := range tables.Extensions {
		if m.From == c {
			return m.To
		}
	}
	for _, s := range tables.Script {
		if s.From <= c && c <= s.To {
			return []int{s.Value}
		}
	}
	switch {
	case c >= 'A' && c <= 'Z' || c >= 'a' && c <= 'z':
		return []int{api.Latin}
	case c <= 0x7F:
		return []int{api.Common}
	case c >= 0xAC00 && c <= 0xD7A3 || c >= 0x1100 && c <= 0x1112 || c >= 0x1161 && c <= 0x1175 || c >= 0x11A8 && c <= 0x11C2:
		return []int{api.Hangul}
	}
	return []int{api.Unknown}
}

// ofTables returns the oracle for tables, by the words of 19.1.
func ofTables(tables api.Tables) oracle {
	return func(c int) flags {
		var f flags
		for _, k := range basisIn(tables, c) {
			switch k {
			case api.Common, api.Inherited:
				for every := range f {
					f[every] = true
				}
				return f
			case api.Unknown:
				return flags{}
			case api.Han:
				f[61], f[62], f[63] = true, true, true
			case api.Hiragana, api.Katakana:
				f[62] = true
			case api.Hangul:
				f[63] = true
			case api.Bopomofo:
				f[61] = true
			}
			f[k] = true
		}
		return f
	}
}

// resolve returns the result of Resolve, script by script.
func (o oracle) resolve(l []int) uint64 {
	var common flags
	for k := range common {
		common[k] = !slices.ContainsFunc(l, func(c int) bool { return !o(c)[k] })
	}
	return common.bits()
}

// covered returns the result of Covered for a set of these scripts.
func (o oracle) covered(l []int, scripts ...int) bool {
	for _, c := range l {
		its := o(c)
		if !slices.ContainsFunc(scripts, func(k int) bool { return its[k] }) {
			return false
		}
	}
	return true
}

// level returns the result of Level: the levels of 19.4, one after the other.
func (o oracle) level(l []int) int {
	if !slices.ContainsFunc(l, func(c int) bool { return c >= 128 }) {
		return 1
	}
	if o.resolve(l) != 0 {
		return 2
	}
	for _, joint := range []int{61, 62, 63} {
		if o.covered(l, api.Latin, joint) {
			return 3
		}
	}
	for other := 3; other <= 60; other++ {
		if other != api.Latin && other != api.Greek && other != api.Cyrillic && o.covered(l, api.Latin, other) {
			return 4
		}
	}
	for _, c := range l {
		if o(c) == (flags{}) {
			return 6
		}
	}
	return 5
}

// remembered returns an oracle that computes what it gives for these code points only once.
func (o oracle) remembered(of []int) oracle {
	known := map[int]flags{}
	for _, c := range of {
		known[c] = o(c)
	}
	return func(c int) flags { return known[c] }
}

// wantOracle compares the results of Resolve, Single, Covered and Level for a list of scalar values that is not too
// long.
func wantOracle(t *testing.T, tables api.Tables, o oracle, l []int, sets ...[]int) {
	t.Helper()
	wantResolve(t, "oracle", tables, l, o.resolve(l))
	for _, scripts := range sets {
		wantCovered(t, "oracle", tables, l, set(scripts...), o.covered(l, scripts...))
	}
	wantLevel(t, "oracle", tables, l, o.level(l))
}

// alphabet has code points with sets of each kind.
var alphabet = []int{
	'a', '1', latin, greek, cyrillic, han, hiragana, hangul, bopomofo, hebrew, common, unknown, latinGreek, greekCyrillic, hebrewDevanagari, katakanaDevanagari, anyEastAsian,
	hebrewBopomofo,
}

// everyList calls visit with every list of at most size elements of the alphabet.
func everyList(size int, visit func([]int)) {
	var extend func(l []int)
	extend = func(l []int) {
		visit(l)
		if len(l) == size {
			return
		}
		for _, c := range alphabet {
			extend(append(slices.Clone(l), c))
		}
	}
	extend(nil)
}

// someSets are sets for Covered.
var someSets = [][]int{{}, {0}, {3}, {3, 4}, {4, 5, 11}, {6, 13}, {61}, {62}, {63}, {3, 61}, {3, 62}, {3, 63}, {7, 9, 10, 60}}

func TestEveryShortList(t *testing.T) {
	tables := scriptsOnly(sample())
	o := ofTables(tables).remembered(alphabet)
	count, found := 0, map[int]int{}
	everyList(4, func(l []int) {
		found[o.level(l)]++
		wantOracle(t, tables, o, l, someSets[count%len(someSets)], someSets[(count+5)%len(someSets)])
		count++
	})
	if count != 111151 {
		t.Errorf("%d lists", count)
	}
	for level := api.LevelASCII; level <= api.LevelUnrestricted; level++ {
		if found[level] < 10 {
			t.Errorf("level %d: %d lists", level, found[level])
		}
	}
}

// levelOf returns the level of a list without an error.
func levelOf(t *testing.T, tables api.Tables, l []int) int {
	t.Helper()
	level, e := script.Level(tables, l)
	if e != api.OK || level < api.LevelASCII || level > api.LevelUnrestricted {
		t.Errorf("Level(%s) = %d, %d", shown(l), level, e)
	}
	return level
}

// The first consequence of the chapter: Level does not depend on the order of the code points.
func TestLevelDoesNotDependOnTheOrder(t *testing.T) {
	tables := scriptsOnly(sample())
	levels := map[[3]int]int{}
	everyList(3, func(l []int) {
		if len(l) < 3 {
			return
		}
		level, sorted := levelOf(t, tables, l), slices.Sorted(slices.Values(l))
		key := [3]int(sorted)
		if before, known := levels[key]; known && before != level {
			t.Errorf("Level(%s) = %d, and %d in another order", shown(l), level, before)
		}
		levels[key] = level
	})
	if len(levels) != 1140 {
		t.Errorf("%d lists without their order", len(levels))
	}
}

// The second consequence of the chapter: a part does not have a higher level than the whole.
func TestPartsDoNotHaveHigherLevels(t *testing.T) {
	tables := scriptsOnly(sample())
	everyList(3, func(l []int) {
		whole := levelOf(t, tables, l)
		for at := range l {
			part := slices.Delete(slices.Clone(l), at, at+1)
			if level := levelOf(t, tables, part); level > whole {
				t.Errorf("Level(%s) = %d, Level(%s) = %d", shown(part), level, shown(l), whole)
			}
		}
	})
}

// Both consequences of the chapter, for longer lists.
func TestLevelsOfRandomParts(t *testing.T) {
	random := rand.New(rand.NewSource(191))
	tables := scriptsOnly(sample())
	for range 3000 {
		l := make([]int, random.Intn(40))
		few := alphabet[random.Intn(len(alphabet)-3):]
		for i := range l {
			l[i] = few[random.Intn(min(4, len(few)))]
		}
		whole := levelOf(t, tables, l)
		from := random.Intn(len(l) + 1)
		part := l[from : from+random.Intn(len(l)-from+1)]
		if level := levelOf(t, tables, part); level > whole {
			t.Errorf("Level(%s) = %d, Level(%s) = %d", shown(part), level, shown(l), whole)
		}
		random.Shuffle(len(l), func(i, j int) { l[i], l[j] = l[j], l[i] })
		if level := levelOf(t, tables, l); level != whole {
			t.Errorf("Level(%s) = %d, and %d in another order", shown(l), level, whole)
		}
	}
}

// Promise 19.1: each number around the code points, with the tables of the sample.
func TestSetOfEachNumber(t *testing.T) {
	tables := scriptsOnly(sample())
	o := ofTables(tables)
	for c := -0x100; c <= api.MaxRune+0x100; c++ {
		want := uint64(0)
		if c >= 0 && c <= api.MaxRune && (c < 0xD800 || c > 0xDFFF) {
			want = o(c).bits()
		}
		if got := script.Set(tables, c); got != want {
			t.Errorf("Set(%#x) = %#x, want %#x", c, got, want)
		}
	}
}

// randomScripts returns random scripts for the code points from 0x2000 to 0x203F, which are now and then not valid.
func randomScripts(random *rand.Rand) api.Tables {
	var tables api.Tables
	few := []int{0, 1, 2, 3, 3, 4, 5, 6, 7, 8, 9, 10, 11, 12, 59, 60}
	for c := 0x2000 + random.Intn(3); c < 0x2040; {
		end := min(c+random.Intn(5), 0x203F)
		tables.Script = append(tables.Script, span(c, end, few[random.Intn(len(few))]))
		c = end + 1 + random.Intn(3)
	}
	for c := 0x2000 + random.Intn(3); c < 0x2040; c += 1 + random.Intn(5) {
		tables.Extensions = append(tables.Extensions, row(c, randomBasis(random)...))
	}
	switch random.Intn(12) {
	case 0:
		tables.Script[random.Intn(len(tables.Script))].Value = []int{-1, 61, 63, 64}[random.Intn(4)]
	case 1:
		tables.Extensions[random.Intn(len(tables.Extensions))].To[0] = random.Intn(3)
	case 2:
		tables.Extensions[random.Intn(len(tables.Extensions))].From = 'a'
	}
	return tables
}

// randomBasis returns one script or several ones, in ascending order.
func randomBasis(random *rand.Rand) []int {
	var basis []int
	for range 1 + random.Intn(4) {
		basis = append(basis, []int{3 + random.Intn(3), 3 + random.Intn(10), 3 + random.Intn(58)}[random.Intn(3)])
	}
	slices.Sort(basis)
	return slices.Compact(basis)
}

// randomSet returns a set for Covered, which often has Latin.
func randomSet(random *rand.Rand) []int {
	var scripts []int
	for range random.Intn(4) {
		scripts = append(scripts, []int{3, random.Intn(13), 61 + random.Intn(3), random.Intn(64)}[random.Intn(4)])
	}
	return scripts
}

// randomList returns a list of code points that these tables say something about, or that are ASCII or Hangul.
func randomList(random *rand.Rand, size int) []int {
	l := make([]int, size)
	for i := range l {
		switch random.Intn(6) {
		case 0:
			l[i] = random.Intn(0x80)
		case 1:
			l[i] = 'a'
		case 2:
			l[i] = []int{0xAC00, 0xD7A3, 0x1100, 'b', '1'}[random.Intn(5)]
		default:
			l[i] = 0x1FFF + random.Intn(0x42)
		}
	}
	return l
}

func TestRandomTables(t *testing.T) {
	random := rand.New(rand.NewSource(192))
	wellFormed, others, found := 0, 0, map[int]int{}
	for range 4000 {
		tables := randomScripts(random)
		if table.Check(tables) != 0 {
			others++
			l := randomList(random, random.Intn(4))
			wantRefused(t, "random tables", tables, l, api.ErrTable)
			wantSet(t, "random tables", tables, 0x2000+random.Intn(0x40), 0)
			continue
		}
		wellFormed++
		o := ofTables(tables)
		for _, size := range []int{0, 1, 2, 2, 3, 3, 4, 6} {
			l := randomList(random, size)
			found[o.level(l)]++
			wantOracle(t, tables, o, l, randomSet(random), randomSet(random))
			for _, c := range l {
				wantSet(t, "oracle", tables, c, o(c).bits())
			}
		}
	}
	if wellFormed < 2500 || others < 500 {
		t.Errorf("%d tables are well-formed, %d are not", wellFormed, others)
	}
	for level := api.LevelASCII; level <= api.LevelUnrestricted; level++ {
		if found[level] < 300 {
			t.Errorf("level %d: %d lists", level, found[level])
		}
	}
}
