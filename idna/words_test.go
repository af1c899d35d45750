package idna_test

import (
	"math/rand"
	"slices"
	"strings"
	"testing"

	"namedesk/alabel"
	"namedesk/api"
	"namedesk/bidi"
	"namedesk/compose"
	"namedesk/mapping"
	"namedesk/split"
	"namedesk/table"
	"namedesk/utf"
	"namedesk/valid"
)

// step is one of the steps of 18.1, or of what follows in 18.2: its error and the position.
type step func() (int, api.Errno)

// firstError makes the steps in order, up to the first one that returns an error.
func firstError(steps ...step) (int, api.Errno) {
	for _, s := range steps {
		if at, e := s(); e != api.OK {
			return at, e
		}
	}
	return 0, api.OK
}

// byTheWords returns what the three functions return for any tables, with the functions that the chapter names.
func byTheWords(tables api.Tables, s string) outcome {
	var l []int
	var labels [][]int
	var ascii []string
	ofTables := func() (int, api.Errno) {
		return 0, map[bool]api.Errno{true: api.OK, false: api.ErrTable}[table.Check(tables) == 0]
	}
	ofEmpty := func() (int, api.Errno) { return 0, map[bool]api.Errno{true: api.OK, false: api.ErrEmpty}[len(s) > 0] }
	decode := func() (at int, e api.Errno) { l, at, e = utf.Decode(s); return }
	replace := func() (at int, e api.Errno) { l, at, e = mapping.Map(tables, l); return }
	normalize := func() (at int, e api.Errno) { l, e = compose.NFC(tables, l); return }
	check := func() (int, api.Errno) {
		for number, label := range split.Labels(l) {
			if text, _ := utf.Encode(label); alabel.ASCII(label) && alabel.Is(text) {
				var e api.Errno
				if label, e = alabel.Decode(text); e != api.OK {
					return number, e
				}
			}
			if e := valid.Check(tables, label); e != api.OK {
				return number, e
			}
			labels = append(labels, label)
		}
		return 0, api.OK
	}
	domain := func() (int, api.Errno) { return bidi.Domain(tables, labels) }
	if at, e := firstError(ofTables, ofEmpty, decode, replace, normalize, check, domain); e != api.OK {
		return fails(at, e)
	}
	encode := func() (int, api.Errno) {
		for number, label := range labels {
			form, e := alabel.Encode(label)
			if e != api.OK {
				return number, e
			}
			ascii = append(ascii, form)
		}
		return 0, api.OK
	}
	limit := func() (int, api.Errno) { return split.Check(ascii) }
	unicode, _ := utf.Encode(split.Join(labels))
	if at, e := firstError(encode, limit); e != api.OK {
		return late(unicode, at, e)
	}
	name, _ := split.Name(ascii)
	return forms(unicode, name)
}

// randomTables returns tables about the code points from 0x1230 to 0x123F, not all of them well-formed. Some have
// decompositions with an ASCII second element.
func randomTables(random *rand.Rand, seconds string) api.Tables {
	const from, to = 0x1230, 0x123F
	t := api.Tables{}
	for c := from; c <= to; c++ {
		status := []int{api.Valid, api.Valid, api.Valid, api.Deviation, api.Ignored, api.Mapped, api.Disallowed}[random.Intn(7)]
		t.Status = append(t.Status, one(c, status))
		if random.Intn(5) == 0 {
			t.Category = append(t.Category, one(c, api.Mark))
		}
		if random.Intn(4) == 0 {
			t.Class = append(t.Class, one(c, []int{1, api.Virama, 220, 230}[random.Intn(4)]))
		}
		if random.Intn(8) == 0 {
			t.Bidi = append(t.Bidi, one(c, []int{api.BidiR, api.BidiAN, api.BidiNSM}[random.Intn(3)]))
		}
		if random.Intn(3) == 0 {
			second := append([]int{from + random.Intn(c-from+1), from + random.Intn(c-from+1)}, codes(seconds)...)
			first := append([]int{from + random.Intn(c-from+1)}, codes("abxn")...)
			decomp := []int{first[random.Intn(len(first))], second[random.Intn(len(second))]}
			t.Decomps = append(t.Decomps, row(c, decomp[random.Intn(5)/4:]...))
		}
	}
	for _, s := range t.Status {
		if s.Value == api.Mapped {
			var mapped []int
			for range 1 + random.Intn(3) {
				mapped = append(mapped, codes(".abxn-019")[random.Intn(9)])
				if c := from + random.Intn(16); t.Status[c-from].Value == api.Valid {
					mapped[len(mapped)-1] = c
				}
			}
			t.Maps = append(t.Maps, row(s.From, mapped...))
		}
	}
	if random.Intn(10) == 0 {
		t.Status[random.Intn(len(t.Status))].Value = 5
	}
	return t
}

// randomText returns a name of parts that the random tables say something about.
func randomText(random *rand.Rand) string {
	parts := []string{"a", "b", "n", ".", "-", "x", "1", "xn--", "Xn--", "ab", "xn--9ca", "A", ".", "a", "b"}
	var b strings.Builder
	for range random.Intn(9) {
		if random.Intn(3) > 0 {
			b.WriteRune(rune(0x1230 + random.Intn(16)))
			continue
		}
		b.WriteString(parts[random.Intn(len(parts))])
	}
	if random.Intn(3) > 0 {
		return b.String()
	}
	code := xn(string([]rune{rune(0x1230 + random.Intn(16)), rune(0x1230 + random.Intn(16))}[random.Intn(2):]))
	return b.String() + []string{"", ".", "\u1230."}[random.Intn(3)] + code
}

// Promises 18.1 to 18.3: random tables. If no decomposition has an ASCII second element, the consequences hold, too.
func TestRandomTables(t *testing.T) {
	random := rand.New(rand.NewSource(183))
	counts, changed := map[api.Errno]int{}, 0
	for i := range 10000 {
		seconds := []string{"", "abn-"}[i%2]
		tables := randomTables(random, seconds)
		isWithout := !slices.ContainsFunc(tables.Decomps, func(m api.Mapping) bool { return len(m.To) == 2 && m.To[1] < 0x80 })
		for range 3 {
			s := randomText(random)
			want := byTheWords(tables, s)
			counts[want.e]++
			wantOutcome(t, "random tables", tables, s, want)
			switch again := byTheWords(tables, want.ascii); {
			case want.e != api.OK:
			case isWithout:
				wantSameAgain(t, "random tables", tables, want)
			case again != want:
				changed++
			}
		}
	}
	if changed < 10 {
		t.Errorf("%d ASCII forms lead to others", changed)
	}
	wantCounts(t, counts, 10, api.OK, api.ErrTable, api.ErrStatus, api.ErrPuny, api.ErrEmpty, api.ErrNormal, api.ErrHyphen, api.ErrMark, api.ErrBidi)
}
