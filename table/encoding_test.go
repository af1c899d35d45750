package table_test

import (
	"encoding/binary"
	"hash/fnv"
	"math"
	"slices"
	"strings"
	"testing"

	"namedesk/api"
	"namedesk/packed"
	"namedesk/table"
)

// codes returns the codes of numbers, one after the other.
func codes(numbers ...int) string {
	var b []byte
	for _, v := range numbers {
		b = binary.AppendVarint(b, int64(v))
	}
	return string(b)
}

// withSum returns s and the code of its sum.
func withSum(s string) string {
	hash := fnv.New32a()
	hash.Write([]byte(s))
	return s + codes(int(hash.Sum32()))
}

// encode returns the encoding of any tables, by the words of the chapter.
func encode(t api.Tables) string { return withSum(encodeRows(t)) }

// encodeRows returns the encoding of any tables without the sum.
func encodeRows(t api.Tables) string {
	var numbers []int
	list := func(l []int) {
		numbers = append(numbers, len(l))
		last := 0
		for _, v := range l {
			numbers = append(numbers, v-last)
			last = v
		}
	}
	for _, l := range spanLists {
		rows := *l.of(&t)
		numbers = append(numbers, len(rows))
		end := 0
		for _, s := range rows {
			numbers = append(numbers, s.From-end, s.To-s.From, s.Value)
			end = s.To
		}
	}
	for _, l := range mappingLists {
		rows := *l.of(&t)
		numbers = append(numbers, len(rows))
		for _, m := range rows {
			numbers = append(numbers, m.From)
			list(m.To)
		}
	}
	list(t.Excluded)
	return "NDT1" + codes(numbers...)
}

// wantEncoding encodes tables, and decodes the result.
func wantEncoding(t *testing.T, name string, tables api.Tables, want string) {
	t.Helper()
	if s, e := table.Encode(tables); s != want || e != api.OK {
		t.Errorf("%s: Encode = %q, %d, want %q", name, s, e, want)
	}
	if decoded, e := table.Decode(want); !equal(decoded, tables) || e != api.OK {
		t.Errorf("%s: Decode(%q) = %v, %d, want %v", name, want, decoded, e, tables)
	}
}

// Promises 4.3 and 4.4, with encodings that are written out by hand.
func TestEncodingsByHand(t *testing.T) {
	for _, c := range []struct {
		name   string
		tables api.Tables
		body   string
	}{
		{"no rows", api.Tables{}, "\x00\x00\x00\x00\x00\x00\x00\x00\x00\x00\x00\x00"},
		{"Category", api.Tables{Category: spans{span(0xE9, 0xE9, 1)}}, "\x02\xD2\x03\x00\x02\x00\x00\x00\x00\x00\x00\x00\x00\x00\x00\x00"},
		{"Class", api.Tables{Class: spans{span(0x301, 0x303, 230)}}, "\x00\x02\x82\x0C\x04\xCC\x03\x00\x00\x00\x00\x00\x00\x00\x00\x00\x00"},
		{"Joining", api.Tables{Joining: spans{span(0xE9, 0xE9, 1)}}, "\x00\x00\x02\xD2\x03\x00\x02\x00\x00\x00\x00\x00\x00\x00\x00\x00"},
		{"Bidi", api.Tables{Bidi: spans{span(0xE9, 0xE9, 1)}}, "\x00\x00\x00\x02\xD2\x03\x00\x02\x00\x00\x00\x00\x00\x00\x00\x00"},
		{"Script", api.Tables{Script: spans{span(0xE9, 0xE9, 3)}}, "\x00\x00\x00\x00\x02\xD2\x03\x00\x06\x00\x00\x00\x00\x00\x00\x00"},
		{"Status", api.Tables{Status: spans{span(0xE9, 0xE9, 1)}}, "\x00\x00\x00\x00\x00\x02\xD2\x03\x00\x02\x00\x00\x00\x00\x00\x00"},
		{"Ignorable", api.Tables{Ignorable: spans{span(0xE9, 0xE9, 1)}}, "\x00\x00\x00\x00\x00\x00\x02\xD2\x03\x00\x02\x00\x00\x00\x00\x00"},
		{"two spans", api.Tables{Joining: spans{span(0x80, 0x81, 0), span(0x83, 0x83, 5)}}, "\x00\x00\x04\x80\x02\x02\x00\x04\x00\x0A\x00\x00\x00\x00\x00\x00\x00\x00\x00"},
		{"Extensions", api.Tables{Extensions: mappings{mapping(0xE9, 3, 4)}}, "\x00\x00\x00\x00\x00\x00\x00\x02\xD2\x03\x04\x06\x02\x00\x00\x00\x00"},
		{"Maps", api.Tables{Status: spans{span(0xC9, 0xC9, 3)}, Maps: mappings{mapping(0xC9, 'e')}},
			"\x00\x00\x00\x00\x00\x02\x92\x03\x00\x06\x00\x00\x02\x92\x03\x02\xCA\x01\x00\x00\x00"},
		{"Decomps", api.Tables{Decomps: mappings{mapping(0xE9, 'e', 0x301)}}, "\x00\x00\x00\x00\x00\x00\x00\x00\x00\x02\xD2\x03\x04\xCA\x01\xB8\x0A\x00\x00"},
		{"Prototypes", api.Tables{Prototypes: mappings{mapping('m', 'r', 'n')}}, "\x00\x00\x00\x00\x00\x00\x00\x00\x00\x00\x02\xDA\x01\x04\xE4\x01\x07\x00"},
		{"two prototypes", api.Tables{Prototypes: mappings{mapping('0', 'o'), mapping('m', 'r', 'n')}},
			"\x00\x00\x00\x00\x00\x00\x00\x00\x00\x00\x04\x60\x02\xDE\x01\xDA\x01\x04\xE4\x01\x07\x00"},
		{"Excluded", api.Tables{Decomps: mappings{mapping(0xE9, 'e', 0x301), mapping(0xEA, 'e')}, Excluded: []int{0xE9, 0xEA}},
			"\x00\x00\x00\x00\x00\x00\x00\x00\x00\x04\xD2\x03\x04\xCA\x01\xB8\x0A\xD4\x03\x02\xCA\x01\x00\x04\xD2\x03\x02"},
	} {
		wantEncoding(t, c.name, c.tables, withSum("NDT1"+c.body))
	}
	// The sum is computed by hand here, too.
	sum := uint32(0x811C9DC5)
	for _, b := range []byte("NDT1\x00\x00\x00\x00\x00\x00\x00\x00\x00\x00\x00\x00") {
		sum = (sum ^ uint32(b)) * 0x01000193
	}
	wantEncoding(t, "no rows", api.Tables{}, "NDT1"+strings.Repeat("\x00", 12)+codes(int(sum)))
}

// Promises 4.3 and 4.4, with every list.
func TestEncodingOfSample(t *testing.T) {
	wantEncoding(t, "sample", sample(), encode(sample()))
	for _, l := range spanLists {
		var tables api.Tables
		fill(l.of(&tables), api.MaxRows)
		wantEncoding(t, l.name, tables, encode(tables))
	}
	for _, l := range mappingLists {
		var tables api.Tables
		fillMappings(l.of(&tables), api.MaxRows, l.to)
		if l.name == "Maps" {
			tables.Status = spans{span(free, free+api.MaxRows-1, api.Mapped)}
		}
		wantEncoding(t, l.name, tables, encode(tables))
	}
	var tables api.Tables
	fillMappings(&tables.Decomps, api.MaxRows, 'x')
	for i := range api.MaxRows {
		tables.Excluded = append(tables.Excluded, free+i)
	}
	wantEncoding(t, "Excluded", tables, encode(tables))
}

// Promise 4.3: ErrTable, for each rule.
func TestEncodeRefusesOtherTables(t *testing.T) {
	for _, violate := range violations {
		for _, base := range bases {
			tables := base.build()
			violate(&tables)
			if s, e := table.Encode(tables); s != "" || e != api.ErrTable {
				t.Errorf("rule %d: Encode = %q, %d, want ErrTable", table.Check(tables), s, e)
			}
		}
	}
}

// large returns well-formed tables whose encoding has size bytes. It begins with more, and makes one
// row after the other shorter.
func large(t *testing.T, size int) api.Tables {
	t.Helper()
	tables := api.Tables{Status: spans{span(free, free+api.MaxRows-1, api.Mapped), span(api.MaxRune, api.MaxRune, api.Valid)}}
	for i := range api.MaxRows {
		to := slices.Repeat([]int{'x', api.MaxRune}, api.MaxMap/2) // four bytes for each difference
		tables.Maps = append(tables.Maps, mapping(free+i, to...))
		tables.Prototypes = append(tables.Prototypes, mapping(free+i, slices.Clone(to[4:])...))
	}
	for i := range 4 * api.MaxRows {
		rows := encodeRows(tables)
		to := &tables.Maps[i%api.MaxRows].To
		last := len(*to) - 1
		const sumSize = 5 // of nearly every sum
		switch tooMany := len(rows) + sumSize - size; {
		case tooMany == 0 && len(withSum(rows)) == size:
			return tables
		case tooMany == 0:
			(*to)[0] = 'y' // another sum
		case tooMany > 12 || tooMany%4 == 0:
			*to = (*to)[:last] // four bytes less
		default:
			(*to)[last] = (*to)[last-1] // three bytes less
		}
	}
	t.Fatalf("no tables with %d bytes", size)
	return api.Tables{}
}

// Promises 4.3 and 4.4: encodings at and over MaxText bytes.
func TestLongEncodings(t *testing.T) {
	for _, size := range []int{api.MaxText - 1, api.MaxText} {
		tables := large(t, size)
		wantCheck(t, "large tables", tables, 0)
		want := encode(tables)
		if s, e := table.Encode(tables); s != want || e != api.OK {
			t.Errorf("%d bytes: Encode returns %d bytes, %d", size, len(s), e)
		}
		if decoded, e := table.Decode(want); !equal(decoded, tables) || e != api.OK {
			t.Errorf("%d bytes: Decode returns %d", size, e)
		}
	}
	for _, size := range []int{api.MaxText + 1, api.MaxText + 2, api.MaxText + 1000} {
		tables := large(t, size)
		wantCheck(t, "large tables", tables, 0)
		if s, e := table.Encode(tables); s != "" || e != api.ErrFull {
			t.Errorf("%d bytes: Encode returns %d bytes, %d, want ErrFull", size, len(s), e)
		}
		wantDecodeError(t, "too long", encode(tables), api.ErrFull)
		// The errors of tables come first.
		tables.Maps[0].To = nil
		if s, e := table.Encode(tables); s != "" || e != api.ErrTable {
			t.Errorf("%d bytes: Encode returns %d bytes, %d, want ErrTable", size, len(s), e)
		}
	}
}

func wantDecodeError(t *testing.T, name, s string, want api.Errno) {
	t.Helper()
	tables, e := table.Decode(s)
	if e != want {
		t.Errorf("%s: Decode of %d bytes, %q .., returns %d, want %d", name, len(s), s[:min(len(s), 60)], e, want)
	}
	if !equal(tables, api.Tables{}) {
		t.Errorf("%s: Decode returns tables together with an error: %v", name, tables)
	}
}

// Promise 4.4: the errors before the first item.
func TestDecodeBeginning(t *testing.T) {
	good := encode(sample())
	for _, s := range []string{"", "N", "ND", "NDT", "\x00", "abc", "ndt"} {
		wantDecodeError(t, "fewer than four bytes", s, api.ErrShort)
	}
	for _, s := range []string{"ndt1", "NDT2", "NDT0", "MDT1", "NCT1", "NDU1", "\x00\x00\x00\x00", "xNDT1", " NDT1" + good[4:], "NDT" + good[4:]} {
		wantDecodeError(t, "another beginning", s, api.ErrForm)
	}
	wantDecodeError(t, "another beginning with its sum", withSum("NDT2"+strings.Repeat("\x00", 12)), api.ErrForm)
	for _, s := range []string{
		strings.Repeat("\x00", api.MaxText+1), // ErrFull comes before ErrForm
		"NDT1" + strings.Repeat("\x00", api.MaxText-3),
		good + strings.Repeat("\x00", api.MaxText-len(good)+1), // and before the bytes behind
		"NDT1" + strings.Repeat("\xFF", api.MaxText),
	} {
		wantDecodeError(t, "too long", s, api.ErrFull)
	}
	wantDecodeError(t, "MaxText bytes", strings.Repeat("\x00", api.MaxText), api.ErrForm)
	wantDecodeError(t, "MaxText bytes", good+strings.Repeat("\x00", api.MaxText-len(good)), api.ErrForm)
	wantDecodeError(t, "nothing behind the beginning", "NDT1", api.ErrShort)
}

// Promise 4.4: encodings that are cut off at every byte.
func TestCutEncodings(t *testing.T) {
	for _, base := range bases {
		s := encode(base.build())
		for size := range len(s) {
			wantDecodeError(t, "cut off", s[:size], api.ErrShort)
		}
	}
}

// Promise 4.4: encodings with bytes behind them.
func TestBytesBehindEncodings(t *testing.T) {
	for _, base := range bases {
		s := encode(base.build())
		for _, behind := range []string{"\x00", "\x01", "\x80", "\xFF", "NDT1", s, strings.Repeat("\x00", 100)} {
			wantDecodeError(t, "bytes behind", s+behind, api.ErrForm)
		}
	}
}

// Promise 4.4: encodings changed at every byte.
func TestChangedEncodings(t *testing.T) {
	for _, base := range bases {
		good := encode(base.build())
		for at := range len(good) {
			b := []byte(good)
			for value := range 256 {
				b[at] = byte(value)
				s := string(b)
				want, wantTables := expectedDecode(s)
				if s != good && want == api.OK {
					t.Fatalf("a changed encoding is one, too: %q", s)
				}
				if tables, e := table.Decode(s); e != want || !equal(tables, wantTables) {
					t.Fatalf("byte %d is %d: Decode(%q) = %v, %d, want %d", at, value, s, tables, e, want)
				}
			}
		}
	}
}

// Encodings with a changed byte and the right sum show what the sum hides.
func TestChangedEncodingsWithSum(t *testing.T) {
	found := map[api.Errno]int{}
	for _, base := range bases {
		tables := base.build()
		good := encode(tables)
		body := good[:len(good)-len(codes(packed.Sum("")))]
		if withSum(body) != good {
			t.Fatal("the sum has another length than that of the empty string")
		}
		for at := range len(body) {
			b := []byte(body)
			for value := range 256 {
				b[at] = byte(value)
				s := withSum(string(b))
				want, wantTables := expectedDecode(s)
				decoded, e := table.Decode(s)
				if e != want || !equal(decoded, wantTables) {
					t.Fatalf("byte %d is %d: Decode(%q) = %v, %d, want %d", at, value, s, decoded, e, want)
				}
				if e == api.OK {
					// What is decoded is encoded by the same bytes, and by no others.
					if again, e := table.Encode(decoded); again != s || e != api.OK {
						t.Fatalf("byte %d is %d: Encode = %q, %d, want %q", at, value, again, e, s)
					}
				}
				found[e]++
			}
		}
	}
	for _, e := range []api.Errno{api.OK, api.ErrTable, api.ErrForm, api.ErrShort, api.ErrSum} {
		if found[e] == 0 {
			t.Errorf("no changed byte leads to %d", e)
		}
	}
}

// expectedDecode returns the error of Decode for a string that is not too long, and the tables. It
// divides the string with package packed, whose functions have tests of their own.
func expectedDecode(s string) (api.Errno, api.Tables) {
	var t api.Tables
	if len(s) < 4 {
		return api.ErrShort, t
	}
	if s[:4] != "NDT1" {
		return api.ErrForm, t
	}
	at := 4
	for _, l := range spanLists {
		rows, next, e := packed.GetSpans(s, at)
		if e != api.OK {
			return e, api.Tables{}
		}
		*l.of(&t), at = rows, next
	}
	for _, l := range mappingLists {
		n, next, e := packed.GetInt(s, at)
		if e != api.OK {
			return e, api.Tables{}
		}
		if n < 0 || n > 256 {
			return api.ErrForm, api.Tables{}
		}
		for range n {
			from, next2, e := packed.GetInt(s, next)
			if e != api.OK {
				return e, api.Tables{}
			}
			to, next3, e := packed.GetList(s, next2)
			if e != api.OK {
				return e, api.Tables{}
			}
			*l.of(&t), next = append(*l.of(&t), mapping(from, to...)), next3
		}
		at = next
	}
	excluded, next, e := packed.GetList(s, at)
	if e != api.OK {
		return e, api.Tables{}
	}
	t.Excluded = excluded
	sum, end, e := packed.GetInt(s, next)
	switch {
	case e != api.OK:
		return e, api.Tables{}
	case sum != packed.Sum(s[:next]):
		return api.ErrSum, api.Tables{}
	case end != len(s):
		return api.ErrForm, api.Tables{}
	case table.Check(t) != 0:
		return api.ErrTable, api.Tables{}
	}
	return api.OK, t
}

// before returns the beginning of an encoding, with a number of empty lists.
func before(lists int) string { return "NDT1" + strings.Repeat("\x00", lists) }

// Promise 4.4: the first error of an item, at each place, and that it is returned as soon as it is found.
func TestDecodeItems(t *testing.T) {
	long := "\x80\x00" // more bytes than necessary
	for lists := range 7 {
		b := before(lists)
		wantDecodeError(t, "spans, none", b, api.ErrShort)
		wantDecodeError(t, "spans, incomplete number", b+"\x80", api.ErrShort)
		wantDecodeError(t, "spans, long number", b+long, api.ErrForm)
		wantDecodeError(t, "spans, -1", b+codes(-1), api.ErrForm)
		wantDecodeError(t, "spans, MaxRows + 1", b+codes(api.MaxRows+1), api.ErrForm)
		wantDecodeError(t, "spans, MaxRows", b+codes(api.MaxRows), api.ErrShort)
		wantDecodeError(t, "spans, From", b+codes(1, -1), api.ErrForm)
		wantDecodeError(t, "spans, To", b+codes(1, free, -1), api.ErrForm)
		wantDecodeError(t, "spans, To beyond MaxRune", b+codes(1, free, api.MaxRune-free+1), api.ErrForm)
		wantDecodeError(t, "spans, value", b+codes(1, free, 0, api.MaxTick+1), api.ErrForm)
		wantDecodeError(t, "spans, overlap", b+codes(2, free, 1, 1, 0), api.ErrForm)
		wantDecodeError(t, "spans, incomplete value", b+codes(1, free, 0)+"\xFF", api.ErrShort)
		wantDecodeError(t, "spans, nothing behind", b+codes(1, free, 0, 1), api.ErrShort)
	}
	for lists := 7; lists < 11; lists++ {
		b := before(lists)
		wantDecodeError(t, "mappings, none", b, api.ErrShort)
		wantDecodeError(t, "mappings, incomplete number", b+"\x80", api.ErrShort)
		wantDecodeError(t, "mappings, long number", b+long, api.ErrForm)
		for _, n := range []int{-1, api.MaxRows + 1, api.MaxRunes, math.MinInt, math.MaxInt, -1 << 32, 1 << 32} {
			wantDecodeError(t, "mappings, number of elements", b+codes(n), api.ErrForm)
			wantDecodeError(t, "mappings, number of elements and more", b+codes(n, 1, 1, 1), api.ErrForm)
			wantDecodeError(t, "mappings, number of elements and a long code", b+codes(n)+long, api.ErrForm)
			wantDecodeError(t, "mappings, number of elements and an incomplete code", b+codes(n)+"\x80", api.ErrForm)
		}
		wantDecodeError(t, "mappings, MaxRows", b+codes(api.MaxRows), api.ErrShort)
		wantDecodeError(t, "mappings, MaxRows of MaxRows + 1 elements", b+codes(api.MaxRows)+strings.Repeat("\x00\x00", api.MaxRows-1), api.ErrShort)
		wantDecodeError(t, "mappings, long From", b+codes(1)+long, api.ErrForm)
		wantDecodeError(t, "mappings, incomplete From", b+codes(1)+"\xFF", api.ErrShort)
		wantDecodeError(t, "mappings, no To", b+codes(1, free), api.ErrShort)
		for _, n := range []int{-1, api.MaxRunes + 1, math.MinInt, math.MaxInt} {
			wantDecodeError(t, "mappings, number of elements of To", b+codes(1, free, n), api.ErrForm)
		}
		wantDecodeError(t, "mappings, MaxRunes elements of To", b+codes(1, free, api.MaxRunes), api.ErrShort)
		wantDecodeError(t, "mappings, element of To", b+codes(1, free, 2, api.MaxTick+1), api.ErrForm)
		wantDecodeError(t, "mappings, incomplete element of To", b+codes(1, free, 2, 5)+"\x80", api.ErrShort)
		wantDecodeError(t, "mappings, one of two elements", b+codes(2, free, 1, 5), api.ErrShort)
		wantDecodeError(t, "mappings, wrong second element", b+codes(2, free, 1, 5, free+1, -1), api.ErrForm)
	}
	b := before(11)
	wantDecodeError(t, "Excluded, none", b, api.ErrShort)
	wantDecodeError(t, "Excluded, long number", b+long, api.ErrForm)
	wantDecodeError(t, "Excluded, -1", b+codes(-1), api.ErrForm)
	wantDecodeError(t, "Excluded, MaxRunes + 1", b+codes(api.MaxRunes+1), api.ErrForm)
	wantDecodeError(t, "Excluded, MaxRows + 1", b+codes(api.MaxRows+1), api.ErrShort)
	wantDecodeError(t, "Excluded, element", b+codes(2, api.MaxTick+1), api.ErrForm)
	wantDecodeError(t, "Excluded, one of two elements", b+codes(2, 1), api.ErrShort)
	b = before(12)
	wantDecodeError(t, "no sum", b, api.ErrShort)
	wantDecodeError(t, "incomplete sum", b+"\x80", api.ErrShort)
	wantDecodeError(t, "long sum", b+long, api.ErrForm)
	wantDecodeError(t, "sum of more than ten bytes", b+strings.Repeat("\xFF", 12), api.ErrForm)
}

// Promise 4.4: a wrong sum, and the errors before and after it.
func TestDecodeSum(t *testing.T) {
	for _, base := range bases {
		good := encode(base.build())
		body := good[:len(good)-5]
		sum := packed.Sum(body)
		if body+codes(sum) != good {
			t.Fatal("the sum does not have five bytes")
		}
		for _, wrong := range []int{0, -1, sum - 1, sum + 1, sum ^ 1<<31, sum + 1<<32, sum - 1<<32, -sum, packed.Sum(good), packed.Sum(body[4:]), packed.Sum(body[:len(body)-1]), math.MinInt, math.MaxInt} {
			wantDecodeError(t, "wrong sum", body+codes(wrong), api.ErrSum)
			wantDecodeError(t, "wrong sum and bytes behind", body+codes(wrong)+"\x00", api.ErrSum)
			wantDecodeError(t, "wrong sum and incomplete bytes behind", body+codes(wrong)+"\x80", api.ErrSum)
		}
	}
	// Tables that are not well-formed: a reserved code point.
	bad := before(6) + codes(1, 5, 0, 1) + before(5)[4:]
	wantDecodeError(t, "not well-formed", withSum(bad), api.ErrTable)
	wantDecodeError(t, "not well-formed, bytes behind", withSum(bad)+"\x00", api.ErrForm)
	wantDecodeError(t, "not well-formed, wrong sum", bad+codes(1), api.ErrSum)
	wantDecodeError(t, "not well-formed, wrong sum, bytes behind", bad+codes(1)+"\x00", api.ErrSum)
	wantDecodeError(t, "not well-formed, no sum", bad, api.ErrShort)
	wantDecodeError(t, "not well-formed, long sum", bad+"\x80\x00", api.ErrForm)
}

// Promise 4.4: ErrTable, for each rule that encodings can violate.
func TestDecodeRefusesOtherTables(t *testing.T) {
	for i, violate := range violations[1:] {
		for _, base := range bases {
			tables := base.build()
			violate(&tables)
			if rule := table.Check(tables); rule != i+2 {
				t.Fatalf("rule %d instead of %d is violated", rule, i+2)
			}
			wantDecodeError(t, "not well-formed", encode(tables), api.ErrTable)
		}
	}
	// Excluded may have too many rows, and a From may be any number.
	var tables api.Tables
	for i := range api.MaxRows + 1 {
		tables.Excluded = append(tables.Excluded, free+i)
	}
	wantDecodeError(t, "MaxRows + 1 rows in Excluded", encode(tables), api.ErrTable)
	for _, l := range mappingLists {
		for _, from := range []int{-1, math.MinInt, math.MaxInt, api.MaxTick + 1, api.MaxRune + 1, 0xD800} {
			var tables api.Tables
			assign(l.of(&tables), from, l.to)
			wantDecodeError(t, "From", encode(tables), api.ErrTable)
		}
		var tables api.Tables
		assign(l.of(&tables), free, make([]int, api.MaxRunes)...)
		wantDecodeError(t, "MaxRunes elements of To", encode(tables), api.ErrTable)
		tables = api.Tables{}
		assign(l.of(&tables), free)
		wantDecodeError(t, "no elements of To", encode(tables), api.ErrTable)
	}
}

// Rule R2: what is decoded is new, and shares no memory.
func TestDecodedTablesAreNew(t *testing.T) {
	s := encode(sample())
	first, _ := table.Decode(s)
	second, _ := table.Decode(s)
	for _, l := range spanLists {
		for i := range *l.of(&first) {
			(*l.of(&first))[i] = span(-1, -1, -1)
		}
	}
	for _, l := range mappingLists {
		rows := *l.of(&first)
		for i := range rows {
			to := rows[i].To[:cap(rows[i].To)]
			for k := range to {
				to[k] = -1
			}
		}
		for i := range rows {
			rows[i] = mapping(-1)
		}
	}
	for i := range first.Excluded {
		first.Excluded[i] = -1
	}
	third, e := table.Decode(s)
	if !equal(second, sample()) || !equal(third, sample()) || e != api.OK {
		t.Error("a change of decoded tables changed others")
	}
}

// Lists of decoded tables share no memory with each other, also if they are equal.
func TestDecodedListsAreApart(t *testing.T) {
	tables := api.Tables{Prototypes: mappings{mapping(free, 'x', 'y'), mapping(free+1, 'x', 'y'), mapping(free+2, 'x', 'y')}}
	decoded, e := table.Decode(encode(tables))
	if e != api.OK {
		t.Fatal(e)
	}
	for i := range decoded.Prototypes {
		_ = append(decoded.Prototypes[i].To, -1, -1)
		decoded.Prototypes[i].To[0] = i
	}
	for i, m := range decoded.Prototypes {
		if want := []int{i, 'y'}; m.From != free+i || !slices.Equal(m.To, want) {
			t.Errorf("element %d became %v", i, m)
		}
	}
}
