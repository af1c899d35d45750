package packed_test

import (
	"encoding/binary"
	"hash/fnv"
	"math"
	"math/rand"
	"slices"
	"strings"
	"testing"

	"namedesk/api"
	"namedesk/packed"
)

type spans = []api.Span

// span keeps the tables of the tests short.
func span(from, to, value int) api.Span { return api.Span{From: from, To: to, Value: value} }

// samples are integers and their codes, written out by hand: the least and the greatest integers
// whose codes have each number of bytes, and some others.
var samples = []struct {
	value int
	code  string
}{
	{0, "\x00"},
	{-1, "\x01"},
	{1, "\x02"},
	{-2, "\x03"},
	{2, "\x04"},
	{63, "\x7E"},
	{-64, "\x7F"},
	{64, "\x80\x01"},
	{-65, "\x81\x01"},
	{65, "\x82\x01"},
	{100, "\xC8\x01"},
	{127, "\xFE\x01"},
	{-128, "\xFF\x01"},
	{128, "\x80\x02"},
	{8191, "\xFE\x7F"},
	{-8192, "\xFF\x7F"},
	{8192, "\x80\x80\x01"},
	{-8193, "\x81\x80\x01"},
	{1<<20 - 1, "\xFE\xFF\x7F"},
	{-1 << 20, "\xFF\xFF\x7F"},
	{1 << 20, "\x80\x80\x80\x01"},
	{api.MaxRune, "\xFE\xFF\x87\x01"},
	{-1<<20 - 1, "\x81\x80\x80\x01"},
	{1<<27 - 1, "\xFE\xFF\xFF\x7F"},
	{-1 << 27, "\xFF\xFF\xFF\x7F"},
	{1 << 27, "\x80\x80\x80\x80\x01"},
	{-1<<27 - 1, "\x81\x80\x80\x80\x01"},
	{-1 << 30, "\xFF\xFF\xFF\xFF\x07"},
	{1 << 30, "\x80\x80\x80\x80\x08"},
	{1<<34 - 1, "\xFE\xFF\xFF\xFF\x7F"},
	{-1 << 34, "\xFF\xFF\xFF\xFF\x7F"},
	{1 << 34, "\x80\x80\x80\x80\x80\x01"},
	{-1<<34 - 1, "\x81\x80\x80\x80\x80\x01"},
	{1<<41 - 1, "\xFE\xFF\xFF\xFF\xFF\x7F"},
	{-1 << 41, "\xFF\xFF\xFF\xFF\xFF\x7F"},
	{1 << 41, "\x80\x80\x80\x80\x80\x80\x01"},
	{-1<<41 - 1, "\x81\x80\x80\x80\x80\x80\x01"},
	{1<<48 - 1, "\xFE\xFF\xFF\xFF\xFF\xFF\x7F"},
	{-1 << 48, "\xFF\xFF\xFF\xFF\xFF\xFF\x7F"},
	{1 << 48, "\x80\x80\x80\x80\x80\x80\x80\x01"},
	{-1<<48 - 1, "\x81\x80\x80\x80\x80\x80\x80\x01"},
	{1<<55 - 1, "\xFE\xFF\xFF\xFF\xFF\xFF\xFF\x7F"},
	{-1 << 55, "\xFF\xFF\xFF\xFF\xFF\xFF\xFF\x7F"},
	{1 << 55, "\x80\x80\x80\x80\x80\x80\x80\x80\x01"},
	{-1<<55 - 1, "\x81\x80\x80\x80\x80\x80\x80\x80\x01"},
	{1<<62 - 1, "\xFE\xFF\xFF\xFF\xFF\xFF\xFF\xFF\x7F"},
	{-1 << 62, "\xFF\xFF\xFF\xFF\xFF\xFF\xFF\xFF\x7F"},
	{1 << 62, "\x80\x80\x80\x80\x80\x80\x80\x80\x80\x01"},
	{-1<<62 - 1, "\x81\x80\x80\x80\x80\x80\x80\x80\x80\x01"},
	{0x123456789ABCDEF, "\xDE\xB7\xDE\x9A\xF1\xD9\xA2\xA3\x02"},
	{math.MaxInt64, "\xFE\xFF\xFF\xFF\xFF\xFF\xFF\xFF\xFF\x01"},
	{math.MinInt64, "\xFF\xFF\xFF\xFF\xFF\xFF\xFF\xFF\xFF\x01"},
}

// beginnings are strings that codes may follow.
var beginnings = []string{"", "\x00", "\x80", "\xFF\xFF", "NDT1", "a\x80b", strings.Repeat("\x80", 12)}

// endings are strings that may follow codes: alone, they are codes, incomplete ones, and none.
var endings = []string{"", "\x00", "\x01", "\x80", "\xFF", "\x80\x00", "\x7F\x7F", strings.Repeat("\xFF", 12), "text"}

// codes returns the codes of numbers, one after the other.
func codes(numbers ...int) string {
	var b []byte
	for _, v := range numbers {
		b = binary.AppendVarint(b, int64(v))
	}
	return string(b)
}

// Promise 3.1.
func TestPutInt(t *testing.T) {
	for _, c := range samples {
		for _, b := range beginnings {
			if s := packed.PutInt(b, c.value); s != b+c.code {
				t.Errorf("PutInt(%q, %d) = %q, want %q", b, c.value, s, b+c.code)
			}
		}
	}
}

// Promise 3.2: the integers, and the index after the code.
func TestGetInt(t *testing.T) {
	for _, c := range samples {
		for _, b := range beginnings {
			for _, end := range endings {
				wantInt(t, b+c.code+end, len(b), c.value, len(b)+len(c.code))
			}
		}
	}
}

// Promises 3.1 and 3.2, around each power of two and for random integers.
func TestIntegersOfEachSize(t *testing.T) {
	random := rand.New(rand.NewSource(3))
	for shift := range 64 {
		power := 1 << shift // the last one is the least integer
		for more := -3; more <= 3; more++ {
			wantBothWays(t, power+more)
			wantBothWays(t, more-power)
		}
		for range 200 {
			wantBothWays(t, int(random.Uint64()>>shift))
			wantBothWays(t, -int(random.Uint64()>>shift))
		}
	}
	for v := -20000; v <= 20000; v++ {
		wantBothWays(t, v)
	}
}

func wantBothWays(t *testing.T, v int) {
	t.Helper()
	want := "b" + codes(v)
	if s := packed.PutInt("b", v); s != want {
		t.Fatalf("PutInt of %d = %q, want %q", v, s, want)
	}
	wantInt(t, want+"\x80", 1, v, len(want))
}

func wantInt(t *testing.T, s string, at, want, wantNext int) {
	t.Helper()
	if v, next, e := packed.GetInt(s, at); v != want || next != wantNext || e != api.OK {
		t.Fatalf("GetInt(%q, %d) = %d, %d, %d, want %d, %d", s, at, v, next, e, want, wantNext)
	}
}

func wantIntError(t *testing.T, s string, at int, want api.Errno) {
	t.Helper()
	if v, next, e := packed.GetInt(s, at); v != 0 || next != at || e != want {
		t.Fatalf("GetInt(%q, %d) = %d, %d, %d, want 0, %d, %d", s, at, v, next, e, at, want)
	}
}

// Promise 3.2: ErrRange, and that the end of the string is not outside.
func TestIndexOutside(t *testing.T) {
	for _, s := range []string{"", "\x00", "\x80", "\x80\x00", "text", strings.Repeat("\xFF", 12)} {
		outside := []int{-1, -2, math.MinInt, math.MinInt + 1, len(s) + 1, len(s) + 2, math.MaxInt - 1, math.MaxInt}
		for _, at := range outside {
			wantIntError(t, s, at, api.ErrRange)
			wantListError(t, s, at, api.ErrRange)
			wantSpansError(t, s, at, api.ErrRange)
		}
		wantIntError(t, s, len(s), api.ErrShort)
		wantListError(t, s, len(s), api.ErrShort)
		wantSpansError(t, s, len(s), api.ErrShort)
	}
}

// Promise 3.2: ErrShort at every byte of a code.
func TestIncompleteInt(t *testing.T) {
	for _, c := range samples {
		for size := range len(c.code) {
			for _, b := range beginnings {
				wantIntError(t, b+c.code[:size], len(b), api.ErrShort)
			}
		}
	}
	// Nine bytes do not show yet that a code will be wrong.
	for size := range 10 {
		for _, b := range []string{"\x80", "\x81", "\xFF"} {
			wantIntError(t, strings.Repeat(b, size), 0, api.ErrShort)
		}
	}
}

// Promise 3.2: ErrForm for a code with more bytes than necessary.
func TestLongerIntThanNecessary(t *testing.T) {
	for _, c := range samples {
		last := len(c.code) - 1
		open := c.code[:last] + string([]byte{c.code[last] | 0x80})
		for len(open) < 10 {
			for _, b := range beginnings {
				for _, end := range endings {
					wantIntError(t, b+open+"\x00"+end, len(b), api.ErrForm)
				}
			}
			open += "\x80"
		}
	}
}

// Promise 3.2: ErrForm for what the tenth byte shows, whatever follows.
func TestTenthByte(t *testing.T) {
	for _, nine := range []string{
		strings.Repeat("\x80", 9), strings.Repeat("\xFF", 9), "\x81" + strings.Repeat("\x80", 8),
		"\x80\x81\x82\x83\x84\x85\x86\x87\x88", strings.Repeat("\x80", 8) + "\xFF",
	} {
		for tenth := range 256 {
			s := nine + string([]byte{byte(tenth)})
			for _, end := range append(endings, "\x80\x01", "\x80\x80\x80") {
				if tenth == 1 {
					v, next, e := packed.GetInt("b"+s+end, 1)
					if next != 11 || e != api.OK || codes(v) != s {
						t.Fatalf("GetInt of %q = %d, %d, %d", s+end, v, next, e)
					}
				} else {
					wantIntError(t, "b"+s+end, 1, api.ErrForm)
				}
			}
		}
	}
}

// Promise 3.2, for every string of one and two bytes.
func TestEveryShortString(t *testing.T) {
	for first := range 256 {
		if first < 0x80 {
			wantInt(t, string([]byte{byte(first)}), 0, unpacked(first), 1)
		} else {
			wantIntError(t, string([]byte{byte(first)}), 0, api.ErrShort)
		}
		for second := range 256 {
			s := string([]byte{byte(first), byte(second)})
			switch {
			case first < 0x80:
				wantInt(t, s, 0, unpacked(first), 1)
			case second == 0:
				wantIntError(t, s, 0, api.ErrForm)
			case second < 0x80:
				wantInt(t, s, 0, unpacked(first-0x80+0x80*second), 2)
			default:
				wantIntError(t, s, 0, api.ErrShort)
			}
		}
	}
}

// unpacked returns the integer with a small number as its code, by the definition.
func unpacked(u int) int {
	if u%2 == 0 {
		return u / 2
	}
	return -(u + 1) / 2
}

// lists are lists and their codes, written out by hand.
var lists = []struct {
	name string
	list []int
	code string
}{
	{"no elements", nil, "\x00"},
	{"no elements, not nil", []int{}, "\x00"},
	{"0", []int{0}, "\x02\x00"},
	{"one element", []int{5}, "\x02\x0A"},
	{"one negative element", []int{-5}, "\x02\x09"},
	{"ascending", []int{5, 6, 8}, "\x06\x0A\x02\x04"},
	{"descending", []int{5, 3, 2}, "\x06\x0A\x03\x01"},
	{"equal", []int{-1, -1, -1}, "\x06\x01\x00\x00"},
	{"differences of two bytes", []int{100, -100}, "\x04\xC8\x01\x8F\x03"},
	{"a name", []int{0x62, 0xFC, 0x63}, "\x06\xC4\x01\xB4\x02\xB1\x02"},
	{"greatest element", []int{api.MaxTick}, "\x02\x80\x80\x80\x80\x08"},
	{"least element", []int{-api.MaxTick}, "\x02\xFF\xFF\xFF\xFF\x07"},
	{"least difference", []int{api.MaxTick, -api.MaxTick}, "\x04\x80\x80\x80\x80\x08\xFF\xFF\xFF\xFF\x0F"},
	{"greatest difference", []int{-api.MaxTick, api.MaxTick}, "\x04\xFF\xFF\xFF\xFF\x07\x80\x80\x80\x80\x10"},
	{"the ends twice", []int{api.MaxTick, api.MaxTick, -api.MaxTick, -api.MaxTick}, "\x08\x80\x80\x80\x80\x08\x00\xFF\xFF\xFF\xFF\x0F\x00"},
	{"64 elements", make([]int, 64), "\x80\x01" + strings.Repeat("\x00", 64)},
	{"MaxRunes elements", make([]int, api.MaxRunes), "\x80\x40" + strings.Repeat("\x00", api.MaxRunes)},
}

// Promise 3.3: the codes, and the way back.
func TestLists(t *testing.T) {
	for _, c := range lists {
		for _, b := range beginnings {
			if s, e := packed.PutList(b, c.list); s != b+c.code || e != api.OK {
				t.Errorf("%s: PutList = %q, %d, want %q", c.name, s, e, b+c.code)
			}
			for _, end := range endings {
				wantList(t, b+c.code+end, len(b), c.list, len(b)+len(c.code))
			}
		}
	}
}

func wantList(t *testing.T, s string, at int, want []int, wantNext int) {
	t.Helper()
	if l, next, e := packed.GetList(s, at); !slices.Equal(l, want) || next != wantNext || e != api.OK {
		t.Fatalf("GetList(%q, %d) = %v, %d, %d, want %v, %d", s, at, l, next, e, want, wantNext)
	}
}

func wantListError(t *testing.T, s string, at int, want api.Errno) {
	t.Helper()
	if l, next, e := packed.GetList(s, at); len(l) != 0 || next != at || e != want {
		t.Fatalf("GetList(%q, %d) = %v, %d, %d, want no list, %d, %d", s, at, l, next, e, at, want)
	}
}

// Promise 3.3, for lists of each length and for random ones.
func TestRandomLists(t *testing.T) {
	random := rand.New(rand.NewSource(33))
	for n := range 300 {
		wantListBothWays(t, randomList(random, n))
	}
	for range 40 {
		wantListBothWays(t, randomList(random, random.Intn(api.MaxRunes+1)))
	}
	wantListBothWays(t, randomList(random, api.MaxRunes))
}

// randomList returns n elements of all sizes, often at the ends of what is allowed.
func randomList(random *rand.Rand, n int) []int {
	l := make([]int, n)
	for i := range l {
		switch random.Intn(8) {
		case 0:
			l[i] = api.MaxTick - random.Intn(2)
		case 1:
			l[i] = random.Intn(2) - api.MaxTick
		default:
			width := 2 << random.Intn(30)
			l[i] = random.Intn(width) - width/2
		}
	}
	return l
}

func wantListBothWays(t *testing.T, l []int) {
	t.Helper()
	numbers := []int{len(l)}
	for i, v := range l {
		if i > 0 {
			v -= l[i-1]
		}
		numbers = append(numbers, v)
	}
	want := "b" + codes(numbers...)
	if s, e := packed.PutList("b", l); s != want || e != api.OK {
		t.Fatalf("PutList of %v = %q, %d, want %q", l, s, e, want)
	}
	wantList(t, want+"\x80", 1, l, len(want))
}

// beyond are numbers that may not be in a list nor the value of a span.
var beyond = []int{api.MaxTick + 1, -api.MaxTick - 1, math.MaxInt32 + 1, math.MinInt32 - 1, math.MaxInt - 1, math.MaxInt, math.MinInt + 1, math.MinInt}

// Promise 3.3: each error of PutList, and their order.
func TestErrorsOfPutList(t *testing.T) {
	for _, b := range beginnings {
		for _, v := range beyond {
			for _, l := range [][]int{{v}, {v, 0}, {0, v}, {0, v, 0}, {v, v}, append(make([]int, api.MaxRunes-1), v)} {
				wantNoList(t, b, l, api.ErrRange)
			}
			wantNoList(t, b, append(make([]int, api.MaxRunes), v), api.ErrFull)
			wantNoList(t, b, append([]int{v}, make([]int, api.MaxRunes)...), api.ErrFull)
		}
		wantNoList(t, b, make([]int, api.MaxRunes+1), api.ErrFull)
		wantNoList(t, b, make([]int, 3*api.MaxRunes), api.ErrFull)
	}
}

func wantNoList(t *testing.T, b string, l []int, want api.Errno) {
	t.Helper()
	if s, e := packed.PutList(b, l); s != "" || e != want {
		t.Errorf("PutList of %d elements to %q = %q, %d, want the error %d", len(l), b, s, e, want)
	}
}

// wrongLists are numbers of lists of which the last one is not allowed, and the ones before it are.
var wrongLists = []struct {
	name    string
	numbers []int
}{
	{"number of elements is -1", []int{-1}},
	{"number of elements is MaxRunes + 1", []int{api.MaxRunes + 1}},
	{"number of elements is beyond 32 bits", []int{1 << 32}},
	{"number of elements is the least integer", []int{math.MinInt}},
	{"number of elements is the greatest integer", []int{math.MaxInt}},
	{"first of one is MaxTick + 1", []int{1, api.MaxTick + 1}},
	{"first of one is -MaxTick - 1", []int{1, -api.MaxTick - 1}},
	{"first of one is the greatest integer", []int{1, math.MaxInt}},
	{"first of one is the least integer", []int{1, math.MinInt}},
	{"first of MaxRunes", []int{api.MaxRunes, api.MaxTick + 1}},
	{"second of two is MaxTick + 1", []int{2, 7, api.MaxTick - 6}},
	{"second of three is -MaxTick - 1", []int{3, 7, -api.MaxTick - 8}},
	{"one more than MaxTick", []int{2, api.MaxTick, 1}},
	{"one less than -MaxTick", []int{2, -api.MaxTick, -1}},
	{"greatest difference and one more", []int{2, -api.MaxTick, 2*api.MaxTick + 1}},
	{"least difference and one less", []int{2, api.MaxTick, -2*api.MaxTick - 1}},
	{"greatest integer more than 1", []int{2, 1, math.MaxInt}},
	{"greatest integer more than MaxTick", []int{2, api.MaxTick, math.MaxInt}},
	{"greatest integer more than -MaxTick", []int{2, -api.MaxTick, math.MaxInt}},
	{"least integer more than -1", []int{2, -1, math.MinInt}},
	{"least integer more than -MaxTick", []int{2, -api.MaxTick, math.MinInt}},
	{"least integer more than MaxTick", []int{2, api.MaxTick, math.MinInt}},
	{"the third one", []int{9, api.MaxTick - 1, 1, 1}},
	{"back and forth", []int{5, api.MaxTick, -2 * api.MaxTick, 2 * api.MaxTick, 1}},
}

// Promise 3.3: ErrForm as soon as it is found, and ErrShort before.
func TestWrongLists(t *testing.T) {
	for _, c := range wrongLists {
		t.Run(c.name, func(t *testing.T) { wantFoundAtLastNumber(t, c.numbers, wantListError) })
	}
}

// wantFoundAtLastNumber checks that ErrForm is returned for the last number whatever follows, not
// before its code is complete, and that an error of GetInt in its place is returned instead.
func wantFoundAtLastNumber(t *testing.T, numbers []int, wantError func(*testing.T, string, int, api.Errno)) {
	t.Helper()
	good := codes(numbers[:len(numbers)-1]...)
	all := codes(numbers...)
	for _, b := range beginnings {
		for _, end := range append(endings, strings.Repeat("\x00", 3*api.MaxRunes)) {
			wantError(t, b+all+end, len(b), api.ErrForm)
		}
		for size := range len(all) {
			wantError(t, b+all[:size], len(b), api.ErrShort)
		}
		wantError(t, b+good+strings.Repeat("\x80", 9), len(b), api.ErrShort)
		wantError(t, b+good+strings.Repeat("\x80", 10), len(b), api.ErrForm)
		wantError(t, b+good+"\x80\x00", len(b), api.ErrForm)
	}
}

// Promise 3.3: ErrShort at every byte, and ErrForm for a code that GetInt refuses.
func TestErrorsOfGetInt(t *testing.T) {
	for _, c := range lists {
		t.Run(c.name, func(t *testing.T) { wantErrorsAtEachCode(t, c.code, wantListError) })
	}
	for _, c := range spanLists {
		t.Run(c.name, func(t *testing.T) { wantErrorsAtEachCode(t, c.code, wantSpansError) })
	}
}

// wantErrorsAtEachCode cuts codes at every byte, and replaces each one by what is no code.
func wantErrorsAtEachCode(t *testing.T, code string, wantError func(*testing.T, string, int, api.Errno)) {
	t.Helper()
	// Long lists repeat the same codes.
	for size := range min(len(code), 100) {
		for _, b := range beginnings {
			wantError(t, b+code[:size], len(b), api.ErrShort)
		}
		if size > 0 && code[size-1] >= 0x80 {
			continue // the middle of a code
		}
		for _, wrong := range []string{"\x80\x00", "\x82\x00", "\xFF\x80\x00", strings.Repeat("\x80", 10), strings.Repeat("\xFF", 9) + "\x02"} {
			wantError(t, "b"+code[:size]+wrong, 1, api.ErrForm)
			wantError(t, "b"+code[:size]+wrong+code[size:], 1, api.ErrForm)
		}
	}
	wantError(t, "b"+code[:len(code)-1], 1, api.ErrShort)
}

// spanLists are lists of spans and their codes, written out by hand.
var spanLists = []struct {
	name string
	list spans
	code string
}{
	{"no spans", nil, "\x00"},
	{"no spans, not nil", spans{}, "\x00"},
	{"the number 0", spans{span(0, 0, 0)}, "\x02\x00\x00\x00"},
	{"one code point", spans{span(7, 7, 1)}, "\x02\x0E\x00\x02"},
	{"one span", spans{span(10, 20, -1)}, "\x02\x14\x14\x01"},
	{"a gap", spans{span(10, 20, 1), span(30, 35, 2)}, "\x04\x14\x14\x02\x14\x0A\x04"},
	{"a gap of one", spans{span(10, 20, 1), span(22, 22, 1)}, "\x04\x14\x14\x02\x04\x00\x02"},
	{"touching", spans{span(0, 0, 3), span(1, 2, 4)}, "\x04\x00\x00\x06\x02\x02\x08"},
	{"touching, same value", spans{span(1, 1, 3), span(2, 2, 3)}, "\x04\x02\x00\x06\x02\x00\x06"},
	{"all code points", spans{span(0, api.MaxRune, 0)}, "\x02\x00\xFE\xFF\x87\x01\x00"},
	{"last code point", spans{span(api.MaxRune, api.MaxRune, 5)}, "\x02\xFE\xFF\x87\x01\x00\x0A"},
	{"both ends", spans{span(0, 0, 1), span(api.MaxRune, api.MaxRune, 1)}, "\x04\x00\x00\x02\xFE\xFF\x87\x01\x00\x02"},
	{"greatest value", spans{span(1, 1, api.MaxTick)}, "\x02\x02\x00\x80\x80\x80\x80\x08"},
	{"least value", spans{span(1, 1, -api.MaxTick)}, "\x02\x02\x00\xFF\xFF\xFF\xFF\x07"},
	{"values are not differences", spans{span(1, 1, 9), span(3, 3, 9)}, "\x04\x02\x00\x12\x04\x00\x12"},
	{"surrogates", spans{span(0xD800, 0xDFFF, 1)}, "\x02\x80\xE0\x06\xFE\x1F\x02"},
	{"64 spans", touching(64), "\x80\x01\x00\x00\x02" + strings.Repeat("\x02\x00\x02", 63)},
	{"MaxRows spans", touching(api.MaxRows), "\x80\x04\x00\x00\x02" + strings.Repeat("\x02\x00\x02", api.MaxRows-1)},
}

// touching returns n spans of one code point each, without gaps.
func touching(n int) spans {
	var l spans
	for i := range n {
		l = append(l, span(i, i, 1))
	}
	return l
}

// Promise 3.4: the codes, and the way back.
func TestSpans(t *testing.T) {
	for _, c := range spanLists {
		for _, b := range beginnings {
			if s, e := packed.PutSpans(b, c.list); s != b+c.code || e != api.OK {
				t.Errorf("%s: PutSpans = %q, %d, want %q", c.name, s, e, b+c.code)
			}
			for _, end := range endings {
				wantSpans(t, b+c.code+end, len(b), c.list, len(b)+len(c.code))
			}
		}
	}
}

func wantSpans(t *testing.T, s string, at int, want spans, wantNext int) {
	t.Helper()
	if l, next, e := packed.GetSpans(s, at); !slices.Equal(l, want) || next != wantNext || e != api.OK {
		t.Fatalf("GetSpans(%q, %d) = %v, %d, %d, want %v, %d", s, at, l, next, e, want, wantNext)
	}
}

func wantSpansError(t *testing.T, s string, at int, want api.Errno) {
	t.Helper()
	if l, next, e := packed.GetSpans(s, at); len(l) != 0 || next != at || e != want {
		t.Fatalf("GetSpans(%q, %d) = %v, %d, %d, want no list, %d, %d", s, at, l, next, e, at, want)
	}
}

// Promise 3.4, for lists of each length and for random ones.
func TestRandomSpans(t *testing.T) {
	random := rand.New(rand.NewSource(34))
	for n := range api.MaxRows + 1 {
		wantSpansBothWays(t, randomSpans(random, n))
	}
	for range 1000 {
		wantSpansBothWays(t, randomSpans(random, random.Intn(6)))
	}
}

// randomSpans returns n spans, fewer if the code points are used up.
func randomSpans(random *rand.Rand, n int) spans {
	var l spans
	least := 0
	width := 1 + api.MaxRune/(n+1)
	for _, value := range randomList(random, n) {
		from := least + max(0, random.Intn(2*width)-width)
		to := from + max(0, random.Intn(2*width)-width)
		if to > api.MaxRune {
			return l
		}
		l = append(l, span(from, to, value))
		least = to + 1
	}
	return l
}

func wantSpansBothWays(t *testing.T, l spans) {
	t.Helper()
	numbers := []int{len(l)}
	for i, s := range l {
		base := 0
		if i > 0 {
			base = l[i-1].To
		}
		numbers = append(numbers, s.From-base, s.To-s.From, s.Value)
	}
	want := "b" + codes(numbers...)
	if s, e := packed.PutSpans("b", l); s != want || e != api.OK {
		t.Fatalf("PutSpans of %v = %q, %d, want %q", l, s, e, want)
	}
	wantSpans(t, want+"\x80", 1, l, len(want))
}

// Promise 3.4: each error of PutSpans, and their order.
func TestErrorsOfPutSpans(t *testing.T) {
	invalid := []spans{
		{span(-1, 5, 1)}, {span(6, 5, 1)}, {span(0, api.MaxRune+1, 1)}, {span(api.MaxRune+1, api.MaxRune+1, 1)},
		{span(math.MinInt, math.MaxInt, 1)}, {span(math.MaxInt, math.MinInt, 1)}, {span(math.MaxInt, math.MaxInt, 1)},
		{span(10, 20, 1), span(20, 30, 2)}, {span(10, 20, 1), span(10, 20, 1)}, {span(22, 30, 1), span(10, 20, 2)},
		{span(1, 2, 1), span(3, api.MaxRune+1, 1)}, {span(1, 2, 1), span(6, 5, 1)}, {span(1, 2, 1), span(-1, -1, 1)},
		touching(api.MaxRows + 1), touching(3 * api.MaxRows),
	}
	for _, b := range beginnings {
		for _, l := range invalid {
			wantNoSpans(t, b, l, api.ErrArg)
			for _, v := range beyond {
				changed := slices.Clone(l)
				changed[0].Value = v
				wantNoSpans(t, b, changed, api.ErrArg)
			}
		}
		for _, v := range beyond {
			for _, l := range []spans{
				{span(1, 1, v)}, {span(1, 1, v), span(2, 2, 0)}, {span(1, 1, 0), span(2, 2, v)},
				{span(1, 1, 0), span(2, 2, v), span(3, 3, 0)}, append(touching(api.MaxRows-1), span(500, 500, v)),
			} {
				wantNoSpans(t, b, l, api.ErrRange)
			}
			wantNoSpans(t, b, append(touching(api.MaxRows), span(500, 500, v)), api.ErrArg)
		}
	}
}

func wantNoSpans(t *testing.T, b string, l spans, want api.Errno) {
	t.Helper()
	if s, e := packed.PutSpans(b, l); s != "" || e != want {
		t.Errorf("PutSpans of %v to %q = %q, %d, want the error %d", l, b, s, e, want)
	}
}

// wrongSpans are numbers of lists of spans of which the last one is not allowed, and the ones before
// it are.
var wrongSpans = []struct {
	name    string
	numbers []int
}{
	{"number of spans is -1", []int{-1}},
	{"number of spans is MaxRows + 1", []int{api.MaxRows + 1}},
	{"number of spans is beyond 32 bits", []int{1 << 32}},
	{"number of spans is the least integer", []int{math.MinInt}},
	{"number of spans is the greatest integer", []int{math.MaxInt}},
	{"first From is -1", []int{1, -1}},
	{"first From is MaxRune + 1", []int{1, api.MaxRune + 1}},
	{"first From is the least integer", []int{1, math.MinInt}},
	{"first From is the greatest integer", []int{1, math.MaxInt}},
	{"first From of MaxRows", []int{api.MaxRows, -1}},
	{"first To is one less than From", []int{1, 5, -1}},
	{"first To is -1", []int{1, 0, -1}},
	{"first To is MaxRune + 1", []int{1, 0, api.MaxRune + 1}},
	{"first To is MaxRune + 1, From 5", []int{1, 5, api.MaxRune - 4}},
	{"first To is MaxRune + 1, From MaxRune", []int{1, api.MaxRune, 1}},
	{"first To is the least integer more than From", []int{1, 5, math.MinInt}},
	{"first To is the greatest integer more than From", []int{1, 5, math.MaxInt}},
	{"first Value is MaxTick + 1", []int{1, 5, 0, api.MaxTick + 1}},
	{"first Value is -MaxTick - 1", []int{1, 5, 0, -api.MaxTick - 1}},
	{"first Value is the least integer", []int{2, 5, 0, math.MinInt}},
	{"first Value is the greatest integer", []int{2, 5, 0, math.MaxInt}},
	{"second From is the To before", []int{2, 10, 10, 1, 0}},
	{"second From is the To before, which is 0", []int{2, 0, 0, 1, 0}},
	{"second From is one less than the To before", []int{2, 10, 10, 1, -1}},
	{"second From is negative", []int{2, 10, 10, 1, -21}},
	{"second From is MaxRune + 1", []int{2, 10, 10, 1, api.MaxRune - 19}},
	{"second From after MaxRune", []int{2, 0, api.MaxRune, 1, 1}},
	{"second From is MaxRune again", []int{2, 0, api.MaxRune, 1, 0}},
	{"second From is the least integer more", []int{2, 10, 10, 1, math.MinInt}},
	{"second From is the greatest integer more", []int{2, 10, 10, 1, math.MaxInt}},
	{"second To is one less than From", []int{2, 10, 10, 1, 1, -1}},
	{"second To is MaxRune + 1", []int{2, 10, 10, 1, 1, api.MaxRune - 20}},
	{"second To is the greatest integer more", []int{2, 10, 10, 1, 1, math.MaxInt}},
	{"second To is the least integer more", []int{2, 10, 10, 1, 1, math.MinInt}},
	{"second Value is MaxTick + 1", []int{2, 10, 10, api.MaxTick, 1, 0, api.MaxTick + 1}},
	{"second Value is -MaxTick - 1", []int{3, 10, 10, -api.MaxTick, 1, 0, -api.MaxTick - 1}},
	{"third From is the To before", []int{3, 10, 10, 1, 1, 0, 1, 0}},
}

// Promise 3.4: ErrForm as soon as it is found, and ErrShort before.
func TestWrongSpans(t *testing.T) {
	for _, c := range wrongSpans {
		t.Run(c.name, func(t *testing.T) { wantFoundAtLastNumber(t, c.numbers, wantSpansError) })
	}
}

// One number too many of each list, with everything else as it should be.
func TestListsOverTheLimit(t *testing.T) {
	for _, more := range []int{1, 2, api.MaxRunes} {
		n := api.MaxRunes + more
		wantListError(t, "b"+codes(n)+strings.Repeat("\x02", n), 1, api.ErrForm)
		n = api.MaxRows + more
		wantSpansError(t, "b"+codes(n)+strings.Repeat("\x02", 3*n), 1, api.ErrForm)
	}
	numbers := strings.Repeat("\x02", api.MaxRunes)
	if l, next, e := packed.GetList(codes(api.MaxRunes)+numbers, 0); len(l) != api.MaxRunes || next != 2+api.MaxRunes || e != api.OK {
		t.Errorf("MaxRunes elements: %d, %d, %d", len(l), next, e)
	}
	numbers = strings.Repeat("\x02", 3*api.MaxRows)
	if l, next, e := packed.GetSpans(codes(api.MaxRows)+numbers, 0); len(l) != api.MaxRows || next != 2+3*api.MaxRows || e != api.OK {
		t.Errorf("MaxRows spans: %d, %d, %d", len(l), next, e)
	}
}

// What is read from random bytes is what is written as these bytes: no list has two codes.
func TestRandomBytes(t *testing.T) {
	random := rand.New(rand.NewSource(35))
	read := 0
	for range 200000 {
		s := randomBytes(random)
		at := random.Intn(len(s) + 1)
		if v, next, e := packed.GetInt(s, at); e != api.OK {
			wantIntError(t, s, at, e)
		} else if back := packed.PutInt(s[:at], v); back != s[:next] {
			t.Fatalf("%d of %q at %d gives %q", v, s, at, back)
		}
		if l, next, e := packed.GetList(s, at); e != api.OK {
			wantListError(t, s, at, e)
		} else if back, e := packed.PutList(s[:at], l); e != api.OK || back != s[:next] {
			t.Fatalf("%v of %q at %d gives %q, %d", l, s, at, back, e)
		}
		if l, next, e := packed.GetSpans(s, at); e != api.OK {
			wantSpansError(t, s, at, e)
		} else if back, e := packed.PutSpans(s[:at], l); e != api.OK || back != s[:next] {
			t.Fatalf("%v of %q at %d gives %q, %d", l, s, at, back, e)
		} else if len(l) > 1 {
			read++
		}
	}
	if read < 1000 {
		t.Errorf("only %d lists of more than one span", read)
	}
}

// randomBytes returns bytes most of which are codes of small numbers or begin longer codes.
func randomBytes(random *rand.Rand) string {
	b := make([]byte, random.Intn(24))
	for i := range b {
		switch random.Intn(8) {
		case 0:
			b[i] = byte(random.Intn(256))
		case 1:
			b[i] = byte(0x80 + random.Intn(3))
		default:
			b[i] = byte(2 * random.Intn(5))
		}
	}
	return string(b)
}

// Promise 3.5.
func TestSum(t *testing.T) {
	for _, c := range []struct {
		s    string
		want int
	}{
		{"", 2166136261},
		{"a", 0xE40C292C},
		{"b", 0xE70C2DE5},
		{"foobar", 0xBF9CF968},
		{"\x00", 0x050C5D1F},
		{"\x00\x00", 0x117697CD},
	} {
		if sum := packed.Sum(c.s); sum != c.want {
			t.Errorf("Sum(%q) = %#x, want %#x", c.s, sum, c.want)
		}
	}
	random := rand.New(rand.NewSource(36))
	for n := range 600 {
		b := make([]byte, n)
		random.Read(b)
		wantSum(t, string(b))
	}
	for b := range 256 {
		wantSum(t, string([]byte{byte(b)}))
	}
	wantSum(t, strings.Repeat("\xFF", api.MaxText+1))
	wantSum(t, "\xC3\xA9\xFFa\x80")
}

func wantSum(t *testing.T, s string) {
	t.Helper()
	h := fnv.New32a()
	h.Write([]byte(s))
	if sum := packed.Sum(s); sum != int(h.Sum32()) {
		t.Errorf("Sum of %d bytes = %#x, want %#x", len(s), sum, h.Sum32())
	}
}

// Rule R2: neither a list nor its unused capacity is changed.
func TestListsAreLeftAlone(t *testing.T) {
	numbers := []int{5, api.MaxTick, -3, -7, -7, -7}
	for _, l := range [][]int{numbers[:0], numbers[:1], numbers[:3]} {
		before := slices.Clone(numbers)
		packed.PutList("b", l)
		if !slices.Equal(numbers, before) {
			t.Errorf("PutList changed the list to %v", numbers)
		}
	}
	rows := spans{span(1, 2, 3), span(4, 5, -6), span(9, 8, 7), span(-7, -8, -9)}
	for _, l := range []spans{rows[:0], rows[:1], rows[:2], rows[:3]} {
		before := slices.Clone(rows)
		packed.PutSpans("b", l)
		if !slices.Equal(rows, before) {
			t.Errorf("PutSpans changed the list to %v", rows)
		}
	}
}

// Rule R2: results share no memory with each other.
func TestResultsAreNew(t *testing.T) {
	for _, c := range lists {
		l, _, _ := packed.GetList(c.code, 0)
		other, _, _ := packed.GetList(c.code, 0)
		for i := range other[:cap(other)] {
			other[:cap(other)][i] = -99
		}
		if !slices.Equal(l, c.list) {
			t.Errorf("%s: the list became %v", c.name, l)
		}
	}
	for _, c := range spanLists {
		l, _, _ := packed.GetSpans(c.code, 0)
		other, _, _ := packed.GetSpans(c.code, 0)
		for i := range other[:cap(other)] {
			other[:cap(other)][i] = span(99, -99, 99)
		}
		if !slices.Equal(l, c.list) {
			t.Errorf("%s: the list became %v", c.name, l)
		}
	}
}

// The examples of the chapter.
func TestExamples(t *testing.T) {
	for v, want := range map[int]string{0: "\x00", -1: "\x01", 64: "\x80\x01"} {
		if s := packed.PutInt("", v); s != want {
			t.Errorf("the code of %d is %q", v, s)
		}
	}
	wantIntError(t, "\x80\x00", 0, api.ErrForm)
	wantIntError(t, "\x80", 0, api.ErrShort)
	if sum := packed.Sum(""); sum != 2166136261 {
		t.Errorf("Sum of nothing is %d", sum)
	}
}
