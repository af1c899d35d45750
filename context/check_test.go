package context_test

import (
	"testing"

	"namedesk/api"
)

// Promise 15.3: the index is that of the first element that is not permitted, wherever others are.
func TestCheck(t *testing.T) {
	for _, row := range []struct {
		name string
		l    []int
		at   int
	}{
		{"the only one", []int{middleDot}, 0},
		{"the first one", []int{geresh, plain, plain}, 0},
		{"one in the middle", []int{plain, katakanaDot, plain}, 1},
		{"the last one", []int{plain, plain, keraia}, 2},
		{"the first and the last one", []int{middleDot, plain, middleDot}, 0},
		{"several in the middle", []int{plain, plain, geresh, middleDot, plain, keraia, plain}, 2},
		{"the last two", []int{plain, plain, keraia, middleDot}, 2},
		{"all of them", []int{middleDot, geresh, katakanaDot, keraia}, 0},
		{"all of them, in another order", []int{keraia, katakanaDot, gershayim, middleDot}, 0},
		{"behind one that is permitted", []int{el, middleDot, el, plain, middleDot, el}, 4},
		{"directly behind one that is permitted", []int{keraia, greek, geresh}, 2},
		{"behind several that are permitted", []int{han, katakanaDot, hebrew, gershayim, keraia, greek, el, middleDot, el, arabic0, keraia}, 10},
		{"before one that is permitted", []int{plain, keraia, el, middleDot, el}, 1},
		{"between two that are permitted", []int{hebrew, geresh, plain, geresh, hebrew, geresh}, 3},
		{"digits of both kinds, the second one last", []int{plain, arabic0, plain, arabic0, extended0}, 1},
		{"digits of both kinds behind another", []int{plain, keraia, arabic0, extended0}, 1},
		{"digits of both kinds before another", []int{plain, plain, extended0, keraia, arabic0}, 2},
		{"before marks that are not in order", []int{plain, keraia, 0x302, hebrewMark, virama, keraia}, 1},
		{"behind marks that are not in order", []int{plain, 0x302, virama, hebrewMark, geresh, hebrewMark, 0x302, geresh}, 7},
	} {
		wantCheck(t, row.name, sample(), row.l, row.at, api.ErrContext)
	}
}

// Promise 15.3: sequences in which each element is permitted.
func TestCheckOfWhatIsPermitted(t *testing.T) {
	for _, row := range []struct {
		name string
		l    []int
	}{
		{"no code points", nil},
		{"no code points, but memory", []int{}},
		{"none needs a context", []int{plain, el, greek, hebrew, han, virama, '.', ' ', 0}},
		{"one", []int{el, middleDot, el}},
		{"one of each kind", []int{el, middleDot, el, keraia, greek, hebrew, geresh, hebrew, gershayim, han, katakanaDot, arabic5}},
		{"several of the same kind", []int{keraia, greek, keraia, greek, keraia, greek}},
		{"only what needs a context", []int{arabic0, arabic9, arabic5}},
		{"code points that are not normalized", []int{'e', inherited, virama, 0xE9, 0x1100, 0x1161}},
	} {
		wantCheck(t, row.name, sample(), row.l, 0, api.OK)
	}
}

// amongOthers is a sequence in which each element is permitted, for one reason or another.
var amongOthers = []int{
	plain, plain, el, middleDot, el, plain, keraia, greek, plain, hebrew, geresh, hebrew, gershayim, plain, katakanaDot, plain, han, plain, arabic0, plain, arabic9, plain,
}

// Promises 15.2 and 15.3: among elements that are permitted, one that is not, and two, in the place of each letter.
func TestCheckAtEachIndex(t *testing.T) {
	// Unlike in the sample, 0x375 is not Greek, so that it is not permitted before another one.
	tables := scripts(span(greek, greek, api.Greek), span(hebrew, hebrew, api.Hebrew), span(han, han, api.Han))
	wantExactly(t, "without another", tables, amongOthers)
	for at, c := range amongOthers {
		if c != plain {
			continue
		}
		for _, which := range []int{middleDot, keraia} {
			l := with(amongOthers, at, which)
			wantExactly(t, "one", tables, l, at)
			for later := at + 1; later < len(l); later++ {
				if l[later] == plain {
					wantExactly(t, "two", tables, with(l, later, which), at, later)
				}
			}
		}
		wantExactlyDigits(t, tables, with(amongOthers, at, extended5))
	}
}

// wantExactlyDigits compares the results for a list in which exactly the digits are not permitted.
func wantExactlyDigits(t *testing.T, tables api.Tables, l []int) {
	t.Helper()
	var not []int
	for i, c := range l {
		if c >= arabic0 && c <= arabic9 || c >= extended0 && c <= extended9 {
			not = append(not, i)
		}
	}
	wantExactly(t, "digits of both kinds", tables, l, not...)
}

// Promises 15.2 and 15.3: each element of a sequence that permits others, replaced by one that does not.
func TestWithoutWhatPermits(t *testing.T) {
	for _, row := range []struct {
		at  int
		not []int
	}{
		{2, []int{3}}, {4, []int{3}}, {7, []int{6}}, {9, []int{10}}, {11, []int{12}}, {16, []int{14}},
	} {
		wantExactly(t, "one is replaced", sample(), with(amongOthers, row.at, latin), row.not...)
	}
}

// Promise 15.3: sequences of MaxRunes elements.
func TestLongSequences(t *testing.T) {
	for _, row := range []struct {
		name string
		l    []int
		at   int
		e    api.Errno
	}{
		{"none needs a context", repeat(plain, most), 0, api.OK},
		{"only 0xB7", repeat(middleDot, most), 0, api.ErrContext},
		{"every second one", times([]int{el, middleDot}, most/2), most - 1, api.ErrContext},
		{"every second one but the last", with(times([]int{el, middleDot}, most/2), most-1, el), 0, api.OK},
		{"every second one, but one before l is missing", with(times([]int{el, middleDot}, most/2), 1000, plain), 999, api.ErrContext},
		{"only 0x375, which is Greek", repeat(keraia, most), most - 1, api.ErrContext},
		{"0x375, which is Greek, before Greek", with(repeat(keraia, most), most-1, greek), 0, api.OK},
		{"only 0x5F3, which is Hebrew", repeat(geresh, most), 0, api.ErrContext},
		{"0x5F3, which is Hebrew, behind Hebrew", with(repeat(geresh, most), 0, hebrew), 0, api.OK},
		{"only 0x30FB", repeat(katakanaDot, most), 0, api.ErrContext},
		{"0x30FB and Han behind it", with(repeat(katakanaDot, most), most-1, han), 0, api.OK},
		{"0x30FB and Han before it", with(repeat(katakanaDot, most), 0, han), 0, api.OK},
		{"0x30FB first, and Han last", with(with(repeat(plain, most), 0, katakanaDot), most-1, han), 0, api.OK},
		{"0x30FB last, and Hiragana first", with(with(repeat(plain, most), most-1, katakanaDot), 0, hiragana), 0, api.OK},
		{"0x30FB in the middle, and Katakana behind it", with(with(repeat(plain, most), most/2, katakanaDot), most/2+1, katakana), 0, api.OK},
		{"0x30FB last, and none of the scripts", endingWith(most, katakanaDot), most - 1, api.ErrContext},
		{"digits of the one kind", repeat(arabic0, most), 0, api.OK},
		{"digits of the other kind", repeat(extended9, most), 0, api.OK},
		{"digits of the one kind, and one of the other", with(repeat(arabic0, most), most-1, extended0), 0, api.ErrContext},
		{"digits of both kinds at both ends", with(with(repeat(plain, most), 0, extended0), most-1, arabic0), 0, api.ErrContext},
		{"digits of both kinds last", endingWith(most, arabic9, extended9), most - 2, api.ErrContext},
		{"a digit first", with(repeat(plain, most), 0, arabic5), 0, api.OK},
		{"digits of the one kind at both ends", with(with(repeat(plain, most), 0, extended0), most-1, extended9), 0, api.OK},
		{"only the first one", with(repeat(plain, most), 0, gershayim), 0, api.ErrContext},
		{"only the last one", endingWith(most, keraia), most - 1, api.ErrContext},
		{"the last one, which is permitted", endingWith(most, hebrew, geresh), 0, api.OK},
	} {
		if len(row.l) != most {
			t.Errorf("%s: %d elements", row.name, len(row.l))
		}
		wantCheck(t, row.name, sample(), row.l, row.at, row.e)
		wantPermitted(t, row.name, sample(), row.l, row.at, row.e == api.OK)
		wantPermitted(t, row.name, sample(), row.l, most, false)
	}
}

// Promise 15.2: Permitted at the ends and in the middle of a long sequence, where what matters is at the other end.
func TestPermittedInLongSequences(t *testing.T) {
	l := with(repeat(katakanaDot, most), most-1, han)
	for _, i := range []int{0, 1, most / 2, most - 2, most - 1} {
		wantPermitted(t, "0x30FB", sample(), l, i, true)
		wantPermitted(t, "0x30FB without Han", sample(), with(l, most-1, greek), i, i == most-1)
		wantPermitted(t, "digits", sample(), with(repeat(extended0, most), most-1, arabic0), i, false)
		wantPermitted(t, "digits of one kind", sample(), repeat(extended0, most), i, true)
	}
}
