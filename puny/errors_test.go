package puny_test

import (
	"math/big"
	"slices"
	"strings"
	"testing"

	"namedesk/api"
	"namedesk/puny"
)

// codeOf returns a string with a number of basic code points, and numbers of which only the last one may
// be greater than an int.
func codeOf(basics int, before []int, last *big.Int) string {
	s := ""
	if basics > 0 {
		s = strings.Repeat("b", basics) + "-"
	}
	bias := 72
	for i, number := range before {
		s += smallDigits(number, bias)
		bias = adaptByWords(number, basics+i+1, i == 0)
	}
	return s + digitsOf(last, bias)
}

// smallCodeOf is codeOf for a last number that is an int.
func smallCodeOf(basics int, before []int, last int) string {
	return codeOf(basics, before, big.NewInt(int64(last)))
}

// power returns 2^n + more.
func power(n uint, more int64) *big.Int {
	return new(big.Int).Add(new(big.Int).Lsh(big.NewInt(1), n), big.NewInt(more))
}

// Promise 10.3: where the basic code points end.
func TestHyphens(t *testing.T) {
	for s, want := range map[string][]int{
		"": nil, "--": {0x2D}, "---": {0x2D, 0x2D}, "-a-": {0x2D, 0x61}, "a-": {0x61}, "a--": {0x61, 0x2D}, "a-b-": {0x61, 0x2D, 0x62},
		"--a": {0x80, 0x2D}, "---a": {0x80, 0x2D, 0x2D}, "-a-a": {0x80, 0x2D, 0x61}, "a-a": {0x80, 0x61}, "!-a": {0x80, 0x21},
		"99999999-": {0x39, 0x39, 0x39, 0x39, 0x39, 0x39, 0x39, 0x39},
	} {
		wantDecode(t, "hyphens", s, want)
	}
	for _, s := range []string{"-", "-a", "-9", "-aa", "-tda", "-abc", "-\x80", "-!"} {
		wantNoList(t, "hyphen as the first byte", s, api.ErrPuny)
	}
}

// Promise 10.3: every byte before the hyphen.
func TestBytesBeforeTheHyphen(t *testing.T) {
	for b := range 256 {
		for _, before := range []string{"", "a", "a-", "-", "bcd"} {
			for _, after := range []string{"", "a", "-", "a-b"} {
				s := before + string([]byte{byte(b)}) + after
				if b > 127 {
					wantNoList(t, "not basic", s+"-", api.ErrPuny)
					wantNoList(t, "not basic, before a number", s+"-a", api.ErrPuny)
					wantNoList(t, "not basic, before an overflow", s+"-99999999999a", api.ErrPuny)
				} else {
					wantDecode(t, "basic", s+"-", points(s))
					wantDecode(t, "basic, before a number", s+"-a", with(points(s), 0, 0x80))
					wantNoList(t, "basic, before an overflow", s+"-99999999999a", api.ErrOverflow)
				}
			}
		}
	}
}

// Promise 10.3: every byte that is not a digit, at each place of numbers.
func TestBytesThatAreNoDigits(t *testing.T) {
	for b := range 256 {
		if b == '-' || isDigit(byte(b)) {
			continue
		}
		flaw := string([]byte{byte(b)})
		for _, digits := range []string{"", "a", "kva", "egbpdaj6bu4bxfgehfvwxn", "99999999999"} {
			for at := range len(digits) + 1 {
				if strings.HasPrefix(digits[:at], "9") {
					wantNoList(t, "no digit in a number that is too great", digits[:at]+flaw+"a", api.ErrPuny)
				}
				wantNoList(t, "no digit", digits[:at]+flaw, api.ErrPuny)
				wantNoList(t, "no digit", "bcher-"+digits[:at]+flaw, api.ErrPuny)
			}
		}
		wantNoList(t, "no digit at the beginning", flaw+"a", api.ErrPuny)
		wantNoList(t, "no digit after a number", "tda"+flaw+"a", api.ErrPuny)
	}
}

// Promise 10.3: numbers that are not complete, in every cut of the samples.
func TestIncompleteNumbers(t *testing.T) {
	for _, s := range []string{"b", "9", "bb", "99", "td9", "t", "td", "bcher-k", "bcher-kv", "b-9", "a0", "a9", "dn32", "99999999", "ZZ", "a-b"} {
		wantNoList(t, "not complete", s, api.ErrPuny)
	}
	for _, c := range samples {
		for at := range len(c.code) {
			wantAsByWords(t, c.code[:at])
		}
	}
	for _, c := range texts {
		for at := range len(c.code) {
			wantAsByWords(t, c.code[:at])
			wantAsByWords(t, c.code[at:])
		}
	}
	for n := 1; n < 300; n++ {
		wantNoList(t, "only greatest digits", strings.Repeat("9", n), api.ErrPuny)
	}
}

// Promise 10.3: the greatest number is read, and no greater one, where the code point would be possible
// in either case.
func TestGreatestNumber(t *testing.T) {
	for _, basics := range []int{1928, 1950, 2000, 2020} {
		for _, before := range [][]int{nil, {0}, {0, 1}} {
			h := basics + len(before)
			s := smallCodeOf(basics, before, maxNumber)
			l, e := puny.Decode(s)
			ahead := maxNumber + indexBehind(before)
			want := with(putBefore(basics, before), ahead%(h+1), 128+ahead/(h+1))
			if e != api.OK || !slices.Equal(l, want) {
				t.Errorf("%d basic code points, %v and 2^31 - 1: %d elements, %d", basics, before, len(l), e)
			}
			for more := range 2000 {
				wantNoList(t, "2^31 and more", smallCodeOf(basics, before, maxNumber+1+more), api.ErrOverflow)
			}
			wantAsByWords(t, smallCodeOf(basics, before, maxNumber-1))
		}
	}
}

// putBefore returns basic code points with one code point for each number before, which puts it in place
// close to the beginning.
func putBefore(basics int, before []int) []int {
	l := slices.Repeat([]int{0x62}, basics)
	at := 0
	for _, number := range before {
		l = with(l, at+number, 0x80)
		at += number + 1
	}
	return l
}

// indexBehind returns the index of the state behind the code points of putBefore.
func indexBehind(before []int) int {
	at := 0
	for _, number := range before {
		at += number + 1
	}
	return at
}

// Promise 10.3: numbers that are too great by far, also where they would fit after a wraparound.
func TestNumbersThatAreTooGreat(t *testing.T) {
	for bits := uint(31); bits <= 200; bits++ {
		for _, more := range []int64{-1, 0, 1, 5, 0x7F, 0x1234, 0xD7800} {
			if bits == 31 && more < 0 {
				continue
			}
			for _, basics := range []int{0, 1, 6, 255, 1900} {
				for _, before := range [][]int{nil, {0}, {0x1000}, {5, 0x10000, 3}} {
					s := codeOf(basics, before, power(bits, more))
					wantNoList(t, "too great", s, api.ErrOverflow)
					wantNoList(t, "too great, before what is no digit", s+"!", api.ErrOverflow)
					wantNoList(t, "too great and not complete", s[:len(s)-1], api.ErrPuny)
				}
			}
		}
	}
}

// Promise 10.3: MaxRune at each index, and nothing above it.
func TestGreatestCodePoint(t *testing.T) {
	for _, basics := range []int{0, 1, 2, 5, 100, 255, 256, 1900} {
		b := slices.Repeat([]int{0x62}, basics)
		least := (api.MaxRune - 128) * (basics + 1)
		for _, at := range []int{0, basics / 2, basics} {
			wantDecode(t, "MaxRune", smallCodeOf(basics, nil, least+at), with(b, at, api.MaxRune))
			wantDecode(t, "MaxRune twice", smallCodeOf(basics, []int{least + at}, 0), with(with(b, at, api.MaxRune), at, api.MaxRune))
			wantNoList(t, "MaxRune, and above", smallCodeOf(basics, []int{least + at}, basics-at+1), api.ErrOverflow)
			wantNoList(t, "above MaxRune", smallCodeOf(basics, nil, least+basics+1+at), api.ErrOverflow)
		}
		wantDecode(t, "before MaxRune", smallCodeOf(basics, nil, least-1), with(b, basics, api.MaxRune-1))
	}
}

// Promise 10.3: no surrogate at any index, and the code points on both sides of them.
func TestSurrogates(t *testing.T) {
	for _, basics := range []int{0, 1, 6, 300} {
		b := slices.Repeat([]int{0x62}, basics)
		for _, at := range []int{0, basics / 2, basics} {
			numberOf := func(c int) int { return (c-128)*(basics+1) + at }
			for _, c := range []int{0xD7FF, 0xE000} {
				wantDecode(t, "beside the surrogates", smallCodeOf(basics, nil, numberOf(c)), with(b, at, c))
			}
			for c := 0xD800; c <= 0xDFFF; c += 1 + 0x7E*min(1, basics) {
				s := smallCodeOf(basics, nil, numberOf(c))
				for _, end := range []string{"", "a", "!", "99999999999", "99999999999a"} {
					wantNoList(t, "surrogate", s+end, api.ErrPuny)
				}
			}
			wantNoList(t, "last surrogate", smallCodeOf(basics, nil, numberOf(0xDFFF)), api.ErrPuny)
		}
	}
	wantNoList(t, "from the code point before to the first surrogate", smallCodeOf(0, []int{0xD7FF - 128}, 1), api.ErrPuny)
}

// Promise 10.3: the first number that is not in order decides, and what stands behind it does not.
func TestFirstFlawDecides(t *testing.T) {
	surrogate := smallDigits(0xD800-128, 72)
	tooGreat := smallDigits(maxNumber+1, 72)
	above := smallDigits(api.MaxRune+1-128, 72)
	for _, c := range []struct {
		name, code string
		want       api.Errno
	}{
		{"surrogate, then too great", surrogate + tooGreat, api.ErrPuny},
		{"surrogate, then above MaxRune", surrogate + above, api.ErrPuny},
		{"too great, then surrogate", tooGreat + surrogate, api.ErrOverflow},
		{"above MaxRune, then surrogate", above + surrogate, api.ErrOverflow},
		{"too great, then no digit", tooGreat + "!", api.ErrOverflow},
		{"above MaxRune, then no digit", above + "!", api.ErrOverflow},
		{"above MaxRune, then not complete", above + "9", api.ErrOverflow},
		{"no digit, then too great", "!" + tooGreat, api.ErrPuny},
		{"no digit in what is too great", "99999999999!", api.ErrPuny},
		{"no digit in what is above MaxRune", above[:len(above)-1] + "!", api.ErrPuny},
		{"too great and not complete", "99999999999", api.ErrPuny},
		{"too great and complete", "99999999999a", api.ErrOverflow},
		{"not basic, then too great", "\x80-" + tooGreat, api.ErrPuny},
		{"in order, then too great", "bcher-kva" + strings.Repeat("9", 20) + "a", api.ErrOverflow},
		{"in order, then not complete", "bcher-kva" + strings.Repeat("9", 20), api.ErrPuny},
		{"in order, then no digit", "bcher-kva\x00", api.ErrPuny},
	} {
		wantNoList(t, c.name, c.code, c.want)
		if _, e := decodeByWords(c.code); e != c.want {
			t.Errorf("%s: the computation by words has the error %d, want %d", c.name, e, c.want)
		}
	}
}
