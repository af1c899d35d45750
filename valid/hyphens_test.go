package valid_test

import (
	"math"
	"regexp"
	"slices"
	"testing"

	"namedesk/api"
	"namedesk/valid"
)

// Promise 17.1: labels of up to eight elements with hyphens in the places that matter, and in others.
func TestHyphens(t *testing.T) {
	for _, row := range []struct {
		l    string
		want bool
	}{
		{"", true}, {"a", true}, {"-", false},
		{"ab", true}, {"-a", false}, {"a-", false}, {"--", false},
		{"abc", true}, {"a-b", true}, {"-ab", false}, {"ab-", false}, {"a--", false}, {"--a", false}, {"-a-", false}, {"---", false},
		{"abcd", true}, {"a-bc", true}, {"ab-c", true}, {"a--b", true}, {"-abc", false}, {"abc-", false}, {"ab--", false}, {"-a-b", false},
		{"a-b-", false}, {"--ab", false}, {"-a--", false}, {"a---", false}, {"----", false},
		{"abcde", true}, {"a-cde", true}, {"ab-de", true}, {"abc-e", true}, {"a--de", true}, {"a-c-e", true}, {"ab--e", false}, {"a---e", false},
		{"-bcde", false}, {"abcd-", false}, {"-b--e", false}, {"ab---", false}, {"-----", false}, {"-bcd-", false},
		{"abcdef", true}, {"abc--f", true}, {"a--d-f", true}, {"ab-d-f", true}, {"a-c--f", true}, {"ab--ef", false}, {"ab-d--", false},
		{"abcd--", false}, {"--cdef", false}, {"ab----", false}, {"abc---", false},
		{"abcd--gh", true}, {"abc---gh", true}, {"a--d--gh", true}, {"ab-d---h", true}, {"a-c-e-gh", true}, {"ab--e-gh", false}, {"ab--ef--", false},
		{"xn--a", false}, {"XN--A", false}, {"xn-a", true}, {"xn-a--b", true}, {"a-b", true}, {"ab--c", false}, {"1--2", true}, {"12--3", false},
	} {
		wantHyphens(t, "a sample", codes(row.l), row.want)
	}
	wantHyphens(t, "an empty label with memory", []int{}, true)
}

// Promise 17.1: a hyphen alone, or two next to each other, at each index of labels of each length.
func TestHyphensAtEachIndex(t *testing.T) {
	for size := range 20 {
		for at := range size {
			l := with(repeat(plain, size), at, hyph)
			wantHyphens(t, "one", l, at != 0 && at != size-1)
			if at+1 < size {
				wantHyphens(t, "two", with(l, at+1, hyph), at != 0 && at != 2 && at+1 != size-1)
			}
			if at+2 < size {
				wantHyphens(t, "two with another between", with(l, at+2, hyph), at != 0 && at+2 != size-1)
			}
		}
	}
}

// Promise 17.1: no number but 45 is a hyphen.
func TestHyphensOfOtherNumbers(t *testing.T) {
	others := []int{
		0, ' ', '+', ',', '.', '_', '~', plain, ignored, 0x58A, 0x5BE, 0x2010, 0x2011, 0x2012, 0x2013, 0x2014, 0x2212, 0xFE63, 0xFF0D, acute, 0xD800,
		-45, hyph + 1<<8, hyph + 1<<16, hyph + 1<<32, hyph - 1<<32, hyph | math.MinInt, math.MaxInt, math.MinInt, -1, api.MaxRune, api.MaxRune + 1,
	}
	for c := -0x100; c <= 0x10000; c++ {
		wantHyphens(t, "alone", []int{c}, c != 45)
		wantHyphens(t, "in all places that matter", []int{c, plain, c, c, plain, c}, c != 45)
	}
	for _, c := range others {
		for size := range 8 {
			wantHyphens(t, "another number", repeat(c, size), true)
		}
		wantHyphens(t, "another number and a hyphen", []int{c, c, hyph, c, c}, true)
		wantHyphens(t, "another number behind a hyphen", []int{plain, plain, hyph, c, plain}, true)
		wantHyphens(t, "another number before a hyphen", []int{plain, plain, c, hyph, plain}, true)
		wantHyphens(t, "another number, and then hyphens", []int{c, c, hyph, hyph, c}, false)
		wantHyphens(t, "another number between hyphens", []int{hyph, c, hyph}, false)
		wantHyphens(t, "a hyphen first", []int{hyph, c}, false)
		wantHyphens(t, "a hyphen last", []int{c, hyph}, false)
	}
}

// Promise 17.1 and rule R1: labels that are too long for Check.
func TestHyphensOfLongLabels(t *testing.T) {
	for _, size := range []int{100, most, most + 1, 1 << 20} {
		l := repeat(plain, size)
		wantHyphens(t, "no hyphen", l, true)
		wantHyphens(t, "the first one", with(l, 0, hyph), false)
		wantHyphens(t, "the last one", with(l, size-1, hyph), false)
		wantHyphens(t, "the third one", with(l, 2, hyph), true)
		wantHyphens(t, "the third and the fourth one", with(with(l, 2, hyph), 3, hyph), false)
		wantHyphens(t, "two before the last one", with(with(l, size-3, hyph), size-2, hyph), true)
		wantHyphens(t, "the third and the fourth one from the end", with(with(l, size-4, hyph), size-3, hyph), true)
		among := repeat(hyph, size)
		wantHyphens(t, "only hyphens", among, false)
		among[0], among[size-1] = plain, plain
		wantHyphens(t, "hyphens in all places but the ends", among, false)
		among[2] = plain
		wantHyphens(t, "but the third one", among, true)
		among[2], among[3] = hyph, plain
		wantHyphens(t, "but the fourth one", among, true)
	}
}

// refusedHyphens describes the hyphens that promise 17.1 does not permit.
var refusedHyphens = regexp.MustCompile(`^-|-$|^..--`)

// Promise 17.1: every label of up to ten elements of three, one of which is a hyphen.
func TestHyphensOfEveryShortLabel(t *testing.T) {
	count := 0
	var extend func(l []int, letters string)
	extend = func(l []int, letters string) {
		count++
		wantHyphens(t, "every label", l, !refusedHyphens.MatchString(letters))
		if len(l) == 10 {
			return
		}
		for _, c := range []int{hyph, plain, 0x2010} {
			letter := "a"
			if c == hyph {
				letter = "-"
			}
			extend(append(slices.Clone(l), c), letters+letter)
		}
	}
	extend(nil, "")
	if count != 88573 {
		t.Errorf("%d labels", count)
	}
}

// Promises 17.1 and 17.2: Check refuses the hyphens that Hyphens refuses, if nothing else is wrong with the label.
func TestCheckAsksHyphens(t *testing.T) {
	for _, l := range []string{
		"-", "-a", "a-", "--", "-a-", "ab-", "a--", "--a", "---", "ab--", "ab--c", "-b--e", "xn--a", "xn--bcher-kva", "12--34", "----", "ab---c",
		"a-b", "a--b", "ab-c", "a-b-c", "abc--d", "a--b--c", "xn-a", "1-2", "a", "1", "ab",
	} {
		want := api.OK
		if refusedHyphens.MatchString(l) {
			want = api.ErrHyphen
		}
		for _, tables := range []api.Tables{{}, sample()} {
			wantCheck(t, "hyphens", tables, codes(l), want)
		}
	}
	for size := 1; size < 9; size++ {
		for bits := range 1 << size {
			l, want := repeat(acuteE, size), api.ErrHyphen
			for i := range l {
				if bits>>i&1 == 1 {
					l[i] = hyph
				}
			}
			if valid.Hyphens(l) {
				want = api.OK
			}
			wantCheck(t, "hyphens in each place", sample(), l, want)
		}
	}
}
