package puny_test

import (
	"math"
	"math/rand"
	"testing"

	"namedesk/api"
	"namedesk/puny"
)

// biases are calls of Adapt, with fixed results.
var biases = []struct {
	name          string
	delta, points int
	first         bool
	want          int
}{
	{"nothing", 0, 1, true, 0},
	{"nothing, later", 0, 1, false, 0},
	{"nothing, MaxRunes points", 0, api.MaxRunes, true, 0},
	{"halved to 0", 1, 1, false, 0},
	{"halved to 1 and doubled", 2, 1, false, 1},
	{"halved down to 1 and doubled", 3, 1, false, 1},
	{"halved to 1, shared by two", 2, 2, false, 0},
	{"halved to 2, shared by two", 4, 2, false, 2},
	{"halved to 3, shared by three", 6, 3, false, 3},
	{"halved to 38", 76, 76, false, 18},
	{"first number below its divisor", 699, 1, true, 0},
	{"first number like its divisor", 700, 1, true, 1},
	{"first number like its divisor, shared by two", 700, 2, true, 0},
	{"first number below twice its divisor", 1399, 1, true, 1},
	{"first number like twice its divisor", 1400, 1, true, 3},
	{"first number like twice its divisor, shared by two", 1400, 2, true, 2},
	{"455", 910, api.MaxRunes, false, 33},
	{"455, halved down", 911, api.MaxRunes, false, 33},
	{"456", 912, api.MaxRunes, false, 45},
	{"454 with the share", 455, 1, false, 33},
	{"456 with the share", 456, 1, false, 45},
	{"455 after the first number", 318500, api.MaxRunes, true, 33},
	{"455 after the first number, rounded down", 319199, api.MaxRunes, true, 33},
	{"456 after the first number", 319200, api.MaxRunes, true, 45},
	{"912 with the share after the first number", 319200, 1, true, 50},
	{"454 with the share after the first number", 159250, 1, true, 33},
	{"456 with the share after the first number", 159600, 1, true, 45},
	{"455 after one round", 31912, api.MaxRunes, false, 69},
	{"456 after one round", 31914, api.MaxRunes, false, 81},
	{"greatest number", maxNumber, 1, true, 136},
	{"greatest number, later", maxNumber, 1, false, 198},
	{"greatest number, many points", maxNumber, 2048, true, 131},
	{"greatest number, many points, later", maxNumber, 2048, false, 192},
	{"2^40", 1 << 40, 1, true, 201},
	{"2^40, later", 1 << 40, 1, false, 263},
	{"2^40, MaxRunes points", 1 << 40, api.MaxRunes, true, 195},
	{"2^40, MaxRunes points, later", 1 << 40, api.MaxRunes, false, 247},
	{"2^40 - 1, later", 1<<40 - 1, 1, false, 263},
}

// Promise 10.1.
func TestAdapt(t *testing.T) {
	for _, c := range biases {
		if bias := puny.Adapt(c.delta, c.points, c.first); bias != c.want {
			t.Errorf("%s: Adapt(%d, %d, %t) = %d, want %d", c.name, c.delta, c.points, c.first, bias, c.want)
		}
	}
}

// Promise 10.1: beyond the bounds the result is 0, and at the bounds it is not.
func TestAdaptBeyondItsBounds(t *testing.T) {
	deltas := []int{-1, -2, -1400, -1 << 40, math.MinInt, 1<<40 + 1, 1<<40 + 2, 1 << 41, 1 << 62, math.MaxInt}
	counts := []int{0, -1, -2, -api.MaxRunes, math.MinInt, api.MaxRunes + 1, api.MaxRunes + 2, 1 << 32, 1<<32 + 1, math.MaxInt}
	for _, first := range []bool{false, true} {
		for _, delta := range deltas {
			for _, count := range append([]int{1, 2, api.MaxRunes}, counts...) {
				wantNoBias(t, delta, count, first)
			}
		}
		for _, count := range counts {
			for _, delta := range []int{0, 1, 1400, 1 << 20, 1 << 40} {
				wantNoBias(t, delta, count, first)
			}
		}
	}
}

func wantNoBias(t *testing.T, delta, count int, first bool) {
	t.Helper()
	if bias := puny.Adapt(delta, count, first); bias != 0 {
		t.Errorf("Adapt(%d, %d, %t) = %d, want 0", delta, count, first, bias)
	}
}

// Promise 10.1, for small numbers, around each power of two, and for random numbers.
func TestAdaptOfManyNumbers(t *testing.T) {
	random := rand.New(rand.NewSource(101))
	for _, first := range []bool{false, true} {
		for delta := range 3000 {
			for _, count := range []int{1, 2, 3, 17, 255, 256, 257, api.MaxRunes} {
				wantBias(t, delta, count, first)
				wantBias(t, 700*delta-1, count, first)
				wantBias(t, 700*delta, count, first)
			}
		}
		for count := 1; count <= api.MaxRunes; count++ {
			wantBias(t, 1<<20, count, first)
			wantBias(t, 1<<40, count, first)
		}
		for shift := range 41 {
			for more := -2; more <= 0; more++ {
				wantBias(t, 1<<shift+more, 1+random.Intn(api.MaxRunes), first)
			}
			for range 500 {
				wantBias(t, random.Intn(1<<shift+1), 1+random.Intn(api.MaxRunes), first)
			}
		}
	}
}

func wantBias(t *testing.T, delta, count int, first bool) {
	t.Helper()
	if bias := puny.Adapt(delta, count, first); bias != adaptByWords(delta, count, first) {
		t.Fatalf("Adapt(%d, %d, %t) = %d, want %d", delta, count, first, bias, adaptByWords(delta, count, first))
	}
}
