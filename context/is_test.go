package context_test

import (
	"math"
	"slices"
	"testing"

	"namedesk/api"
	"namedesk/context"
)

// wantIs compares the result of Is.
func wantIs(t *testing.T, c int, want bool) {
	t.Helper()
	if got := context.Is(c); got != want {
		t.Errorf("Is(%#x) = %t", c, got)
	}
}

// Promise 15.1: each code point that the chapter names.
func TestIs(t *testing.T) {
	for _, c := range []int{0xB7, 0x375, 0x5F3, 0x5F4, 0x30FB} {
		wantIs(t, c, true)
	}
	for i := range 10 {
		wantIs(t, 0x660+i, true)
		wantIs(t, 0x6F0+i, true)
	}
}

// Promise 15.1: those directly before and behind them, and others that are like them.
func TestIsOfOthers(t *testing.T) {
	for _, c := range []int{
		0xB6, 0xB8, 0x374, 0x376, 0x5F2, 0x5F5, 0x30FA, 0x30FC, 0x65F, 0x66A, 0x6EF, 0x6FA,
		el, '0', '9', '.', '-', greek, hebrew, hiragana, katakana, han, arabicLetter, api.ZWNJ, api.ZWJ, 0xF3, 0xF4, 0xFB, 0x60, 0x69, 0x387, 0xFF65,
	} {
		wantIs(t, c, false)
	}
}

// Promise 15.1: every code point, and numbers around them.
func TestIsOfEachNumber(t *testing.T) {
	for c := -0x8000; c <= 0x120000; c++ {
		wantIs(t, c, slices.Contains(needing, c))
	}
}

// Promise 15.1: numbers that are no code points.
func TestIsOfNumbersThatAreNoCodePoints(t *testing.T) {
	for _, c := range []int{
		-1, api.MaxRune + 1, 1 << 31, 1 << 32, 1 << 62, math.MaxInt32, math.MinInt32, math.MaxInt - 1, math.MaxInt, math.MinInt, math.MinInt + 1,
	} {
		wantIs(t, c, false)
	}
	for _, c := range needing {
		for _, far := range []int{1 << 16, 1 << 20, 1 << 31, 1 << 32, 1 << 62} {
			wantIs(t, c+far, false)
			wantIs(t, c-far, false)
		}
		wantIs(t, -c, false)
		wantIs(t, ^c, false)
		wantIs(t, math.MinInt+c, false)
	}
}
