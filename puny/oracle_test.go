package puny_test

import (
	"math/big"
	"math/rand"
	"slices"
	"strings"
	"testing"

	"namedesk/api"
	"namedesk/puny"
)

// adaptByWords follows the words of promise 10.1.
func adaptByWords(delta, points int, first bool) int {
	if delta < 0 || points < 1 || delta > 1<<40 || points > api.MaxRunes {
		return 0
	}
	divisor := 2
	if first {
		divisor = 700
	}
	return biasOf(delta/divisor + delta/divisor/points)
}

// biasOf returns the bias of a number that has been divided and increased.
func biasOf(delta int) int {
	if delta > 455 {
		return 36 + biasOf(delta/35)
	}
	return 36 * delta / (delta + 38)
}

// thresholdByWords follows the definition of t(j).
func thresholdByWords(j, bias int) int64 {
	return int64(max(1, min(26, 36*(j+1)-bias)))
}

const digitsInOrder = "abcdefghijklmnopqrstuvwxyz0123456789"

// digitsOf returns the digits of a number of any size. It finds out first how many digits there are, by
// the least number with so many, and then determines them from the last one on.
func digitsOf(number *big.Int, bias int) string {
	rest := new(big.Int).Set(number)
	weights := []*big.Int{big.NewInt(1)}
	last := 0
	for ; ; last++ {
		t := thresholdByWords(last, bias)
		least := new(big.Int).Mul(weights[last], big.NewInt(t))
		if rest.Cmp(least) < 0 {
			break
		}
		rest.Sub(rest, least)
		weights = append(weights, new(big.Int).Mul(weights[last], big.NewInt(36-t)))
	}
	digits := make([]byte, last+1)
	for j := last; j >= 0; j-- {
		var above big.Int
		above.DivMod(rest, weights[j], rest)
		value := above.Int64()
		if j < last {
			value += thresholdByWords(j, bias)
		}
		digits[j] = digitsInOrder[value]
	}
	return string(digits)
}

// smallDigits is digitsOf for an int.
func smallDigits(number, bias int) string { return digitsOf(big.NewInt(int64(number)), bias) }

// valueByWords returns the value of the digit string that s begins with, and its length, and nil if it
// has none.
func valueByWords(s string, bias int) (*big.Int, int) {
	value, weight := new(big.Int), big.NewInt(1)
	for j := range len(s) {
		d := int64(strings.IndexByte(digitsInOrder, strings.ToLower(s)[j]))
		if d < 0 || !isDigit(s[j]) {
			return nil, 0
		}
		t := thresholdByWords(j, bias)
		value.Add(value, new(big.Int).Mul(weight, big.NewInt(d)))
		weight.Mul(weight, big.NewInt(36-t))
		if d < t {
			return value, j + 1
		}
	}
	return nil, 0
}

// decodeByWords follows the words of promise 10.3, with numbers of any size.
func decodeByWords(s string) ([]int, api.Errno) {
	if len(s) > maxBytes {
		return nil, api.ErrFull
	}
	var l []int
	digits := s
	if at := strings.LastIndex(s, "-"); at > 0 {
		for i := range at {
			if s[i] > 127 {
				return nil, api.ErrPuny
			}
			l = append(l, int(s[i]))
		}
		digits = s[at+1:]
	}
	n, i, bias := 128, 0, 72
	for first := true; digits != ""; first = false {
		value, size := valueByWords(digits, bias)
		if value == nil {
			return nil, api.ErrPuny
		}
		if value.Cmp(big.NewInt(maxNumber)) > 0 {
			return nil, api.ErrOverflow
		}
		number := int(value.Int64())
		n, i = n+(number+i)/(len(l)+1), (number+i)%(len(l)+1)
		if n > api.MaxRune {
			return nil, api.ErrOverflow
		}
		if n >= 0xD800 && n <= 0xDFFF {
			return nil, api.ErrPuny
		}
		l = with(l, i, n)
		i++
		bias = adaptByWords(number, len(l), first)
		digits = digits[size:]
	}
	return l, api.OK
}

// encodeByWalking follows the definition of promise 10.2 step by step from state to state.
func encodeByWalking(l []int) string {
	code := ""
	inPlace := make([]bool, len(l))
	h := 0
	for p, c := range l {
		if c < 128 {
			code += string(rune(c))
			inPlace[p] = true
			h++
		}
	}
	if h > 0 {
		code += "-"
	}
	bias, first, steps := 72, true, 0
	for n, i := 128, 0; h < len(l); {
		if p := nextAt(l, inPlace, n, i); p >= 0 {
			inPlace[p] = true
			h++
			i++
			code += smallDigits(steps, bias)
			bias, first, steps = adaptByWords(steps, h, first), false, 0
			continue
		}
		if i < h {
			i++
		} else {
			n, i = n+1, 0
		}
		steps++
	}
	return code
}

// nextAt returns the index of the code point of l that is put in place at a state, and -1 if none is.
func nextAt(l []int, inPlace []bool, n, i int) int {
	before := 0
	for p, c := range l {
		if c == n && !inPlace[p] {
			if before == i {
				return p
			}
			return -1
		}
		if inPlace[p] {
			before++
		}
	}
	return -1
}

// The number strings of the tests are written and read by two independent computations: they have to
// agree, and the digits of different numbers have to be different.
func TestOraclesAgree(t *testing.T) {
	for bias := range 240 {
		seen := map[string]bool{}
		for number := range 3000 {
			digits := smallDigits(number, bias)
			value, size := valueByWords(digits+"zz", bias)
			if seen[digits] || value == nil || value.Cmp(big.NewInt(int64(number))) != 0 || size != len(digits) {
				t.Fatalf("%d with the bias %d is %q, which is %d", number, bias, digits, value)
			}
			seen[digits] = true
		}
	}
}

// wantAsByWords compares Decode of s with the computation by words, and checks the way back.
func wantAsByWords(t *testing.T, s string) api.Errno {
	t.Helper()
	want, wantErr := decodeByWords(s)
	l, e := puny.Decode(s)
	if !slices.Equal(l, want) || e != wantErr {
		t.Fatalf("Decode(%q) = %x, %d, want %x, %d", s, l, e, want, wantErr)
	}
	if e != api.OK {
		return e
	}
	back, e := puny.Encode(l)
	switch {
	case len(l) > maxElements:
		if back != "" || e != api.ErrFull {
			t.Fatalf("Encode of %d elements = %q, %d", len(l), back, e)
		}
	case back != lowerDigits(s) || e != api.OK:
		t.Fatalf("Encode(%x) = %q, %d, want %q", l, back, e, lowerDigits(s))
	}
	return api.OK
}

// Promise 10.2, for every short list of an alphabet, and so for every order and all equal elements.
func TestEveryShortList(t *testing.T) {
	alphabet := []int{0x2D, 0x41, 0x7F, 0x80, 0x81, 0x9B, 0xA4}
	var extend func(l []int)
	extend = func(l []int) {
		wantBothWays(t, "short list", l, encodeByWalking(l))
		if len(l) < 5 {
			for _, c := range alphabet {
				extend(with(l, len(l), c))
			}
		}
	}
	extend(nil)
}

// Promise 10.2, for random lists of code points that can be walked to.
func TestRandomLists(t *testing.T) {
	random := rand.New(rand.NewSource(102))
	for range 400 {
		l := make([]int, random.Intn(30))
		least, width := random.Intn(200), 1+random.Intn(800)
		for i := range l {
			l[i] = least + random.Intn(width)
		}
		wantBothWays(t, "random list", l, encodeByWalking(l))
	}
}

// Promises 10.2 and 10.3, for random lists of all scalar values and of each length.
func TestRandomListsOfAllScalars(t *testing.T) {
	random := rand.New(rand.NewSource(103))
	for n := range maxElements + 1 {
		for _, width := range []int{0x80, 0x81, 0x100, 0x3000, 0xD800, api.MaxRune + 1} {
			l := make([]int, n)
			for i := range l {
				l[i] = random.Intn(width)
				if l[i] >= 0xD800 && l[i] <= 0xDFFF {
					l[i] = 0xE000
				}
			}
			s, e := puny.Encode(l)
			if e != api.OK || s != lowerDigits(s) {
				t.Fatalf("Encode(%x) = %q, %d", l, s, e)
			}
			if back, e := decodeByWords(s); !slices.Equal(back, l) || e != api.OK {
				t.Fatalf("Encode(%x) = %q, which is %x, %d", l, s, back, e)
			}
			wantDecode(t, "random list", s, l)
		}
	}
}

// Promise 10.3, for every string of up to two bytes, and longer ones of an alphabet with the edges of
// the digits and of the bytes.
func TestEveryShortString(t *testing.T) {
	var all []byte
	for b := range 256 {
		all = append(all, byte(b))
	}
	forEachString(all, 2, func(s string) { wantAsByWords(t, s) })
	forEachString([]byte("\x00-/059:@ABYZ[`abyz{\x7F\x80\xFF"), 3, func(s string) { wantAsByWords(t, s) })
	forEachString([]byte("-/09aAbzZ\x80"), 5, func(s string) { wantAsByWords(t, s) })
}

// forEachString calls visit with each string of up to n bytes of the alphabet.
func forEachString(alphabet []byte, n int, visit func(string)) {
	var extend func(s []byte)
	extend = func(s []byte) {
		visit(string(s))
		if len(s) < n {
			for _, b := range alphabet {
				extend(append(slices.Clone(s), b))
			}
		}
	}
	extend(nil)
}

// Promise 10.3, for random strings; among them are enough with each result.
func TestRandomStrings(t *testing.T) {
	random := rand.New(rand.NewSource(104))
	seen := map[api.Errno]int{}
	for range 20000 {
		seen[wantAsByWords(t, randomBasics(random)+randomDigits(random))]++
		seen[wantAsByWords(t, randomBasics(random)+randomNumbers(random))]++
	}
	for _, e := range []api.Errno{api.OK, api.ErrPuny, api.ErrOverflow} {
		if seen[e] < 2000 {
			t.Errorf("only %d strings with the result %d", seen[e], e)
		}
	}
}

// randomBasics returns nothing, or basic code points, sometimes very many of them, and a hyphen.
func randomBasics(random *rand.Rand) string {
	if random.Intn(2) == 0 {
		return ""
	}
	b := strings.Repeat("bQ", random.Intn(1+random.Intn(maxBytes/2)))
	return b + "-Q-"[random.Intn(3):]
}

// randomDigits returns digits, most of which end a number, and now and then a byte of any kind.
func randomDigits(random *rand.Rand) string {
	var s []byte
	for range random.Intn(30) {
		switch random.Intn(40) {
		case 0:
			s = append(s, byte(random.Intn(256)))
		case 1, 2, 3:
			s = append(s, strings.ToUpper(digitsInOrder)[random.Intn(36)])
		case 4, 5, 6, 7, 8, 9, 10:
			s = append(s, digitsInOrder[random.Intn(36)])
		default:
			s = append(s, digitsInOrder[random.Intn(1+random.Intn(26))])
		}
	}
	return string(s)
}

// randomNumbers returns the digits of complete numbers of all sizes.
func randomNumbers(random *rand.Rand) string {
	s, bias := "", 72
	for range random.Intn(5) {
		number := new(big.Int).Rand(random, new(big.Int).Lsh(big.NewInt(1), uint(random.Intn(68))))
		s += digitsOf(number, bias)
		bias = random.Intn(200)
	}
	return s
}
