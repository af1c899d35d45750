package idna_test

import (
	"strings"
	"testing"

	"namedesk/api"
)

// nextBias is the adaptation of the bias of Punycode, written as in RFC 3492.
func nextBias(delta, points int, isFirst bool) int {
	if isFirst {
		delta /= 700
	} else {
		delta /= 2
	}
	delta += delta / points
	k := 0
	for ; delta > 455; k += 36 {
		delta /= 35
	}
	return k + 36*delta/(delta+38)
}

const digits = "abcdefghijklmnopqrstuvwxyz0123456789"

// punycode encodes a label of at least one code point that is not ASCII, as RFC 3492 describes it: for each code point
// in ascending order, it goes through the whole label.
func punycode(label string) string {
	all, code := []rune(label), ""
	for _, r := range all {
		if r < 0x80 {
			code += string(r)
		}
	}
	basic := len(code)
	if basic > 0 {
		code += "-"
	}
	n, delta, bias := rune(0x80), 0, 72
	for done := basic; done < len(all); n, delta = n+1, delta+1 {
		least := rune(api.MaxRune)
		for _, r := range all {
			if r >= n {
				least = min(least, r)
			}
		}
		delta += int(least-n) * (done + 1)
		n = least
		for _, r := range all {
			if r < n {
				delta++
			}
			if r == n {
				code += digitsOf(delta, bias)
				bias = nextBias(delta, done+1, done == basic)
				delta = 0
				done++
			}
		}
	}
	return code
}

// digitsOf writes a number with digits of different weights.
func digitsOf(q, bias int) string {
	var b strings.Builder
	for k := 36; ; k += 36 {
		threshold := min(max(k-bias, 1), 26)
		if q < threshold {
			b.WriteByte(digits[q])
			return b.String()
		}
		b.WriteByte(digits[threshold+(q-threshold)%(36-threshold)])
		q = (q - threshold) / (36 - threshold)
	}
}

// unpunycode decodes what stands behind the prefix, all of it ASCII without capital letters.
func unpunycode(code string) (string, api.Errno) {
	label, rest := []rune(nil), code
	if at := strings.LastIndexByte(code, '-'); at > 0 {
		label, rest = []rune(code[:at]), code[at+1:]
	}
	n, i, bias, isFirst := 0x80, 0, 72, true
	for rest != "" {
		number, weight, isComplete := 0, 1, false
		for k := 36; rest != "" && !isComplete; k += 36 {
			digit := strings.IndexByte(digits, rest[0])
			if digit < 0 {
				return "", api.ErrPuny
			}
			rest = rest[1:]
			// Far behind every limit, and yet small enough to be multiplied.
			number, weight = min(number+digit*weight, 1<<40), min(weight, 1<<40)
			threshold := min(max(k-bias, 1), 26)
			isComplete = digit < threshold
			weight *= 36 - threshold
		}
		if !isComplete {
			return "", api.ErrPuny
		}
		i += number
		points := len(label) + 1
		n, i = n+i/points, i%points
		if number >= 1<<31 || n > api.MaxRune {
			return "", api.ErrOverflow
		}
		if n >= 0xD800 && n <= 0xDFFF {
			return "", api.ErrPuny
		}
		label = append(label[:i], append([]rune{rune(n)}, label[i:]...)...)
		bias = nextBias(number, points, isFirst)
		i, isFirst = i+1, false
	}
	return string(label), api.OK
}

// xn returns the ASCII form of a label that is not ASCII, whether it is valid or not.
func xn(label string) string { return "xn--" + punycode(label) }

func TestPunycodeOfTheTests(t *testing.T) {
	for label, want := range map[string]string{
		"bücher": "bcher-kva", "faß": "fa-hia", "é": "9ca", "\u05D0": "4db", "日本語": "wgv71a119e", "-> $1.00 <-é": "-> $1.00 <--lbb", "\U0001F600": "e28h",
		"他们为什么不说中文": "ihqwcrb4cv8a8dqg056pqjye", "3年B組金八先生": "3B-ww4c5e180e575a65lsy2b", "éé": "9caa",
	} {
		if got := punycode(label); got != want {
			t.Errorf("punycode(%q) = %q", label, got)
		}
		if got, e := unpunycode(want); got != label || e != api.OK {
			t.Errorf("unpunycode(%q) = %q, %d", want, got, e)
		}
	}
	for code, want := range map[string]api.Errno{"9": api.ErrPuny, "é": api.ErrPuny, "a-9": api.ErrPuny, "99999999999a": api.ErrOverflow, "-": api.ErrPuny} {
		if got, e := unpunycode(code); got != "" || e != want {
			t.Errorf("unpunycode(%q) = %q, %d", code, got, e)
		}
	}
}
