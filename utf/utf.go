// Package utf: strict UTF-8 (doc/01-utf.md).
package utf

import "namedesk/api"

// Surrogates belong to UTF-16 only: they are code points, but no scalar values.
const (
	firstSurrogate = 0xD800
	lastSurrogate  = 0xDFFF
)

// Length returns the number of bytes of the encoding of c, and 0 if c is not a scalar value.
func Length(c int) int {
	switch {
	case c < 0 || c > api.MaxRune:
		return 0
	case c >= firstSurrogate && c <= lastSurrogate:
		return 0
	case c <= 0x7F:
		return 1
	case c <= 0x7FF:
		return 2
	case c <= 0xFFFF:
		return 3
	default:
		return 4
	}
}

// Decode returns the scalar values whose encodings, one after the other, are s. With ErrUTF, it
// returns the index of the first byte that does not belong to one of them.
func Decode(s string) ([]int, int, api.Errno) {
	if len(s) > api.MaxBytes {
		return nil, 0, api.ErrFull
	}
	l := make([]int, 0, len(s))
	for at := 0; at < len(s); {
		c, size := scalarAt(s, at)
		if size == 0 {
			return nil, at, api.ErrUTF
		}
		l = append(l, c)
		at += size
	}
	return l, 0, api.OK
}

// Encode returns the encodings of l, one after the other.
func Encode(l []int) (string, api.Errno) {
	if len(l) > api.MaxRunes {
		return "", api.ErrFull
	}
	b := make([]byte, 0, len(l))
	for _, c := range l {
		if Length(c) == 0 {
			return "", api.ErrRange
		}
		b = appendScalar(b, c)
	}
	return string(b), api.OK
}

// Valid reports whether Decode returns OK, apart from the limit MaxBytes.
func Valid(s string) bool {
	// Without the limit, s may be long: its scalar values are not collected as in Decode.
	for at := 0; at < len(s); {
		_, size := scalarAt(s, at)
		if size == 0 {
			return false
		}
		at += size
	}
	return true
}

// scalarAt returns the scalar value whose encoding begins at s[at], and the number of bytes of the
// encoding; the number is 0 if no complete encoding begins there.
func scalarAt(s string, at int) (c, size int) {
	c, size = splitFirstByte(s[at])
	if size == 0 || size > len(s)-at {
		return 0, 0
	}
	for _, b := range []byte(s[at+1 : at+size]) {
		if !isFurtherByte(b) {
			return 0, 0
		}
		c = c<<6 | int(b-0x80)
	}
	// One comparison refuses surrogates and numbers above MaxRune, which have no length, and
	// encodings that are longer than necessary, whose number has a smaller one.
	if Length(c) != size {
		return 0, 0
	}
	return c, size
}

// splitFirstByte returns the highest bits of a scalar value, which the first byte of its encoding
// holds, and the number of bytes of the encoding; the number is 0 if b begins no encoding.
func splitFirstByte(b byte) (bits, size int) {
	switch {
	case b < 0x80:
		return int(b), 1
	case isFurtherByte(b):
		return 0, 0
	case b < 0xE0:
		return int(b - 0xC0), 2
	case b < 0xF0:
		return int(b - 0xE0), 3
	case b < 0xF8:
		return int(b - 0xF0), 4
	default:
		return 0, 0
	}
}

// isFurtherByte reports whether b has the form of a byte after the first one of an encoding.
func isFurtherByte(b byte) bool { return b >= 0x80 && b < 0xC0 }

// appendScalar appends the encoding of the scalar value c to b.
func appendScalar(b []byte, c int) []byte {
	switch Length(c) {
	case 1:
		return append(b, byte(c))
	case 2:
		return append(b, byte(0xC0|c>>6), furtherByte(c))
	case 3:
		return append(b, byte(0xE0|c>>12), furtherByte(c>>6), furtherByte(c))
	default:
		return append(b, byte(0xF0|c>>18), furtherByte(c>>12), furtherByte(c>>6), furtherByte(c))
	}
}

// furtherByte returns the byte after the first one of an encoding that holds the last six bits of c.
func furtherByte(c int) byte { return byte(0x80 | c&0x3F) }
