package table

import "namedesk/api"

// The ends of the ranges of reserved code points.
const (
	lastASCII      = 0x7F
	firstLeading   = 0x1100
	lastLeading    = 0x1112
	firstVowel     = 0x1161
	lastVowel      = 0x1175
	firstTrailing  = 0x11A8
	lastTrailing   = 0x11C2
	firstSyllable  = 0xAC00
	lastSyllable   = 0xD7A3
	firstSurrogate = 0xD800
	lastSurrogate  = 0xDFFF
)

// reserved contains the code points that tables say nothing about.
var reserved = [...]struct{ from, to int }{
	{0, lastASCII},
	{firstLeading, lastLeading},
	{firstVowel, lastVowel},
	{firstTrailing, lastTrailing},
	{firstSyllable, lastSyllable},
	{firstSurrogate, lastSurrogate},
}

// properties are the fixed properties of a reserved code point that may be other than 0.
type properties struct{ category, bidi, script, status int }

// fixedOf returns the fixed properties of c; without any, they are 0, as those of surrogates are.
func fixedOf(c int) properties {
	switch {
	case isLowerCase(c):
		return properties{api.Letter, api.BidiL, api.Latin, api.Valid}
	case isUpperCase(c):
		return properties{api.Letter, api.BidiL, api.Latin, api.Mapped}
	case isDigit(c):
		return properties{api.Digit, api.BidiEN, api.Common, api.Valid}
	case c == '-':
		return properties{api.Punctuation, api.BidiES, api.Common, api.Valid}
	case c == '.':
		return properties{api.Punctuation, api.BidiCS, api.Common, api.Valid}
	case c >= 0 && c < ' ' || c == lastASCII:
		return properties{api.Control, api.BidiOther, api.Common, api.Disallowed}
	case c == ' ':
		return properties{api.Separator, api.BidiOther, api.Common, api.Disallowed}
	case c > ' ' && c < lastASCII:
		return properties{api.Punctuation, api.BidiON, api.Common, api.Disallowed}
	case isSyllable(c):
		return properties{api.Letter, api.BidiL, api.Hangul, api.Valid}
	case isJamo(c):
		return properties{api.Letter, api.BidiL, api.Hangul, api.Disallowed}
	default:
		return properties{}
	}
}

func isLowerCase(c int) bool { return c >= 'a' && c <= 'z' }

func isUpperCase(c int) bool { return c >= 'A' && c <= 'Z' }

func isDigit(c int) bool { return c >= '0' && c <= '9' }

// lowerCase returns the letter from a to z for one from A to Z.
func lowerCase(c int) int { return c - 'A' + 'a' }

// isSyllable reports whether c is a Hangul syllable.
func isSyllable(c int) bool { return c >= firstSyllable && c <= lastSyllable }

// isJamo reports whether c is a conjoining jamo.
func isJamo(c int) bool {
	return c >= firstLeading && c <= lastLeading ||
		c >= firstVowel && c <= lastVowel ||
		c >= firstTrailing && c <= lastTrailing
}

func isReserved(c int) bool { return containsReserved(c, c) }

// isReservedForPrototypes reports whether c is reserved and not one of the code points that may have
// a prototype although they are: those of ASCII that names consist of.
func isReservedForPrototypes(c int) bool {
	return isReserved(c) && !isLowerCase(c) && !isDigit(c) && c != '-'
}

// containsReserved reports whether one of the code points from from to to is reserved.
func containsReserved(from, to int) bool {
	for _, r := range reserved {
		if from <= r.to && r.from <= to {
			return true
		}
	}
	return false
}
