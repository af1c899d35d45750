package puny

import "namedesk/api"

// The form of numbers.
const (
	base           = 36 // the number of digits
	leastThreshold = 1
	mostThreshold  = 26
	letters        = 26        // the digits below it are letters, the others are 0 to 9
	maxNumber      = 1<<31 - 1 // the greatest number that is read
)

// threshold returns the least value of digit j that another digit follows.
func threshold(j, bias int) int {
	return min(max(base*(j+1)-bias, leastThreshold), mostThreshold)
}

// appendNumber appends the digits of a number to b.
func appendNumber(b []byte, number, bias int) []byte {
	for j := 0; ; j++ {
		t := threshold(j, bias)
		if number < t {
			return append(b, digit(number))
		}
		// The values from t on are those of a digit that another one follows: as many as the weight
		// of the next digit is greater than that of this one.
		number -= t
		b = append(b, digit(t+number%(base-t)))
		number /= base - t
	}
}

// readNumber returns the number whose digits are the first bytes of s, and how many they are.
func readNumber(s string, bias int) (number, size int, e api.Errno) {
	// The size comes first: a number that is not complete is that also where its digits exceed the limit.
	size, complete := sizeOfNumber(s, bias)
	if !complete {
		return 0, 0, api.ErrPuny
	}
	weight := 1
	for j := range size {
		value, _ := digitValue(s[j])
		if value > (maxNumber-number)/weight {
			return 0, 0, api.ErrOverflow
		}
		number += value * weight
		weight = nextWeight(weight, base-threshold(j, bias))
	}
	return number, size, api.OK
}

// sizeOfNumber returns how many of the first bytes of s are the digits of a number, and false if one of
// them is not a digit or s ends before the last one.
func sizeOfNumber(s string, bias int) (int, bool) {
	for j := range len(s) {
		value, found := digitValue(s[j])
		if !found {
			return 0, false
		}
		if value < threshold(j, bias) {
			return j + 1, true
		}
	}
	return 0, false
}

// nextWeight returns weight * factor. All weights above maxNumber are the same one, since they permit
// only the digit 0.
func nextWeight(weight, factor int) int {
	if weight > maxNumber/factor {
		return maxNumber + 1
	}
	return weight * factor
}

// digit returns the digit for a value from 0 to 35.
func digit(value int) byte {
	if value < letters {
		return byte('a' + value)
	}
	return byte('0' + value - letters)
}

// digitValue returns the value of a digit, and false if b is not a digit.
func digitValue(b byte) (int, bool) {
	switch {
	case b >= 'a' && b <= 'z':
		return int(b - 'a'), true
	case b >= 'A' && b <= 'Z':
		return int(b - 'A'), true
	case b >= '0' && b <= '9':
		return int(b-'0') + letters, true
	default:
		return 0, false
	}
}
