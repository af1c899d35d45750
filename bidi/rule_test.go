package bidi_test

import (
	"strings"
	"testing"

	"namedesk/api"
)

// violations are texts of labels by the number of the condition that is the first one that they violate.
var violations = map[int][]string{
	0: {
		"", "L", "LL", "LE", "LEE", "LEL", "LSL", "LCL", "LTL", "LOL", "LBL", "LML", "LSE", "LCE", "LTE", "LOE", "LBE", "LME", "LESCTOBML", "LESCTOBME",
		"LM", "LMM", "LEM", "LEMM", "LOLM", "LMOEMM", "LESCTOBMLMMMM",
		"R", "RR", "RA", "RE", "RN", "RSR", "RCR", "RTR", "ROR", "RBR", "RMR", "RSA", "RCN", "RTE", "ROE", "RBN", "RER", "RNR", "REA", "RNA", "REE", "RNN",
		"RM", "RMM", "REM", "RNM", "RAMM", "ROEMM", "RMNM", "RASCTOBMER", "RASCTOBMNA", "RASCTOBMEM",
		"A", "AA", "AR", "AE", "AN", "ASA", "ACA", "ATR", "AOE", "ABN", "AMA", "AER", "ANR", "AEE", "ANN", "AM", "AMM", "AEM", "ANMM", "AMOREM", "ARSCTOBMNM",
	},
	1: {
		"N", "E", "S", "C", "T", "O", "B", "M", "X", "NN", "EE", "MM", "MMM", "XX", "NR", "ER", "SR", "CR", "TR", "OR", "BR", "MR", "XR", "NL", "EL", "SL",
		"CL", "TL", "OL", "BL", "ML", "XL", "NA", "EA", "MA", "ENR", "NER", "MRM", "MLM", "ELM", "SRE", "OLE", "MRL", "MREN", "XLRO",
	},
	2: {
		"RL", "RX", "AL", "AX", "RLR", "RXR", "ALA", "AXA", "RLE", "RXN", "ALN", "AXE", "RRRL", "RRRX", "RELR", "RNXR", "RLLLR", "RALXA", "ALM", "RXMM",
		"RLLL", "RMLMRM", "AMXME", "RSCTOBELR", "ANMXM",
	},
	3: {
		"RS", "RC", "RT", "RO", "RB", "AS", "AC", "AT", "AO", "AB", "RSM", "RCMM", "RTM", "ROMMM", "RBM", "ASMM", "ACM", "ATM", "AOM", "ABMM", "RES", "RNO",
		"RRB", "AAT", "AREC", "RMO", "RSCTOB", "ROMOM", "RREMTM",
	},
	4: {
		"REN", "RNE", "AEN", "ANE", "RENR", "RNER", "RERN", "RNRE", "AENA", "ANEA", "RRREN", "RRRNE", "RENM", "RNEMM", "RMEMNM", "RSECNTR", "ANOBER",
		"REEEEN", "RNNNNE", "AEAAANA", "RENEN", "RNENE",
	},
	5: {
		"LR", "LA", "LN", "LX", "LRL", "LAL", "LNL", "LXL", "LRE", "LAE", "LNE", "LXE", "LLLR", "LLLA", "LLLN", "LLLX", "LEEN", "LENE", "LRRRL", "LXM", "LMRML",
		"LSCTOBRE", "LLNLM",
	},
	6: {
		"LS", "LC", "LT", "LO", "LB", "LSM", "LCMM", "LTM", "LOMMM", "LBM", "LES", "LEC", "LLT", "LEO", "LLB", "LLLS", "LESCTOB", "LMO", "LOMOM", "LMBM", "LELOM",
	},
}

// several are texts of labels that violate several conditions, by the number of the first one of these.
var several = map[int][]string{
	1: {"MLR", "EX", "NOX", "NE", "ENO", "OO", "XRL", "NLER", "MMLO"},
	2: {"RLO", "RXO", "ALB", "RLEN", "RXNE", "AENL", "ANEX", "RENX", "RLENO", "AXNES", "RENLO", "ALS", "RLOM", "RNELCMM", "RLS", "RXT", "AXC", "RLX", "AXL"},
	3: {"RENO", "RNES", "AENB", "ANETM", "RENCMM", "AOENO", "REMNMSM"},
	5: {"LRO", "LAB", "LNS", "LXC", "LXO", "LROM", "LNTMM", "LRAN", "LRXANO", "LENO", "LNEO"},
}

// wantRuleOfTexts compares the results for labels of several code points of the same classes.
func wantRuleOfTexts(t *testing.T, texts map[int][]string) {
	t.Helper()
	for want, of := range texts {
		for _, text := range of {
			for number := range 10 {
				wantRule(t, text, sample(), variant(text, number), want)
			}
		}
	}
}

// Promise 16.2: labels that violate none of the conditions, and each of them alone or before others.
func TestRule(t *testing.T) { wantRuleOfTexts(t, violations) }

// Promise 16.2: labels that violate several conditions.
func TestRuleOfSeveralConditions(t *testing.T) { wantRuleOfTexts(t, several) }

// Promise 16.2: a label without code points.
func TestRuleOfTheEmptyLabel(t *testing.T) {
	for _, tables := range []api.Tables{{}, sample(), bidiOnly(span(alef, alef, api.BidiR))} {
		wantRule(t, "no code points", tables, nil, 0)
		wantRule(t, "no code points, but memory", tables, []int{}, 0)
		wantRule(t, "no code points, but others behind it", tables, []int{alef, 'a'}[:0], 0)
	}
}

// The examples of the chapter and of DOC.md.
func TestExamples(t *testing.T) {
	tables := bidiOnly(span(0x5D0, 0x5D0, api.BidiR))
	wantRule(t, "the first example", tables, []int{0x5D0, 0x61}, 2)
	wantRule(t, "the second example", tables, []int{0x31}, 1)
	wantDomain(t, "the second example, alone", tables, [][]int{{0x31}}, 0, api.OK)
	wantDomain(t, "the second example, next to others", tables, [][]int{{0x61}, {0x31}}, 0, api.OK)
	wantDomain(t, "the second example, behind an RTL label", tables, [][]int{{0x5D0}, {0x31}}, 1, api.ErrBidi)
	wantDomain(t, "the second example, before an RTL label", tables, [][]int{{0x31}, {0x5D0}}, 0, api.ErrBidi)
	for c := 'a'; c <= 'z'; c++ {
		wantRule(t, "a letter from a to z behind letters from right to left", sample(), []int{alef, 0x5D1, int(c)}, 2)
		wantRule(t, "a letter from a to z between them", sample(), []int{alef, int(c), 0x5D1}, 2)
	}
}

// Promise 16.2, condition 1: each class as that of the first code point, before what is permitted behind others.
func TestFirstCodePointOfEachClass(t *testing.T) {
	for i := range letters {
		first := letters[i : i+1]
		for _, rest := range []string{"", "M", "E", "L", "R", "A", "N", "O", "X", "EM", "RR", "LL", "LE", "EN", "MMMM"} {
			if !strings.Contains("LRA", first) {
				for number := range 10 {
					wantRule(t, first+rest, sample(), variant(first+rest, number), 1)
				}
			}
		}
	}
}

// Promise 16.2, conditions 2 and 5: each class in the middle of a label that would violate none.
func TestMiddleCodePointOfEachClass(t *testing.T) {
	for i := range letters {
		middle := letters[i : i+1]
		fromRight, fromLeft := 0, 0
		if strings.Contains("LX", middle) {
			fromRight = 2
		}
		if strings.Contains("RANX", middle) {
			fromLeft = 5
		}
		for number := range 10 {
			wantRule(t, middle, sample(), variant("RO"+middle+"OR", number), fromRight)
			wantRule(t, middle, sample(), variant("AM"+middle+"SA", number), fromRight)
			wantRule(t, middle, sample(), variant("LO"+middle+"OL", number), fromLeft)
			wantRule(t, middle, sample(), variant("LE"+middle+"EM", number), fromLeft)
		}
	}
}

// Promise 16.2, conditions 3 and 6: each class as that of the last code point, before some with the class BidiNSM.
func TestLastCodePointOfEachClass(t *testing.T) {
	fromRight := map[string]int{"L": 2, "X": 2, "S": 3, "C": 3, "T": 3, "O": 3, "B": 3}
	fromLeft := map[string]int{"R": 5, "A": 5, "N": 5, "X": 5, "S": 6, "C": 6, "T": 6, "O": 6, "B": 6}
	for i := range letters {
		last := letters[i : i+1]
		for count := range 5 {
			end := last + strings.Repeat("M", count)
			for number := range 10 {
				wantRule(t, end, sample(), variant("R"+end, number), fromRight[last])
				wantRule(t, end, sample(), variant("AR"+end, number), fromRight[last])
				wantRule(t, end, sample(), variant("RO"+end, number), behindNeutral(last, 3, fromRight))
				wantRule(t, end, sample(), variant("L"+end, number), fromLeft[last])
				wantRule(t, end, sample(), variant("LE"+end, number), fromLeft[last])
				wantRule(t, end, sample(), variant("LO"+end, number), behindNeutral(last, 6, fromLeft))
			}
		}
	}
}

// behindNeutral returns what is violated if a neutral code point stands before the one with the class last: with
// the class BidiNSM, that one is not the last code point, but the neutral one is.
func behindNeutral(last string, ifNeutral int, otherwise map[string]int) int {
	if last == "M" {
		return ifNeutral
	}
	return otherwise[last]
}

// Promise 16.2: the label is looked at as it is given, not as order.Order returns it.
func TestOrderOfTheLabel(t *testing.T) {
	for _, row := range []struct {
		name string
		l    []int
		want int
	}{
		{"first R, then L, which Order would put first", []int{rightAbove, leftBelow}, 2},
		{"first L, then R", []int{leftBelow, rightAbove}, 5},
		{"first NSM, then L, which Order would put first", []int{grave, leftBelow}, 1},
		{"first L, then NSM", []int{leftBelow, grave}, 0},
		{"first R, then NSM, which Order would put first", []int{rightAbove, dot}, 0},
		{"first NSM, then R", []int{dot, rightAbove}, 1},
		{"first AN, then L, which Order would put first", []int{numberOver, leftBelow}, 1},
		{"first AN, then R, which stay", []int{numberOver, rightAbove}, 1},
		{"a label of R, and one of AN, which stay", []int{rightAbove, numberOver}, 0},
		{"R behind Other, which Order would put before it", []int{rightAbove, otherBelow}, 2},
		{"first Other", []int{otherBelow, rightAbove}, 1},
		{"marks that are not in order", []int{alef, grave, dot}, 0},
		{"marks that are not in order behind ON", []int{alef, '!', grave, dot}, 3},
		{"marks in order", []int{alef, dot, grave}, 0},
	} {
		wantRule(t, row.name, sample(), row.l, row.want)
	}
}

// Promise 16.2: code points without a row have the class BidiL, and ASCII has its fixed classes.
func TestRuleWithoutTables(t *testing.T) {
	for _, row := range []struct {
		name string
		l    []int
		want int
	}{
		{"letters", []int{'a', 'b', 'Z'}, 0},
		{"letters and digits", []int{'a', '1'}, 0},
		{"digits and letters", []int{'1', 'a'}, 1},
		{"letters with a hyphen", []int{'a', '-', 'b'}, 0},
		{"a hyphen first", []int{'-', 'a'}, 1},
		{"a hyphen last", []int{'a', '-'}, 6},
		{"a full stop last", []int{'a', '.'}, 6},
		{"a full stop between", []int{'a', '.', 'b'}, 0},
		{"a space between", []int{'a', ' ', 'b'}, 5},
		{"a control character", []int{'a', 0x1F, 'b'}, 5},
		{"the last code point of ASCII", []int{'a', 0x7F}, 5},
		{"a sign last", []int{'a', '!'}, 6},
		{"a sign first", []int{'~', 'a'}, 1},
		{"code points without a row", []int{alef, beh, zero, grave, api.MaxRune, 0x80, 0xD7FF, 0xE000}, 0},
		{"Hangul", []int{0xAC00, 0x1100, 0xD7A3}, 0},
		{"a code point without a row, and a sign", []int{alef, '@'}, 6},
	} {
		wantRule(t, row.name, api.Tables{}, row.l, row.want)
	}
}

// Promise 16.2: each code point of ASCII, first, in the middle and last.
func TestRuleOfASCII(t *testing.T) {
	for c := range 0x80 {
		isLetter := c >= 'a' && c <= 'z' || c >= 'A' && c <= 'Z'
		isDigit := c >= '0' && c <= '9'
		isOther := c <= ' ' || c == 0x7F
		alone, last, middle, behindRight, betweenRight := 1, 6, 0, 3, 0
		switch {
		case isLetter:
			alone, last, behindRight, betweenRight = 0, 0, 2, 2
		case isDigit:
			last, behindRight = 0, 0
		case isOther:
			last, middle, behindRight, betweenRight = 5, 5, 2, 2
		}
		wantRule(t, "alone", sample(), []int{c}, alone)
		wantRule(t, "first", sample(), []int{c, 'a'}, alone)
		wantRule(t, "last", sample(), []int{'a', c}, last)
		wantRule(t, "in the middle", sample(), []int{'a', c, 'a'}, middle)
		wantRule(t, "behind R", sample(), []int{alef, c}, behindRight)
		wantRule(t, "behind AL", sample(), []int{beh, c}, behindRight)
		wantRule(t, "between R", sample(), []int{alef, c, alef}, betweenRight)
	}
}

// The consequence of the chapter: a label of letters a to z violates nothing.
func TestRuleOfLettersOfASCII(t *testing.T) {
	var l []int
	for i := range most {
		l = append(l, 'a'+i*7%26)
		if i < 100 || i == most-1 {
			wantRule(t, "letters", sample(), l, 0)
			wantRule(t, "letters without tables", api.Tables{}, l, 0)
			wantRTL(t, "letters", sample(), l, false)
		}
	}
}

// Promise 16.2: labels of MaxRunes elements, with one that decides at each of some places.
func TestRuleOfLongLabels(t *testing.T) {
	for i, only := range []int{0, 0, 0, 1, 1, 1, 1, 1, 1, 1, 1, 1} {
		wantRule(t, "only one class", sample(), repeat(pointsOf(letters[i])[0], most), only)
	}
	for _, at := range []int{1, 2, most / 2, most - 2, most - 1} {
		for _, row := range []struct {
			first  int
			letter byte
			want   int
		}{
			{alef, 'L', 2}, {alef, 'X', 2}, {beh, 'L', 2}, {beh, 'X', 2}, {alef, 'M', 0}, {alef, 'N', 0}, {beh, 'E', 0},
			{alpha, 'R', 5}, {alpha, 'A', 5}, {alpha, 'N', 5}, {alpha, 'X', 5}, {alpha, 'M', 0}, {alpha, 'E', 0},
		} {
			wantRule(t, "one of another class", sample(), with(repeat(row.first, most), at, pointsOf(row.letter)[0]), row.want)
		}
		wantRule(t, "another first one", sample(), with(with(repeat('1', most), 0, alef), at, zero), 4)
		wantRule(t, "another first one, other digits", sample(), with(with(repeat(zero, most), 0, beh), at, '1'), 4)
	}
	for _, row := range []struct {
		name string
		l    []int
		want int
	}{
		{"a hyphen last", longLabel(most, "S"), 6},
		{"a hyphen before marks", longLabel(most, "SMMMM"), 6},
		{"a hyphen, and a letter before marks", longLabel(most, "SLMMMM"), 0},
		{"L before many marks", join([]int{alpha}, repeat(grave, most-1)), 0},
		{"R before many marks", join([]int{alef}, repeat(grave, most-1)), 0},
		{"R and ON before many marks", join([]int{alef, '!'}, repeat(grave, most-2)), 3},
		{"L and ON before many marks", join([]int{alpha, '!'}, repeat(grave, most-2)), 6},
		{"L, many ON, and EN", join([]int{alpha}, repeat('!', most-2), []int{'1'}), 0},
		{"R, many ON, and EN", join([]int{alef}, repeat('!', most-2), []int{'1'}), 0},
		{"R, many ON", join([]int{alef}, repeat('!', most-1)), 3},
		{"EN second and AN last", join([]int{alef, '1'}, repeat(alef, most-3), []int{zero}), 4},
		{"AN second and EN last", join([]int{alef, zero}, repeat(alef, most-3), []int{'1'}), 4},
		{"another class first", join([]int{'1'}, repeat(alef, most-1)), 1},
	} {
		if len(row.l) != most {
			t.Errorf("%s: %d elements", row.name, len(row.l))
		}
		wantRule(t, row.name, sample(), row.l, row.want)
	}
}

// Promise 16.2: tables with rows of each class, and the code points around them.
func TestRuleOfRows(t *testing.T) {
	behindRight := []int{2, 0, 0, 0, 0, 3, 3, 3, 3, 3, 0, 2}
	behindLeft := []int{0, 5, 5, 5, 0, 6, 6, 6, 6, 6, 0, 5}
	for class := range letters {
		tables := bidiOnly(span(alef, alef, api.BidiR), span(0x1000, 0x1010, class), span(0x20000, 0x20000, class))
		for _, c := range []int{0x1000, 0x1001, 0x1008, 0x100F, 0x1010, 0x20000} {
			wantRule(t, "in a row", tables, []int{alef, c}, behindRight[class])
			wantRule(t, "in a row", tables, []int{'a', c}, behindLeft[class])
		}
		for _, c := range []int{0xFFF, 0x1011, 0x1FFFF, 0x20001} {
			wantRule(t, "beside a row", tables, []int{alef, c}, 2)
			wantRule(t, "beside a row", tables, []int{'a', c}, 0)
		}
	}
}
