package bidi_test

import (
	"math/rand"
	"regexp"
	"slices"
	"strings"
	"testing"

	"namedesk/api"
	"namedesk/bidi"
	"namedesk/table"
)

// The conditions of the chapter as expressions over the letters of classes: what labels that violate them look like.
var conditions = []*regexp.Regexp{
	regexp.MustCompile(`^[^LRA]`),
	regexp.MustCompile(`^[RA].*[LX]`),
	regexp.MustCompile(`^[RA].*[^RAENM]M*$`),
	regexp.MustCompile(`^[RA](.*E.*N|.*N.*E)`),
	regexp.MustCompile(`^L.*[RANX]`),
	regexp.MustCompile(`^L.*[^LEM]M*$`),
}

// violatedBy returns the number of the first condition that a label with these letters violates, and 0 if it violates
// none, or is empty.
func violatedBy(text string) int {
	return 1 + slices.IndexFunc(conditions, func(condition *regexp.Regexp) bool { return condition.MatchString(text) })
}

// domainOf returns the results of Domain for labels with these letters.
func domainOf(texts []string) (int, api.Errno) {
	at := slices.IndexFunc(texts, func(text string) bool { return violatedBy(text) != 0 })
	if at < 0 || !slices.ContainsFunc(texts, isRightToLeft) {
		return 0, api.OK
	}
	return at, api.ErrBidi
}

// everyList calls visit with every list of at most size elements of an alphabet. It changes the list afterwards.
func everyList(alphabet []string, size int, visit func([]string)) {
	var list []string
	var extend func()
	extend = func() {
		visit(list)
		if len(list) == size {
			return
		}
		for _, element := range alphabet {
			list = append(list, element)
			extend()
			list = list[:len(list)-1]
		}
	}
	extend()
}

func TestOracle(t *testing.T) {
	for _, texts := range []map[int][]string{violations, several} {
		for want, of := range texts {
			for _, text := range of {
				if got := violatedBy(text); got != want {
					t.Errorf("violatedBy(%q) = %d, want %d", text, got, want)
				}
			}
		}
	}
}

func TestEveryShortLabel(t *testing.T) {
	// Only what bears on the rule, because each call looks at all of it.
	tables, count := bidiOnly(sample().Bidi...), 0
	var found [7]int
	everyList(strings.Split(letters, ""), 4, func(list []string) {
		text := strings.Join(list, "")
		l := variant(text, count)
		count++
		found[violatedBy(text)]++
		wantRTL(t, text, tables, l, isRightToLeft(text))
		wantRule(t, text, tables, l, violatedBy(text))
	})
	if count != 1+12+144+1728+20736 || slices.Contains(found[:], 0) {
		t.Errorf("%d labels, %d by their violations", count, found)
	}
}

func TestEveryFewLabels(t *testing.T) {
	tables := bidiOnly(sample().Bidi...)
	accepted, refused := 0, 0
	everyList([]string{"", "L", "LE", "LM", "R", "AN", "RE", "E", "M", "N", "RL", "AX", "RO", "REN", "LR", "LX", "LO", "NLR"}, 3, func(texts []string) {
		at, e := domainOf(texts)
		if e == api.OK {
			accepted++
		} else {
			refused++
		}
		wantDomain(t, "few labels", tables, labels(texts), at, e)
	})
	if accepted+refused != 1+18+324+5832 || accepted < 800 {
		t.Errorf("%d are accepted, %d are refused", accepted, refused)
	}
}

// randomText returns a text that violates no condition as it stands, but perhaps now and then one of its letters does.
func randomText(random *rand.Rand, size, oneIn int) string {
	if size == 0 {
		return ""
	}
	usual, ends := []string{"LESCTOBM", "RAESCTOBM", "RANSCTOBM"}, []string{"LE", "RAE", "RAN"}
	which := random.Intn(len(usual))
	text := make([]byte, size)
	marks := random.Intn(size)
	for i := range text {
		switch {
		case random.Intn(oneIn) == 0:
			text[i] = letters[random.Intn(len(letters))]
		case i == 0:
			text[i] = []string{"LL", "RA", "RA"}[which][random.Intn(2)]
		case i >= size-marks:
			text[i] = 'M'
		case i == size-marks-1:
			text[i] = ends[which][random.Intn(len(ends[which]))]
		default:
			text[i] = usual[which][random.Intn(len(usual[which]))]
		}
	}
	return string(text)
}

func TestRandomLabels(t *testing.T) {
	random := rand.New(rand.NewSource(161))
	var found [7]int
	for i := range 3000 {
		size := random.Intn([]int{8, 60, 400, most}[i%4] + 1)
		text := randomText(random, size, []int{10, 1000, 1 << 30}[random.Intn(3)])
		l := make([]int, 0, size)
		for at := range size {
			points := pointsOf(text[at])
			l = append(l, points[random.Intn(len(points))])
		}
		found[violatedBy(text)]++
		wantRTL(t, "random label", sample(), l, isRightToLeft(text))
		wantRule(t, "random label", sample(), l, violatedBy(text))
	}
	if slices.Min(found[:]) < 20 || found[0] < 1000 {
		t.Errorf("%d labels by their violations", found)
	}
}

func TestRandomLists(t *testing.T) {
	random := rand.New(rand.NewSource(162))
	accepted, refused := 0, 0
	for i := range 3000 {
		texts := make([]string, random.Intn([]int{4, 20, 130}[i%3]+1))
		oneIn := []int{10, 1000, 1 << 30}[random.Intn(3)]
		for j := range texts {
			texts[j] = randomText(random, random.Intn(12), oneIn)
		}
		at, e := domainOf(texts)
		if e == api.OK {
			accepted++
		} else {
			refused++
		}
		wantDomain(t, "random labels", sample(), labels(texts), at, e)
	}
	if accepted < 500 || refused < 500 {
		t.Errorf("%d are accepted, %d are refused", accepted, refused)
	}
}

// randomRows returns rows of random classes for the code points from 0x590 to 0x5AF, not all of them valid.
func randomRows(random *rand.Rand) spans {
	var rows spans
	for c := 0x590 + random.Intn(3); c <= 0x5AF; {
		last := min(c+random.Intn(4), 0x5AF)
		rows = append(rows, span(c, last, random.Intn(len(letters))))
		c = last + 1 + random.Intn(3)
	}
	if random.Intn(4) == 0 {
		rows[random.Intn(len(rows))].Value = []int{-1, len(letters)}[random.Intn(2)]
	}
	return rows
}

// textIn looks at each row for each code point, one after the other.
func textIn(rows spans, l []int) string {
	text := make([]byte, 0, len(l))
	for _, c := range l {
		letter := byte('L')
		for _, s := range rows {
			if s.From <= c && c <= s.To {
				letter = letters[s.Value]
			}
		}
		text = append(text, letter)
	}
	return string(text)
}

func TestRandomTables(t *testing.T) {
	random := rand.New(rand.NewSource(163))
	wellFormed, others := 0, 0
	for range 6000 {
		tables := bidiOnly(randomRows(random)...)
		all, texts := make([][]int, 1+random.Intn(3)), []string{}
		for i := range all {
			all[i] = make([]int, random.Intn(6))
			for j := range all[i] {
				all[i][j] = 0x58F + random.Intn(0x22)
			}
		}
		if table.Check(tables) != 0 {
			others++
			wantRefused(t, "random tables", tables, all[0], api.ErrTable)
			wantDomain(t, "random tables", tables, all, 0, api.ErrTable)
			continue
		}
		wellFormed++
		for _, l := range all {
			text := textIn(tables.Bidi, l)
			texts = append(texts, text)
			wantRTL(t, text, tables, l, isRightToLeft(text))
			wantRule(t, text, tables, l, violatedBy(text))
		}
		at, e := domainOf(texts)
		wantDomain(t, "random tables", tables, all, at, e)
	}
	if wellFormed < 1000 || others < 500 {
		t.Errorf("%d tables are well-formed, %d are not", wellFormed, others)
	}
}

// Domain gives what RTL and Rule say about each label.
func TestDomainAgreesWithRTLAndRule(t *testing.T) {
	random := rand.New(rand.NewSource(164))
	for range 1000 {
		all := make([][]int, random.Intn(5))
		hasRTL, first := false, -1
		for i := range all {
			all[i] = variant(randomText(random, random.Intn(5), 8), random.Intn(10))
			hasRTL = bidi.RTL(sample(), all[i]) || hasRTL
			if condition, _ := bidi.Rule(sample(), all[i]); condition != 0 && first < 0 {
				first = i
			}
		}
		if hasRTL && first >= 0 {
			wantDomain(t, "agrees", sample(), all, first, api.ErrBidi)
		} else {
			wantDomain(t, "agrees", sample(), all, 0, api.OK)
		}
	}
}
