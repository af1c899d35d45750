package order_test

import (
	"math/rand"
	"slices"
	"testing"

	"namedesk/api"
	"namedesk/order"
)

// oracleRuns returns the bounds of the runs of l: an index is the first or the last one of a run by what
// is beside it.
func oracleRuns(l []int) []int {
	var bounds []int
	for i, c := range l {
		if classOf(c) != 0 && (i == 0 || classOf(l[i-1]) == 0) {
			bounds = append(bounds, i)
		}
		if classOf(c) != 0 && (i == len(l)-1 || classOf(l[i+1]) == 0) {
			bounds = append(bounds, i+1)
		}
	}
	return bounds
}

// oracleOrder puts each code point of a run at the index that is left by those that belong before it.
func oracleOrder(l []int) []int {
	want := slices.Clone(l)
	bounds := oracleRuns(l)
	for i := 0; i < len(bounds); i += 2 {
		from, to := bounds[i], bounds[i+1]
		for j := from; j < to; j++ {
			place := from
			for k := from; k < to; k++ {
				if classOf(l[k]) < classOf(l[j]) || classOf(l[k]) == classOf(l[j]) && k < j {
					place++
				}
			}
			want[place] = l[j]
		}
	}
	return want
}

// wantOracle compares all functions with the computation above.
func wantOracle(t *testing.T, tables api.Tables, l []int) {
	t.Helper()
	wantOrder(t, "oracle", tables, l, oracleOrder(l), oracleRuns(l))
}

// alphabet has two code points of the class 0 and two of one other class, so that it shows which is which.
var alphabet = []int{'a', 'b', first1, below220, below220b, above230}

// everyList calls visit with every list of at most size elements of the alphabet.
func everyList(size int, visit func([]int)) {
	var extend func(l []int)
	extend = func(l []int) {
		visit(l)
		if len(l) == size {
			return
		}
		for _, c := range alphabet {
			extend(append(slices.Clone(l), c))
		}
	}
	extend(nil)
}

func TestEveryShortList(t *testing.T) {
	tables, count := sample(), 0
	everyList(6, func(l []int) {
		count++
		wantOracle(t, tables, l)
	})
	if count != 55987 {
		t.Errorf("%d lists", count)
	}
}

func TestOrderTwice(t *testing.T) {
	tables := sample()
	everyList(5, func(l []int) {
		once, _ := order.Order(tables, l)
		twice, e := order.Order(tables, once)
		if !slices.Equal(once, twice) || e != api.OK || !order.Sorted(tables, once) {
			t.Errorf("Order(%#x) = %#x, and again %#x, %d", l, once, twice, e)
		}
	})
}

func TestNeighboursExchanged(t *testing.T) {
	tables, count := sample(), 0
	everyList(5, func(l []int) {
		want, _ := order.Order(tables, l)
		for i := 1; i < len(l); i++ {
			a, b := classOf(l[i-1]), classOf(l[i])
			if a == 0 || b == 0 || a == b {
				continue
			}
			count++
			exchanged := slices.Clone(l)
			exchanged[i-1], exchanged[i] = l[i], l[i-1]
			if got, e := order.Order(tables, exchanged); !slices.Equal(got, want) || e != api.OK {
				t.Errorf("Order(%#x) = %#x, %d, Order(%#x) = %#x", exchanged, got, e, l, want)
			}
		}
	})
	if count == 0 {
		t.Error("no neighbours were exchanged")
	}
}

func TestRandomLists(t *testing.T) {
	random := rand.New(rand.NewSource(61))
	tables := sample()
	marks := make([]int, 0, len(classes))
	for c := range classes {
		marks = append(marks, c)
	}
	slices.Sort(marks)
	for range 600 {
		l := make([]int, random.Intn(200))
		// From lists of letters to lists that are one run.
		percent := random.Intn(101)
		for i := range l {
			l[i] = 'a' + random.Intn(26)
			if random.Intn(100) < percent {
				l[i] = marks[random.Intn(len(marks))]
			}
		}
		wantOracle(t, tables, l)
	}
	long := make([]int, api.MaxRunes)
	for i := range long {
		long[i] = marks[random.Intn(len(marks))]
	}
	wantOracle(t, tables, long)
}
