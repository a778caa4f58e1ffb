package wait

import (
	"math"
	"math/big"
	"slices"
	"testing"
)

const (
	lowest  = math.MinInt
	highest = math.MaxInt
)

// noise tells numbers that look like no pattern, the same ones each time.
type noise uint32

func (n *noise) below(limit int) int {
	*n = *n*1664525 + 1013904223
	return int(uint32(*n)>>8) % limit
}

// waits and counts are numbers at the edges that the chapter names, and around them.
func waits() []int {
	return []int{lowest, lowest + 1, -1 << 20, -2, -1, 0, 1, 2, 3, 5, 7, 1000, 1<<19 - 1, 1 << 19, 1<<19 + 1, 1<<20 - 1, 1 << 20, 1<<20 + 1, 1 << 21, 1 << 40, 1 << 62, highest - 1, highest}
}

func counts() []int {
	l := []int{lowest, lowest + 1, -1 << 40, -64, -2, -1}
	for i := range 70 {
		l = append(l, i)
	}
	return append(l, 255, 256, 257, 1<<20, 1<<32, 1<<32+1, 1<<40, highest-1, highest)
}

// The chapter's words, said one by one, in numbers without a bound.

func after(wait, tried int) int {
	if wait < 1 || tried < 1 {
		return 0
	}
	// A number above 0 that was doubled a hundred times is above 2^20, however often it is doubled then.
	doubled := new(big.Int).Lsh(big.NewInt(int64(wait)), uint(min(tried-1, 100)))
	return atMost(doubled, 1<<20)
}

func until(all ...int) int {
	sum := new(big.Int)
	for _, n := range all {
		if n >= 0 {
			sum.Add(sum, big.NewInt(int64(n)))
		}
	}
	return atMost(sum, 1<<40)
}

func all(wait, tries int) int {
	if tries > 8 {
		tries = 8
	}
	sum := 0
	// One less than the lowest number would wrap round.
	for i := 1; i < tries; i++ {
		sum += after(wait, i)
	}
	return sum
}

func atMost(n *big.Int, most int64) int {
	if n.Cmp(big.NewInt(most)) > 0 {
		return int(most)
	}
	return int(n.Int64())
}

// The chapter's examples

func TestExamples(t *testing.T) {
	for _, c := range []struct {
		name      string
		got, want int
	}{
		{"After(3, 1)", After(3, 1), 3},
		{"After(3, 3)", After(3, 3), 12},
		{"After(3, 60)", After(3, 60), 1048576},
		{"Until(5, 3, -1)", Until(5, 3, -1), 8},
		{"Until(2^40, 1)", Until(1099511627776, 1), 1099511627776},
		{"All(3, 4)", All(3, 4), 3 + 6 + 12},
	} {
		if c.got != c.want {
			t.Errorf("%s = %d; want %d", c.name, c.got, c.want)
		}
	}
}

// P17.1

func TestAfterAtTheEdges(t *testing.T) {
	for _, c := range []struct{ wait, tried, want int }{
		{0, 0, 0}, {0, 1, 0}, {1, 0, 0}, {0, 5, 0}, {5, 0, 0},
		{-1, 1, 0}, {-1, 5, 0}, {1, -1, 0}, {5, -1, 0}, {-1, -1, 0}, {-3, -3, 0},
		{lowest, lowest, 0}, {lowest, 1, 0}, {1, lowest, 0},
		{lowest, highest, 0}, {highest, lowest, 0}, {0, highest, 0}, {highest, 0, 0},

		{1, 1, 1}, {1, 2, 2}, {1, 3, 4}, {1, 19, 1 << 18}, {1, 20, 524288},
		{1, 21, 1048576}, {1, 22, 1048576}, {1, 60, 1048576}, {1, 63, 1048576}, {1, 64, 1048576},
		{1, 65, 1048576}, {1, 66, 1048576}, {1, highest, 1048576},

		{3, 2, 6}, {3, 19, 786432}, {3, 20, 1048576}, {3, 64, 1048576}, {5, 4, 40},

		{524287, 1, 524287}, {524287, 2, 1048574}, {524287, 3, 1048576},
		{524288, 1, 524288}, {524288, 2, 1048576}, {524289, 2, 1048576},
		{1048575, 1, 1048575}, {1048575, 2, 1048576}, {1048575, highest, 1048576},
		{1048576, 1, 1048576}, {1048576, 2, 1048576}, {1048576, 22, 1048576}, {1048576, highest, 1048576},
		{1048577, 1, 1048576}, {1048577, 2, 1048576}, {1048577, 60, 1048576},

		// Doubled in an int, these would be below 0, or 0.
		{1 << 62, 1, 1048576}, {1 << 62, 2, 1048576}, {1 << 62, 3, 1048576}, {1 << 40, 25, 1048576},
		{highest, 1, 1048576}, {highest, 2, 1048576}, {highest, 64, 1048576}, {highest, highest, 1048576},
	} {
		if got := After(c.wait, c.tried); got != c.want {
			t.Errorf("After(%d, %d) = %d; want %d", c.wait, c.tried, got, c.want)
		}
	}
}

func TestAfterIsAsWritten(t *testing.T) {
	for _, wait := range waits() {
		for _, tried := range counts() {
			if got, want := After(wait, tried), after(wait, tried); got != want {
				t.Errorf("After(%d, %d) = %d; want %d", wait, tried, got, want)
			}
		}
	}
	var n noise = 17
	for range 200000 {
		wait, tried := n.below(1<<n.below(23)+1), n.below(26)
		if got, want := After(wait, tried), after(wait, tried); got != want {
			t.Fatalf("After(%d, %d) = %d; want %d", wait, tried, got, want)
		}
	}
}

// P17.2

// sums are now with the parts behind it.
func sums() [][]int {
	const most = 1 << 40
	return [][]int{
		{0}, {1}, {5}, {-1}, {-5}, {lowest}, {most - 1}, {most}, {most + 1}, {highest},
		{0, 0}, {0, 1}, {1, 0}, {0, -1}, {-1, 0}, {-1, -1}, {-1, 1}, {1, -1}, {-7, 7}, {7, -7}, {5, 3}, {5, 3, -1},
		{5, lowest}, {lowest, 5}, {lowest, lowest}, {lowest, highest}, {highest, lowest},
		{-3, -2, -1, 0, 1, 2, 3}, {0, 1, 2, 3, 4, 5, 6, 7},

		{most - 1, 0}, {most - 1, 1}, {most - 1, 2}, {most - 1, -1}, {most - 1, -1, 1}, {most - 2, 1}, {most - 2, 1, 1}, {most - 2, 1, 1, 1},
		{most, 0}, {most, 1}, {most, -1}, {most, lowest}, {most + 1, -1}, {most + 1, lowest}, {most, most},
		{0, most - 1}, {0, most}, {0, most + 1}, {1, most - 1}, {1, most}, {-1, most}, {-1, most - 1},
		{1 << 39, 1<<39 - 1}, {1 << 39, 1 << 39}, {1 << 39, 1<<39 + 1}, {1 << 39, 1 << 38, 1 << 38}, {1 << 39, 1 << 38, 1<<38 + 1},
		{0, 1 << 20, 1 << 20}, {most - 1<<20, 1 << 20}, {most - 1<<20, 1 << 20, 1},

		// In an int, the sums of these would be below 0, 0 or small.
		{highest, 1}, {1, highest}, {0, highest}, {highest, highest}, {highest, highest, 2}, {1 << 62, 1 << 62},
		{1 << 62, 1 << 62, 1 << 62, 1 << 62}, {1, 1 << 62, 1 << 62, 1 << 62, 1 << 62}, {5, highest, highest, 2, 3}, {most - 1, highest, highest},
		{highest, highest, highest, highest}, {highest, -1, highest, lowest}, {0, highest, 0, lowest, highest, -1},
	}
}

func TestUntilAtTheEdges(t *testing.T) {
	const most = 1099511627776
	for _, c := range []struct {
		now   int
		parts []int
		want  int
	}{
		{0, nil, 0}, {0, []int{}, 0}, {7, nil, 7}, {-7, nil, 0}, {lowest, nil, 0},
		{most - 1, nil, most - 1}, {most, nil, most}, {most + 1, nil, most}, {highest, nil, most},

		{5, []int{0}, 5}, {5, []int{3}, 8}, {5, []int{-3}, 5}, {5, []int{lowest}, 5}, {-5, []int{3}, 3}, {lowest, []int{3}, 3},
		{0, []int{1}, 1}, {0, []int{most - 1}, most - 1}, {0, []int{most}, most}, {0, []int{most + 1}, most}, {0, []int{highest}, most},

		{most - 1, []int{0}, most - 1}, {most - 1, []int{-1}, most - 1}, {most - 1, []int{1}, most}, {most - 1, []int{2}, most},
		{most, []int{-1}, most}, {most + 1, []int{-1}, most}, {most, []int{1}, most}, {most, []int{lowest}, most},

		{1, []int{2, 3, 4, 5, 6, 7, 8, 9}, 45}, {1, []int{-2, 3, -4, 5, 0, -6}, 9}, {-1, []int{-2, -3}, 0},
		{1 << 39, []int{1 << 38, 1<<38 - 1}, most - 1}, {1 << 39, []int{1 << 38, 1 << 38}, most}, {1 << 39, []int{1 << 38, 1<<38 + 1}, most},
		{1 << 39, []int{1 << 38, 1<<38 + 1, -5}, most},

		{highest, []int{1}, most}, {1, []int{highest}, most}, {highest, []int{highest}, most}, {highest, []int{highest, 2}, most},
		{5, []int{highest, highest, 2, 3}, most}, {0, []int{1 << 62, 1 << 62, 1 << 62, 1 << 62}, most}, {3, []int{highest, lowest}, most},
	} {
		if got := Until(c.now, c.parts...); got != c.want {
			t.Errorf("Until(%d, %v...) = %d; want %d", c.now, c.parts, got, c.want)
		}
	}
	if got := Until(9); got != 9 {
		t.Errorf("Until(9) = %d", got)
	}
}

func TestUntilOfManyParts(t *testing.T) {
	ones := slices.Repeat([]int{1}, 100000)
	great := slices.Repeat([]int{highest}, 1000)
	half := slices.Repeat([]int{1 << 20}, 1<<20)
	for _, c := range []struct {
		name  string
		now   int
		parts []int
		want  int
	}{
		{"ones", 5, ones, 100005},
		{"ones below", 1<<40 - 100001, ones, 1<<40 - 1},
		{"ones up to the end", 1<<40 - 100000, ones, 1 << 40},
		{"ones beyond", 1<<40 - 99999, ones, 1 << 40},
		{"the greatest numbers", 0, great, 1 << 40},
		{"2^20 times 2^20", 0, half, 1 << 40},
		{"2^20 times 2^20, but one", 0, half[1:], 1<<40 - 1<<20},
		{"the lowest numbers", 6, slices.Repeat([]int{lowest}, 1000), 6},
	} {
		if got := Until(c.now, c.parts...); got != c.want {
			t.Errorf("%s: %d; want %d", c.name, got, c.want)
		}
	}
}

func TestUntilIsAsWritten(t *testing.T) {
	for _, l := range sums() {
		if got, want := Until(l[0], l[1:]...), until(l...); got != want {
			t.Errorf("Until(%v...) = %d; want %d", l, got, want)
		}
	}
	edges := []int{lowest, -1 << 40, -1, 0, 1, 2, 1 << 20, 1<<39 - 1, 1 << 39, 1<<40 - 2, 1<<40 - 1, 1 << 40, 1<<40 + 1, 1 << 62, highest - 1, highest}
	var n noise = 2
	for range 200000 {
		l := make([]int, 1+n.below(6))
		for i := range l {
			l[i] = edges[n.below(len(edges))]
		}
		if got, want := Until(l[0], l[1:]...), until(l...); got != want {
			t.Fatalf("Until(%v...) = %d; want %d", l, got, want)
		}
	}
}

// P17.3

func TestAllAtTheEdges(t *testing.T) {
	for _, c := range []struct{ wait, tries, want int }{
		{3, lowest, 0}, {3, -1, 0}, {3, 0, 0}, {3, 1, 0}, {highest, 1, 0}, {highest, lowest, 0},
		{3, 2, 3}, {3, 3, 9}, {3, 4, 21}, {3, 5, 45}, {3, 6, 93}, {3, 7, 189}, {3, 8, 381},
		{3, 9, 381}, {3, 10, 381}, {3, 256, 381}, {3, 1 << 40, 381}, {3, highest - 1, 381}, {3, highest, 381},

		{0, 8, 0}, {-1, 8, 0}, {lowest, 8, 0}, {0, highest, 0}, {-3, 2, 0}, {lowest, lowest, 0}, {lowest, highest, 0},
		{1, 1, 0}, {1, 2, 1}, {1, 3, 3}, {1, 8, 127}, {1, 9, 127}, {1, highest, 127},

		{1<<20 - 1, 2, 1048575}, {1<<20 - 1, 3, 1048575 + 1048576}, {1<<20 - 1, 8, 7*1048576 - 1},
		{1 << 20, 1, 0}, {1 << 20, 2, 1048576}, {1 << 20, 3, 2 * 1048576}, {1 << 20, 8, 7 * 1048576}, {1 << 20, 9, 7 * 1048576}, {1 << 20, highest, 7 * 1048576},
		{1<<20 + 1, 2, 1048576}, {1<<20 + 1, 8, 7 * 1048576},
		{highest, 2, 1048576}, {highest, 8, 7 * 1048576}, {highest, 9, 7 * 1048576}, {highest, highest, 7 * 1048576}, {1 << 62, highest, 7 * 1048576},
		{1 << 17, 8, 1<<17 + 1<<18 + 1<<19 + 4*1048576},
	} {
		if got := All(c.wait, c.tries); got != c.want {
			t.Errorf("All(%d, %d) = %d; want %d", c.wait, c.tries, got, c.want)
		}
	}
}

func TestAllIsAsWritten(t *testing.T) {
	for _, wait := range waits() {
		for _, tries := range counts() {
			if got, want := All(wait, tries), all(wait, tries); got != want {
				t.Errorf("All(%d, %d) = %d; want %d", wait, tries, got, want)
			}
		}
	}
	var n noise = 3
	for range 100000 {
		wait, tries := n.below(1<<n.below(23)+1), n.below(11)
		if got, want := All(wait, tries), all(wait, tries); got != want {
			t.Fatalf("All(%d, %d) = %d; want %d", wait, tries, got, want)
		}
	}
}

// P17.4

func TestAfterDoesNotFall(t *testing.T) {
	rises := func(name string, l []int, f func(int) int) {
		for i := 1; i < len(l); i++ {
			if a, b := f(l[i-1]), f(l[i]); a > b {
				t.Errorf("After falls from %d to %d as %s rises from %d to %d", a, b, name, l[i-1], l[i])
			}
		}
	}
	for _, tried := range counts() {
		rises("wait", waits(), func(wait int) int { return After(wait, tried) })
	}
	for _, wait := range waits() {
		rises("tried", counts(), func(tried int) int { return After(wait, tried) })
	}
}

// Behind the first failure there is a wait at all, so twice what it was is asked from the second one on.
func TestAfterIsAtMostTwiceWhatItWas(t *testing.T) {
	for _, wait := range waits() {
		for _, tried := range counts() {
			if tried < 2 {
				continue
			}
			if now, was := After(wait, tried), After(wait, tried-1); now > 2*was {
				t.Errorf("After(%d, %d) = %d, and %d behind one failure less", wait, tried, now, was)
			}
		}
	}
}

func TestUntilIsAtLeastEachPart(t *testing.T) {
	for _, l := range sums() {
		got := Until(l[0], l[1:]...)
		for _, n := range l {
			if got < min(n, 1<<40) {
				t.Errorf("Until(%v...) = %d, less than %d", l, got, n)
			}
		}
		if got < 0 || got > 1<<40 {
			t.Errorf("Until(%v...) = %d, out of bounds", l, got)
		}
	}
}

// orders calls f with the list in each of its orders.
func orders(l []int, f func([]int)) {
	var lay func(row, rest []int)
	lay = func(row, rest []int) {
		if len(rest) == 0 {
			f(row)
		}
		for i, n := range rest {
			lay(append(slices.Clone(row), n), slices.Delete(slices.Clone(rest), i, i+1))
		}
	}
	lay(nil, l)
}

func TestUntilHangsOnNoOrder(t *testing.T) {
	for _, l := range sums() {
		want := until(l...)
		orders(l[:min(len(l), 6)], func(row []int) {
			row = append(row, l[len(row):]...)
			if got := Until(row[0], row[1:]...); got != want {
				t.Errorf("Until(%v...) = %d; want %d", row, got, want)
			}
		})
	}
}

// The rules, and P1

// R4: parts stay as they were, also behind the end of the list.
func TestNoPartIsChanged(t *testing.T) {
	for _, l := range sums() {
		for size := range len(l) {
			whole := slices.Clone(l)
			parts := whole[1 : 1+size]
			first := Until(l[0], parts...)
			again := Until(l[0], parts...)
			if !slices.Equal(whole, l) {
				t.Errorf("Until(%d, %v...) made %v of %v", l[0], parts, whole, l)
			}
			if first != again {
				t.Errorf("Until(%d, %v...) = %d, then %d", l[0], parts, first, again)
			}
		}
	}
}

// R1: no call hangs on what was called ahead of it.
func TestNothingIsKept(t *testing.T) {
	calls := func() []int {
		return []int{After(3, 3), Until(5, 3, -1), All(3, 4), After(highest, highest), Until(highest, highest), All(highest, highest), After(-1, -1), Until(-1), All(-1, -1)}
	}
	first := calls()
	if want := []int{12, 8, 21, 1 << 20, 1 << 40, 7 << 20, 0, 0, 0}; !slices.Equal(first, want) {
		t.Errorf("%v; want %v", first, want)
	}
	for range 3 {
		if again := calls(); !slices.Equal(again, first) {
			t.Errorf("%v, then %v", first, again)
		}
	}
}

// R3: a nil list counts as an empty one.
func TestNilAndNoParts(t *testing.T) {
	for _, now := range append(waits(), counts()...) {
		none, null, empty := Until(now), Until(now, nil...), Until(now, []int{}...)
		if none != null || none != empty || none != until(now) {
			t.Errorf("Until(%d): %d, %d, %d", now, none, null, empty)
		}
	}
}

// P1: at all arguments every call ends and none panics; each answer lies within its bounds.
func TestEveryCallEndsWithinItsBounds(t *testing.T) {
	numbers := append(waits(), counts()...)
	for _, a := range numbers {
		for _, b := range numbers {
			if n := After(a, b); n < 0 || n > 1<<20 {
				t.Errorf("After(%d, %d) = %d", a, b, n)
			}
			if n := All(a, b); n < 0 || n > 7<<20 {
				t.Errorf("All(%d, %d) = %d", a, b, n)
			}
			if n := Until(a, b, a, b); n < 0 || n > 1<<40 {
				t.Errorf("Until(%d, %d, %d, %d) = %d", a, b, a, b, n)
			}
		}
	}
}
