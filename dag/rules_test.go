package dag

import (
	"slices"
	"testing"

	"penelope/api"
)

// P16.4

// behindNeeds tells whether each task stands once, behind all that it needs.
func behindNeeds(d api.Dag, l []int) bool {
	if len(l) != len(d.Tasks) {
		return false
	}
	stood := make([]bool, len(d.Tasks))
	for _, task := range l {
		if task < 0 || task >= len(stood) || stood[task] {
			return false
		}
		for _, need := range d.Tasks[task].Needs {
			if !stood[need] {
				return false
			}
		}
		stood[task] = true
	}
	return true
}

// rows calls f with all rows of so many tasks, each of which stands once.
func rows(tasks int, f func([]int)) {
	var lay func(row []int)
	lay = func(row []int) {
		if len(row) == tasks {
			f(row)
			return
		}
		for task := range tasks {
			if !slices.Contains(row, task) {
				lay(append(slices.Clone(row), task))
			}
		}
	}
	lay(nil)
}

// Of all rows in which each task stands behind its needs, the one that comes first is the one of the least free ones.
func TestOrderIsTheFirstRow(t *testing.T) {
	for tasks := 1; tasks <= 4; tasks++ {
		small(tasks, func(d api.Dag) {
			l, e := Order(d)
			var least []int
			rows(tasks, func(row []int) {
				if least == nil && behindNeeds(d, row) {
					least = slices.Clone(row)
				}
			})
			if !slices.Equal(l, least) || (e == api.OK) != (least != nil) {
				t.Fatalf("Order(%v) = %v, %d; want %v", d, l, e, least)
			}
		})
	}
}

func TestEachTaskStandsOnceBehindItsNeeds(t *testing.T) {
	mixedOnes(func(d api.Dag) {
		if l, e := Order(d); e != api.OK || !behindNeeds(d, l) {
			t.Fatalf("Order(%v) = %v, %d", d, l, e)
		}
	})
}

// whole tells whether each done task has all that it needs done.
func whole(d api.Dag, done []bool) bool {
	for i, t := range d.Tasks {
		for _, need := range t.Needs {
			if done[i] && !done[need] {
				return false
			}
		}
	}
	return true
}

func TestOneIsFreeUntilAllAreDone(t *testing.T) {
	hold := func(d api.Dag) {
		tasks := len(d.Tasks)
		for bits := range 1 << tasks {
			done := doneBy(bits, tasks)
			if !whole(d, done) {
				continue
			}
			l, e := Free(d, done)
			if e != api.OK || (len(l) > 0) != slices.Contains(done, false) {
				t.Fatalf("Free(%v, %v) = %v, %d", d, done, l, e)
			}
		}
	}
	for tasks := 1; tasks <= 4; tasks++ {
		small(tasks, func(d api.Dag) {
			if right(d) == api.OK {
				hold(d)
			}
		})
	}
	n := noise(4)
	for range 20 {
		hold(mixed(&n, 10))
	}
	hold(greatest())
}

// Whichever free one is done, all are done behind as many steps as there are tasks.
func TestDoingAnyFreeTaskComesToAll(t *testing.T) {
	n := noise(5)
	mixedOnes(func(d api.Dag) {
		done := make([]bool, len(d.Tasks))
		for range d.Tasks {
			l, e := Free(d, done)
			if e != api.OK || len(l) == 0 || !slices.IsSorted(l) {
				t.Fatalf("Free(%v, %v) = %v, %d", d, done, l, e)
			}
			done[l[n.below(len(l))]] = true
		}
		if l, e := Free(d, done); e != api.OK || len(l) != 0 {
			t.Fatalf("Free(%v) of all done: %v, %d", d, l, e)
		}
	})
}

func TestWhatIsPutIsGotAgain(t *testing.T) {
	longest := 0
	hold := func(d api.Dag) {
		s := mustPut(t, d)
		longest = max(longest, len(s))
		g, e := Get(s)
		if e != api.OK || !same(g, d) {
			t.Fatalf("%v: got %v, %d", d, g, e)
		}
		if again := mustPut(t, g); again != s {
			t.Fatalf("%v: put %x, then %x", d, s, again)
		}
	}
	mixedOnes(hold)
	hold(greatest())
	for _, c := range faults() {
		if c.want == api.OK {
			hold(c.d)
		}
	}
	if longest != len(mustPut(t, greatest())) || longest > api.MaxVal {
		t.Errorf("a graph has %d bytes", longest)
	}
}

// The rules, and P1

// roomy is a graph whose lists have room behind their ends, where a careless append would write.
func roomy() api.Dag {
	d := api.Dag{Name: "roomy", Tasks: make([]api.Task, 4, 12)}
	for i := range d.Tasks[:12] {
		needs := []int{91, 92, 93, 94, 95, 96}
		d.Tasks[:12][i] = api.Task{Needs: needs[:0], Tries: 2, Wait: 3, Lease: 4}
	}
	d.Tasks[0].Needs = append(d.Tasks[0].Needs, 2, 3)
	d.Tasks[1].Needs = append(d.Tasks[1].Needs, 0)
	d.Tasks[2].Needs = append(d.Tasks[2].Needs, 3)
	return d
}

func TestNoArgumentIsChanged(t *testing.T) {
	graphs := []api.Dag{roomy(), greatest()}
	for _, c := range faults() {
		graphs = append(graphs, c.d)
	}
	for _, d := range graphs {
		was := twin(d)
		done := make([]bool, len(d.Tasks), len(d.Tasks)+4)
		if len(done) > 1 {
			done[1] = true
		}
		before := slices.Clone(done[:cap(done)])
		Right(d)
		Order(d)
		Free(d, done)
		Free(d, done[:0])
		Put(d)
		if !untouched(d, was) {
			t.Errorf("%v was %v", d, was)
		}
		if !slices.Equal(done[:cap(done)], before) {
			t.Errorf("%v: done was changed", d)
		}
	}
}

// spoil writes over a list, also behind its end.
func spoil(l []int) {
	l = l[:cap(l)]
	for i := range l {
		l[i] = -7
	}
}

// R1: writing over an answer changes neither what was handed in nor another answer.
func TestAnswersAreNewMemory(t *testing.T) {
	d := roomy()
	was := twin(d)
	done := make([]bool, 4)
	first, _ := Order(d)
	spoil(first)
	free, _ := Free(d, done)
	spoil(free)
	if !untouched(d, was) || slices.Contains(done, true) {
		t.Errorf("an answer shares a list with an argument: %v, %v", d, done)
	}
	if l, e := Order(d); e != api.OK || !slices.Equal(l, []int{3, 2, 0, 1}) {
		t.Errorf("Order again: %v, %d", l, e)
	}
	if l, e := Free(d, done); e != api.OK || !slices.Equal(l, []int{3}) {
		t.Errorf("Free again: %v, %d", l, e)
	}
}

func TestListsOfAGraphThatIsGotAreApart(t *testing.T) {
	s := mustPut(t, greatest())
	one, _ := Get(s)
	two, _ := Get(s)
	for i := range one.Tasks {
		spoil(one.Tasks[i].Needs)
		for j := i + 1; j < len(one.Tasks); j++ {
			if !slices.Equal(one.Tasks[j].Needs, two.Tasks[j].Needs) {
				t.Fatalf("the Needs of %d and %d share a list", i, j)
			}
		}
	}
	for i := range one.Tasks {
		one.Tasks[i] = api.Task{}
	}
	if !same(two, greatest()) {
		t.Error("two answers share a list")
	}
	if d, e := Get(s); e != api.OK || !same(d, greatest()) {
		t.Errorf("Get again: %v, %d", d, e)
	}
}

// R3: a nil list counts as an empty one.
func TestNilAndEmptyLists(t *testing.T) {
	a, b := graph(nil, []int{0}), graph([]int{}, []int{0})
	if mustPut(t, a) != mustPut(t, b) {
		t.Error("Put tells nil Needs from empty ones")
	}
	for _, tasks := range [][]api.Task{nil, {}} {
		d := api.Dag{Name: "g", Tasks: tasks}
		for _, done := range [][]bool{nil, {}} {
			if l, e := Free(d, done); e != api.ErrArg || l != nil {
				t.Errorf("%v, %d", l, e)
			}
		}
	}
}

// P1: at all arguments every call ends, none panics, and the error named first is told.
func TestNoCallPanics(t *testing.T) {
	numbers := []int{lowest, -1 << 48, -2, -1, 0, 1, 2, 7, 8, 9, 10, 11, 255, 256, 1<<20 - 1, 1 << 20, 1<<20 + 1, 1 << 24, 1 << 40, highest - 1, highest}
	names := []string{"", "g", "0123456789abcdef", "0123456789abcdefg"}
	n := noise(1)
	pick := func() int { return numbers[n.below(len(numbers))] }
	told := map[api.Errno]int{}
	for range 200000 {
		d := api.Dag{Name: names[n.below(len(names))], Tasks: make([]api.Task, n.below(13))}
		for i := range d.Tasks {
			d.Tasks[i] = api.Task{Tries: 1, Lease: 1}
			for range n.below(3) {
				d.Tasks[i].Needs = append(d.Tasks[i].Needs, n.below(len(d.Tasks)))
			}
			slices.Sort(d.Tasks[i].Needs)
			switch n.below(60) {
			case 0:
				d.Tasks[i].Tries = pick()
			case 1:
				d.Tasks[i].Wait = pick()
			case 2:
				d.Tasks[i].Lease = pick()
			case 3:
				d.Tasks[i].Needs = append(d.Tasks[i].Needs, pick())
			}
		}
		want := right(d)
		told[want]++
		if e := Right(d); e != want {
			t.Fatalf("Right(%v) = %d; want %d", d, e, want)
		}
		if l, e := Order(d); e != want || e != api.OK && l != nil {
			t.Fatalf("Order(%v) = %v, %d; want %d", d, l, e, want)
		}
		done := doneBy(n.below(1<<12), len(d.Tasks))
		if l, e := Free(d, done); e != want || e != api.OK && l != nil {
			t.Fatalf("Free(%v, %v) = %v, %d; want %d", d, done, l, e, want)
		}
		if s, e := Put(d); e != want || e != api.OK && s != "" {
			t.Fatalf("Put(%v) = %x, %d; want %d", d, s, e, want)
		}
	}
	for _, e := range []api.Errno{api.OK, api.ErrArg, api.ErrLong, api.ErrCycle} {
		if told[e] < 100 {
			t.Errorf("only %d graphs tell %d", told[e], e)
		}
	}
}
