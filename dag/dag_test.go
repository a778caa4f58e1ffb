package dag

import (
	"math"
	"slices"
	"strings"
	"testing"

	"penelope/api"
)

const (
	lowest  = math.MinInt
	highest = math.MaxInt
)

type fault struct {
	name string
	d    api.Dag
	want api.Errno
}

// atTheEdges are graphs at each edge of what may be, and beyond it.
func atTheEdges() []fault {
	three := graph(nil, []int{0}, []int{0, 1})
	name := func(size int) api.Dag { return named(three, strings.Repeat("x", size)) }
	needs := func(l ...int) api.Dag { return with(loose(4), 2, func(t *api.Task) { t.Needs = l }) }
	tries := func(n int) api.Dag { return with(three, 1, func(t *api.Task) { t.Tries = n }) }
	wait := func(n int) api.Dag { return with(three, 1, func(t *api.Task) { t.Wait = n }) }
	lease := func(n int) api.Dag { return with(three, 1, func(t *api.Task) { t.Lease = n }) }
	return []fault{
		{"Name of 0", name(0), api.ErrArg},
		{"Name of 1", name(1), api.OK},
		{"Name of 16", name(16), api.OK},
		{"Name of 17", name(17), api.ErrArg},
		{"Name of 65535", name(65535), api.ErrArg},
		{"Name of 65536", name(65536), api.ErrArg},
		{"Name of zero bytes", named(three, "\x00\x00"), api.OK},
		{"Name that is no UTF-8", named(three, "\xff\xc0/ "), api.OK},
		{"Name of 16 bytes in 8 characters", named(three, strings.Repeat("ü", 8)), api.OK},
		{"Name of 18 bytes in 9 characters", named(three, strings.Repeat("ü", 9)), api.ErrArg},

		{"0 tasks", loose(0), api.ErrArg},
		{"no list of tasks", api.Dag{Name: "g"}, api.ErrArg},
		{"1 task", loose(1), api.OK},
		{"2 tasks", loose(2), api.OK},
		{"9 tasks", loose(9), api.OK},
		{"10 tasks", loose(10), api.OK},
		{"11 tasks", loose(11), api.ErrLong},
		{"100000 tasks", loose(100000), api.ErrLong},
		{"the greatest", greatest(), api.OK},

		{"Needs of an empty list", needs([]int{}...), api.OK},
		{"Needs of one ahead", needs(0), api.OK},
		{"Needs of one behind", needs(3), api.OK},
		{"Needs that rise", needs(0, 1, 3), api.OK},
		{"Needs that stand twice", needs(1, 1), api.ErrArg},
		{"Needs that stand twice at 0", needs(0, 0), api.ErrArg},
		{"Needs that stand twice at the end", needs(0, 3, 3), api.ErrArg},
		{"Needs that fall", needs(1, 0), api.ErrArg},
		{"Needs that fall at the end", needs(0, 3, 1), api.ErrArg},
		{"Needs below 0", needs(-1), api.ErrArg},
		{"Needs below 0, rising", needs(-1, 0), api.ErrArg},
		{"Needs of the lowest number", needs(lowest), api.ErrArg},
		{"Needs of its own number", needs(2), api.ErrCycle},
		{"Needs of its own number among others", needs(0, 2, 3), api.ErrCycle},
		{"Needs of the number of tasks", needs(4), api.ErrArg},
		{"Needs of the number of tasks, rising", needs(0, 4), api.ErrArg},
		{"Needs of the highest number", needs(highest), api.ErrArg},
		{"Needs of the highest number, and more", needs(highest, lowest), api.ErrArg},
		{"Needs of 10 in a graph of 10", with(loose(10), 0, func(t *api.Task) { t.Needs = []int{10} }), api.ErrArg},
		{"Needs of 9 in a graph of 10", with(loose(10), 0, func(t *api.Task) { t.Needs = []int{9} }), api.OK},
		{"100000 Needs", needs(make([]int, 100000)...), api.ErrArg},

		{"Tries 0", tries(0), api.ErrArg},
		{"Tries 1", tries(1), api.OK},
		{"Tries 8", tries(8), api.OK},
		{"Tries 9", tries(9), api.ErrArg},
		{"Tries -1", tries(-1), api.ErrArg},
		{"Tries 257", tries(257), api.ErrArg},
		{"Tries lowest", tries(lowest), api.ErrArg},
		{"Tries highest", tries(highest), api.ErrArg},

		{"Wait -1", wait(-1), api.ErrArg},
		{"Wait 0", wait(0), api.OK},
		{"Wait 1", wait(1), api.OK},
		{"Wait 2^20", wait(1 << 20), api.OK},
		{"Wait 2^20 + 1", wait(1<<20 + 1), api.ErrArg},
		{"Wait 2^24", wait(1 << 24), api.ErrArg},
		{"Wait lowest", wait(lowest), api.ErrArg},
		{"Wait highest", wait(highest), api.ErrArg},

		{"Lease -1", lease(-1), api.ErrArg},
		{"Lease 0", lease(0), api.ErrArg},
		{"Lease 1", lease(1), api.OK},
		{"Lease 2^20", lease(1 << 20), api.OK},
		{"Lease 2^20 + 1", lease(1<<20 + 1), api.ErrArg},
		{"Lease 2^24 + 1", lease(1<<24 + 1), api.ErrArg},
		{"Lease lowest", lease(lowest), api.ErrArg},
		{"Lease highest", lease(highest), api.ErrArg},

		{"the zero graph", api.Dag{}, api.ErrArg},
		{"a task of zeros", api.Dag{Name: "g", Tasks: make([]api.Task, 1)}, api.ErrArg},
	}
}

// withRounds are graphs with rounds, alone and beside other faults.
func withRounds() []fault {
	two := graph([]int{1}, []int{0})
	zeros := func(t *api.Task) { *t = api.Task{} }
	eleven := loose(11)
	eleven.Tasks[0].Needs = []int{0}
	worst := api.Dag{Tasks: make([]api.Task, 11)}
	worst.Tasks[3].Needs = []int{-1, 3, 3, 100}
	return []fault{
		{"one that needs itself", graph([]int{0}), api.ErrCycle},
		{"one of two that needs itself", graph(nil, []int{1}), api.ErrCycle},
		{"two that need each other", two, api.ErrCycle},
		{"two that need each other, apart", graph([]int{2}, nil, []int{0}), api.ErrCycle},
		{"a round of three", graph([]int{1}, []int{2}, []int{0}), api.ErrCycle},
		{"a round of ten", graph([]int{9}, []int{0}, []int{1}, []int{2}, []int{3}, []int{4}, []int{5}, []int{6}, []int{7}, []int{8}), api.ErrCycle},
		{"a row of ten", graph(nil, []int{0}, []int{1}, []int{2}, []int{3}, []int{4}, []int{5}, []int{6}, []int{7}, []int{8}), api.OK},
		{"a round that hangs on another", graph(nil, []int{0, 2}, []int{1}), api.ErrCycle},
		{"others that hang on a round", graph([]int{1}, []int{2}, []int{1}, []int{0}), api.ErrCycle},
		{"a round between others", graph(nil, []int{0, 2}, []int{1}, []int{2}, []int{3}), api.ErrCycle},
		{"two rounds", graph([]int{1}, []int{0}, []int{3}, []int{2}), api.ErrCycle},
		{"all need all", graph([]int{0, 1, 2}, []int{0, 1, 2}, []int{0, 1, 2}), api.ErrCycle},
		{"two ways to one task", graph(nil, []int{0}, []int{0}, []int{1, 2}), api.OK},

		{"a round without a Name", named(two, ""), api.ErrArg},
		{"a round with a Name of 17", named(two, strings.Repeat("x", 17)), api.ErrArg},
		{"a round with Tries 0", with(two, 1, func(t *api.Task) { t.Tries = 0 }), api.ErrArg},
		{"a round with Tries 9", with(two, 0, func(t *api.Task) { t.Tries = 9 }), api.ErrArg},
		{"a round with Wait -1", with(two, 1, func(t *api.Task) { t.Wait = -1 }), api.ErrArg},
		{"a round with Lease 0", with(two, 0, func(t *api.Task) { t.Lease = 0 }), api.ErrArg},
		{"a round, and Needs twice", graph([]int{1}, []int{0}, []int{0, 0}), api.ErrArg},
		{"a round, and Needs of no task", graph([]int{0}, []int{2}), api.ErrArg},
		{"its own number twice", graph([]int{0, 0}), api.ErrArg},

		{"11 tasks and a round", eleven, api.ErrLong},
		{"11 tasks without a Name", named(loose(11), ""), api.ErrLong},
		{"11 tasks with a Name of 17", named(loose(11), strings.Repeat("x", 17)), api.ErrLong},
		{"11 tasks, the first of zeros", with(loose(11), 0, zeros), api.ErrLong},
		{"11 tasks, the last of zeros", with(loose(11), 10, zeros), api.ErrLong},
		{"11 tasks with all faults", worst, api.ErrLong},
	}
}

func faults() []fault { return append(atTheEdges(), withRounds()...) }

// P16.1

func TestRight(t *testing.T) {
	for _, c := range faults() {
		if e := Right(c.d); e != c.want {
			t.Errorf("%s: %d; want %d", c.name, e, c.want)
		}
	}
}

func TestRightAsksEachTask(t *testing.T) {
	for _, change := range []func(*api.Task){
		func(t *api.Task) { t.Needs = []int{-1} },
		func(t *api.Task) { t.Needs = []int{10} },
		func(t *api.Task) { t.Needs = []int{1, 1} },
		func(t *api.Task) { t.Tries = 0 },
		func(t *api.Task) { t.Tries = 9 },
		func(t *api.Task) { t.Wait = -1 },
		func(t *api.Task) { t.Wait = 1<<20 + 1 },
		func(t *api.Task) { t.Lease = 0 },
		func(t *api.Task) { t.Lease = 1<<20 + 1 },
	} {
		for task := range 10 {
			d := with(greatest(), task, change)
			if e := Right(d); e != api.ErrArg {
				t.Errorf("%v: %d", d.Tasks[task], e)
			}
		}
	}
	for task := range 10 {
		d := with(loose(10), task, func(t *api.Task) { t.Needs = []int{task} })
		if e := Right(d); e != api.ErrCycle {
			t.Errorf("%d needs itself: %d", task, e)
		}
	}
}

// A round is found wherever it stands and however long it is.
func TestRightFindsEachRound(t *testing.T) {
	for from := range 10 {
		for size := 1; from+size <= 10; size++ {
			d := loose(10)
			for i := from + 1; i < from+size; i++ {
				d.Tasks[i].Needs = []int{i - 1}
			}
			if e := Right(d); e != api.OK {
				t.Errorf("a row of %d from %d on: %d", size, from, e)
			}
			d.Tasks[from].Needs = []int{from + size - 1}
			if e := Right(d); e != api.ErrCycle {
				t.Errorf("a round of %d from %d on: %d", size, from, e)
			}
		}
	}
}

// One more need, of one that stands behind, makes a round of the greatest graph.
func TestTheGreatestHasNoRoomForANeed(t *testing.T) {
	for task := range 10 {
		for need := task; need < 10; need++ {
			d := with(greatest(), task, func(t *api.Task) { t.Needs = append(t.Needs, need) })
			if e := Right(d); e != api.ErrCycle {
				t.Errorf("%d needs %d: %d", task, need, e)
			}
		}
	}
}

// All graphs of up to four tasks are held against the chapter's words.
func TestSmallGraphs(t *testing.T) {
	for tasks := 1; tasks <= 4; tasks++ {
		mayBe := 0
		small(tasks, func(d api.Dag) {
			want := right(d)
			if e := Right(d); e != want {
				t.Fatalf("Right(%v) = %d; want %d", d, e, want)
			}
			l, e := Order(d)
			if e != want {
				t.Fatalf("Order(%v): %d; want %d", d, e, want)
			}
			if want != api.OK {
				return
			}
			mayBe++
			if !slices.Equal(l, order(d)) {
				t.Fatalf("Order(%v) = %v; want %v", d, l, order(d))
			}
			holdFree(t, d)
			holdBytes(t, d)
		})
		// As many graphs without a round there are, of numbered tasks.
		if counts := []int{0, 1, 3, 25, 543}; mayBe != counts[tasks] {
			t.Errorf("%d graphs of %d tasks may be; want %d", mayBe, tasks, counts[tasks])
		}
	}
}

func TestMixedGraphs(t *testing.T) {
	mixedOnes(func(d api.Dag) {
		if e := Right(d); e != api.OK {
			t.Fatalf("Right(%v) = %d", d, e)
		}
		if l, e := Order(d); e != api.OK || !slices.Equal(l, order(d)) {
			t.Fatalf("Order(%v) = %v, %d; want %v", d, l, e, order(d))
		}
		holdBytes(t, d)
	})
	n := noise(7)
	for tasks := 1; tasks <= 10; tasks++ {
		holdFree(t, mixed(&n, tasks))
	}
}

// holdFree holds Free of a graph that may be against the chapter's words, for each number of done tasks.
func holdFree(t *testing.T, d api.Dag) {
	t.Helper()
	tasks := len(d.Tasks)
	for bits := range 1 << tasks {
		done := doneBy(bits, tasks)
		if l, e := Free(d, done); e != api.OK || !slices.Equal(l, free(d, done)) {
			t.Fatalf("Free(%v, %v) = %v, %d; want %v", d, done, l, e, free(d, done))
		}
	}
}

// holdBytes holds Put and Get of a graph that may be against the chapter's words.
func holdBytes(t *testing.T, d api.Dag) {
	t.Helper()
	s, e := Put(d)
	if e != api.OK || s != laid(d) || len(s) > 200 {
		t.Fatalf("Put(%v) = %x, %d; want %x", d, s, e, laid(d))
	}
	if g, e := Get(s); e != api.OK || !same(g, d) {
		t.Fatalf("Get(%x) = %v, %d; want %v", s, g, e, d)
	}
}

// P16.2

func TestOrder(t *testing.T) {
	for _, c := range []struct {
		name string
		d    api.Dag
		want []int
	}{
		{"one", graph(nil), []int{0}},
		{"none needed", loose(4), []int{0, 1, 2, 3}},
		{"ten", loose(10), []int{0, 1, 2, 3, 4, 5, 6, 7, 8, 9}},
		{"the greatest", greatest(), []int{0, 1, 2, 3, 4, 5, 6, 7, 8, 9}},
		{"the chapter's first", graph([]int{1}, nil), []int{1, 0}},
		{"the chapter's third", graph(nil, []int{0}, []int{0}, []int{1, 2}), []int{0, 1, 2, 3}},
		{"own order", graph(nil, []int{0}, []int{1}, []int{2}), []int{0, 1, 2, 3}},
		{"opposite order", graph([]int{1}, []int{2}, []int{3}, nil), []int{3, 2, 1, 0}},
		{"opposite order of all", graph([]int{1, 2, 3}, []int{2, 3}, []int{3}, nil), []int{3, 2, 1, 0}},
		{"opposite order of ten", graph([]int{1}, []int{2}, []int{3}, []int{4}, []int{5}, []int{6}, []int{7}, []int{8}, []int{9}, nil), []int{9, 8, 7, 6, 5, 4, 3, 2, 1, 0}},
		// The least free one is told, also where it has become free only now: no round goes on to the end first.
		{"back to the least", graph([]int{2}, nil, nil, nil), []int{1, 2, 0, 3}},
		{"back at once", graph([]int{1}, nil, nil), []int{1, 0, 2}},
		{"back again and again", graph([]int{2}, []int{3}, nil, nil, []int{0}), []int{2, 0, 3, 1, 4}},
		{"least, not first freed", graph([]int{3}, []int{2}, nil, []int{2}), []int{2, 1, 3, 0}},
		{"depth does not count", graph([]int{4}, nil, []int{1}, []int{2}, []int{3}), []int{1, 2, 3, 4, 0}},
		{"mixed", graph([]int{3, 5}, nil, []int{0}, []int{1}, []int{2}, []int{1}), []int{1, 3, 5, 0, 2, 4}},
	} {
		if l, e := Order(c.d); e != api.OK || !slices.Equal(l, c.want) {
			t.Errorf("%s: %v, %d; want %v", c.name, l, e, c.want)
		}
	}
}

func TestFree(t *testing.T) {
	const no, yes = false, true
	diamond := graph(nil, []int{0}, []int{0}, []int{1, 2})
	back := graph([]int{1}, []int{2}, nil)
	for _, c := range []struct {
		name string
		d    api.Dag
		done []bool
		want []int
		err  api.Errno
	}{
		{"none done", diamond, []bool{no, no, no, no}, []int{0}, api.OK},
		{"the first done", diamond, []bool{yes, no, no, no}, []int{1, 2}, api.OK},
		{"one of two needs done", diamond, []bool{yes, yes, no, no}, []int{2}, api.OK},
		{"the other of two needs done", diamond, []bool{yes, no, yes, no}, []int{1}, api.OK},
		{"both needs done", diamond, []bool{yes, yes, yes, no}, []int{3}, api.OK},
		{"all done", diamond, []bool{yes, yes, yes, yes}, nil, api.OK},
		{"opposite, none done", back, []bool{no, no, no}, []int{2}, api.OK},
		{"opposite, the last done", back, []bool{no, no, yes}, []int{1}, api.OK},
		{"one task, not done", loose(1), []bool{no}, []int{0}, api.OK},
		{"one task, done", loose(1), []bool{yes}, nil, api.OK},
		{"ten tasks, none done", loose(10), make([]bool, 10), []int{0, 1, 2, 3, 4, 5, 6, 7, 8, 9}, api.OK},
		{"without needs, some done", loose(4), []bool{no, yes, no, yes}, []int{0, 2}, api.OK},
		// Only what a task needs itself counts, whether that could be done or not.
		{"done without its needs", diamond, []bool{no, yes, yes, no}, []int{0, 3}, api.OK},
		{"one done without its needs", diamond, []bool{no, yes, no, no}, []int{0}, api.OK},
		{"only the last done", diamond, []bool{no, no, no, yes}, []int{0}, api.OK},
		{"all but the first done", diamond, []bool{no, yes, yes, yes}, []int{0}, api.OK},
		{"opposite, the middle done", back, []bool{no, yes, no}, []int{0, 2}, api.OK},

		{"no list", diamond, nil, nil, api.ErrArg},
		{"an empty list", diamond, []bool{}, nil, api.ErrArg},
		{"one too few", diamond, make([]bool, 3), nil, api.ErrArg},
		{"one too many", diamond, make([]bool, 5), nil, api.ErrArg},
		{"one too many, all done", diamond, []bool{yes, yes, yes, yes, yes}, nil, api.ErrArg},
		{"far too many", diamond, make([]bool, 100000), nil, api.ErrArg},
		{"one too few, but room behind them", diamond, make([]bool, 3, 4), nil, api.ErrArg},
		{"none for one", loose(1), nil, nil, api.ErrArg},
		{"two for one", loose(1), make([]bool, 2), nil, api.ErrArg},
		{"eleven for ten", loose(10), make([]bool, 11), nil, api.ErrArg},
	} {
		if l, e := Free(c.d, c.done); e != c.err || !slices.Equal(l, c.want) {
			t.Errorf("%s: %v, %d; want %v, %d", c.name, l, e, c.want, c.err)
		}
	}
}

// Right's error comes ahead of all others, and beside it all else is zero.
func TestErrorsOfRightComeFirst(t *testing.T) {
	for _, c := range faults() {
		l, e := Order(c.d)
		if e != c.want || e != api.OK && l != nil {
			t.Errorf("%s: Order: %v, %d; want %d", c.name, l, e, c.want)
		}
		for _, places := range []int{len(c.d.Tasks), 0, len(c.d.Tasks) + 1} {
			want := c.want
			if want == api.OK && places != len(c.d.Tasks) {
				want = api.ErrArg
			}
			l, e := Free(c.d, make([]bool, places))
			if e != want || e != api.OK && l != nil {
				t.Errorf("%s: Free of %d places: %v, %d; want %d", c.name, places, l, e, want)
			}
		}
		s, e := Put(c.d)
		if e != c.want || (e == api.OK) != (s != "") {
			t.Errorf("%s: Put: %x, %d; want %d", c.name, s, e, c.want)
		}
	}
}

// P16.3

func TestPut(t *testing.T) {
	for _, c := range []struct {
		name string
		d    api.Dag
		want string
	}{
		{"the least", graph(nil), "\x00\x01g" + "\x01" + "\x00\x01\x00\x00\x00\x00\x00\x01"},
		{"Name of zeros", named(graph(nil), "\x00\x00"), "\x00\x02\x00\x00" + "\x01" + "\x00\x01\x00\x00\x00\x00\x00\x01"},
		{"two tasks", graph([]int{1}, nil), "\x00\x01g" + "\x02" + "\x01\x01\x01\x00\x00\x00\x00\x00\x01" + "\x00\x01\x00\x00\x00\x00\x00\x01"},
		{"numbers of three bytes", api.Dag{Name: "ab", Tasks: []api.Task{{Tries: 8, Wait: 0x010203, Lease: 0x0f0e0d}}}, "\x00\x02ab" + "\x01" + "\x00\x08\x01\x02\x03\x0f\x0e\x0d"},
		{"the highest numbers", api.Dag{Name: "0123456789abcdef", Tasks: []api.Task{{Tries: 8, Wait: 1 << 20, Lease: 1 << 20}}}, "\x00\x100123456789abcdef" + "\x01" + "\x00\x08\x10\x00\x00\x10\x00\x00"},
		{"several needs", graph(nil, nil, nil, []int{0, 1, 2}), "\x00\x01g" + "\x04" + strings.Repeat("\x00\x01\x00\x00\x00\x00\x00\x01", 3) + "\x03\x00\x01\x02\x01\x00\x00\x00\x00\x00\x01"},
	} {
		if s, e := Put(c.d); e != api.OK || s != c.want {
			t.Errorf("%s: %x, %d; want %x", c.name, s, e, c.want)
		}
		if d, e := Get(c.want); e != api.OK || !same(d, c.d) {
			t.Errorf("%s: got %v, %d; want %v", c.name, d, e, c.d)
		}
	}
}

func TestPutTheGreatest(t *testing.T) {
	s := mustPut(t, greatest())
	if len(s) != 2+16+1+10*8+45 || s != laid(greatest()) {
		t.Errorf("%d bytes: %x", len(s), s)
	}
	if d, e := Get(s); e != api.OK || !same(d, greatest()) {
		t.Errorf("%v, %d", d, e)
	}
}

func manyNeeds(count int) []int {
	needs := make([]int, count)
	for i := range needs {
		needs[i] = i
	}
	return needs
}

func TestGet(t *testing.T) {
	const task = "\x00\x01\x00\x00\x00\x00\x00\x01"
	head := func(tasks int) string { return "\x00\x01g" + string([]byte{byte(tasks)}) }
	for _, c := range []struct {
		name, s string
		want    api.Errno
	}{
		{"no bytes", "", api.ErrShort},
		{"half a length", "\x00", api.ErrShort},
		{"a Name that ends too soon", "\x00\x02g", api.ErrShort},
		{"a Name alone", "\x00\x01g", api.ErrShort},
		{"no tasks", head(0), api.ErrArg},
		{"a task that is missing", head(1), api.ErrShort},
		{"a task too few", head(2) + task, api.ErrShort},
		{"one task", head(1) + task, api.OK},
		{"two tasks", head(2) + task + task, api.OK},
		{"a task too many", head(1) + task + task, api.ErrForm},
		{"a byte behind", head(1) + task + "\x00", api.ErrForm},
		{"a byte behind no tasks", head(0) + "\x00", api.ErrForm},
		{"no Name", "\x00\x00\x01" + task, api.ErrArg},
		{"no Name and no task", "\x00\x00\x00", api.ErrArg},
		{"no Name, no task, a byte behind", "\x00\x00\x00\x00", api.ErrForm},
		{"no Name, a task too few", "\x00\x00\x02" + task, api.ErrShort},

		{"Name of 16", "\x00\x10" + strings.Repeat("x", 16) + "\x01" + task, api.OK},
		{"Name of 17", "\x00\x11" + strings.Repeat("x", 17) + "\x01" + task, api.ErrArg},
		{"Name of 17, cut off", "\x00\x11" + strings.Repeat("x", 17) + "\x01" + task[:7], api.ErrShort},
		{"Name of 17, a byte behind", "\x00\x11" + strings.Repeat("x", 17) + "\x01" + task + "x", api.ErrForm},
		{"Name of 256", "\x01\x00" + strings.Repeat("x", 256) + "\x01" + task, api.ErrArg},
		{"Name of 65535", "\xff\xff" + strings.Repeat("x", 65535) + "\x01" + task, api.ErrArg},
		{"Name of 65535, one too few", "\xff\xff" + strings.Repeat("x", 65534), api.ErrShort},

		{"10 tasks", head(10) + strings.Repeat(task, 10), api.OK},
		{"11 tasks", head(11) + strings.Repeat(task, 11), api.ErrLong},
		{"11 tasks, one missing", head(11) + strings.Repeat(task, 10), api.ErrShort},
		{"11 tasks, and one more", head(11) + strings.Repeat(task, 12), api.ErrForm},
		{"11 tasks without a Name", "\x00\x00\x0b" + strings.Repeat(task, 11), api.ErrLong},
		{"255 tasks", head(255) + strings.Repeat(task, 255), api.ErrLong},
		{"255 tasks, one missing", head(255) + strings.Repeat(task, 254), api.ErrShort},
		{"255 tasks, a byte behind", head(255) + strings.Repeat(task, 255) + "\x00", api.ErrForm},

		{"a need of its own", head(1) + "\x01\x00" + task[1:], api.ErrCycle},
		{"a need of its own, a byte behind", head(1) + "\x01\x00" + task[1:] + "\x00", api.ErrForm},
		{"a need of no task", head(1) + "\x01\x01" + task[1:], api.ErrArg},
		{"a need of 255", head(1) + "\x01\xff" + task[1:], api.ErrArg},
		{"two that need each other", head(2) + "\x01\x01" + task[1:] + "\x01\x00" + task[1:], api.ErrCycle},
		{"needs twice", head(2) + task + "\x02\x00\x00" + task[1:], api.ErrArg},
		{"needs that fall", head(3) + task + task + "\x02\x01\x00" + task[1:], api.ErrArg},
		{"255 needs", head(1) + "\xff" + strings.Repeat("\x00", 255) + task[1:], api.ErrArg},
		{"255 needs, one too few", head(1) + "\xff" + strings.Repeat("\x00", 254), api.ErrShort},
		{"255 needs and no more", head(1) + "\xff" + strings.Repeat("\x00", 255), api.ErrShort},
		{"255 needs that rise", laid(graph(manyNeeds(255))), api.ErrArg},
		{"255 tasks of 255 needs", laid(graph(slices.Repeat([][]int{manyNeeds(255)}, 255)...)), api.ErrLong},

		{"Tries 0", head(1) + "\x00\x00\x00\x00\x00\x00\x00\x01", api.ErrArg},
		{"Tries 8", head(1) + "\x00\x08\x00\x00\x00\x00\x00\x01", api.OK},
		{"Tries 9", head(1) + "\x00\x09\x00\x00\x00\x00\x00\x01", api.ErrArg},
		{"Tries 255", head(1) + "\x00\xff\x00\x00\x00\x00\x00\x01", api.ErrArg},
		{"Wait 2^20", head(1) + "\x00\x01\x10\x00\x00\x00\x00\x01", api.OK},
		{"Wait 2^20 + 1", head(1) + "\x00\x01\x10\x00\x01\x00\x00\x01", api.ErrArg},
		{"Wait 2^24 - 1", head(1) + "\x00\x01\xff\xff\xff\x00\x00\x01", api.ErrArg},
		{"Lease 0", head(1) + "\x00\x01\x00\x00\x00\x00\x00\x00", api.ErrArg},
		{"Lease 2^20", head(1) + "\x00\x01\x00\x00\x00\x10\x00\x00", api.OK},
		{"Lease 2^20 + 1", head(1) + "\x00\x01\x00\x00\x00\x10\x00\x01", api.ErrArg},
	} {
		d, e := Get(c.s)
		if e != c.want || (e == api.OK) == isZero(d) {
			t.Errorf("%s: %v, %d; want %d", c.name, d, e, c.want)
		}
		if e == api.OK && mustPut(t, d) != c.s {
			t.Errorf("%s: got and put: %x; want %x", c.name, mustPut(t, d), c.s)
		}
	}
}

// Of bytes that tell a graph that may not be, Right's error is told; a byte more or less is told ahead of it.
func TestGetOfWhatMayNotBe(t *testing.T) {
	held := map[api.Errno]int{}
	for _, c := range faults() {
		if !hasRoom(c.d) {
			continue
		}
		held[c.want]++
		s := laid(c.d)
		if d, e := Get(s); e != c.want || e != api.OK && !isZero(d) || e == api.OK && !same(d, c.d) {
			t.Errorf("%s: %v, %d; want %d", c.name, d, e, c.want)
		}
		if d, e := Get(s[:len(s)-1]); e != api.ErrShort || !isZero(d) {
			t.Errorf("%s, a byte less: %v, %d", c.name, d, e)
		}
		if d, e := Get(s + "\x00"); e != api.ErrForm || !isZero(d) {
			t.Errorf("%s, a byte more: %v, %d", c.name, d, e)
		}
	}
	for _, e := range []api.Errno{api.OK, api.ErrArg, api.ErrLong, api.ErrCycle} {
		if held[e] == 0 {
			t.Errorf("no bytes tell %d", e)
		}
	}
}

// texts are bytes of graphs that may be.
func texts(t *testing.T) []string {
	n := noise(3)
	return []string{
		mustPut(t, graph(nil)),
		mustPut(t, graph([]int{1}, nil)),
		mustPut(t, graph(nil, []int{0}, []int{0}, []int{1, 2})),
		mustPut(t, greatest()),
		mustPut(t, mixed(&n, 5)),
		mustPut(t, mixed(&n, 10)),
	}
}

func TestGetOfEachBeginning(t *testing.T) {
	for _, s := range texts(t) {
		for size := range len(s) {
			if d, e := Get(s[:size]); e != api.ErrShort || !isZero(d) {
				t.Fatalf("%d of %d bytes: %v, %d", size, len(s), d, e)
			}
		}
	}
}

func TestGetOfMoreBytes(t *testing.T) {
	for _, s := range texts(t) {
		for b := range 256 {
			if d, e := Get(s + string([]byte{byte(b)})); e != api.ErrForm || !isZero(d) {
				t.Fatalf("%x and %d: %v, %d", s, b, d, e)
			}
		}
		for _, more := range []string{s, strings.Repeat("\x00", 100000)} {
			if d, e := Get(s + more); e != api.ErrForm || !isZero(d) {
				t.Fatalf("%x and %d bytes: %v, %d", s, len(more), d, e)
			}
		}
	}
}

// holdGet holds Get of any bytes against the chapter's words.
func holdGet(t *testing.T, s string) {
	t.Helper()
	want, f := got(s)
	d, e := Get(s)
	if e != f || !same(d, want) {
		t.Fatalf("Get(%x) = %v, %d; want %v, %d", s, d, e, want, f)
	}
	if e == api.OK && mustPut(t, d) != s {
		t.Fatalf("%x: got and put: %x", s, mustPut(t, d))
	}
}

func TestGetOfEachByteChanged(t *testing.T) {
	for _, s := range texts(t) {
		for at := range len(s) {
			for b := range 256 {
				holdGet(t, s[:at]+string([]byte{byte(b)})+s[at+1:])
			}
		}
	}
}

func TestGetOfAnyBytes(t *testing.T) {
	n := noise(9)
	for range 50000 {
		b := []byte{0, byte(n.below(3))}
		for range n.below(60) {
			b = append(b, byte(n.below(4)))
		}
		holdGet(t, string(b))
	}
	for range 5000 {
		b := make([]byte, n.below(400))
		for i := range b {
			b[i] = byte(n.below(256))
		}
		holdGet(t, string(b))
	}
}

// FuzzGet is fed more bytes by `go test -fuzz`.
func FuzzGet(f *testing.F) {
	f.Add("")
	f.Add(laid(greatest()))
	f.Add(laid(graph([]int{1}, []int{0})))
	f.Fuzz(func(t *testing.T, s string) { holdGet(t, s) })
}
