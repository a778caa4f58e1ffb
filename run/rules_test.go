package run

import (
	"slices"
	"strings"
	"testing"

	"penelope/api"
)

// made calls f with whatever is made of a run without an error, told by a name.
func made(r api.Run, now, token int, result string, f func(string, api.Run)) {
	told := func(name string, g api.Run, e api.Errno) {
		if e == api.OK {
			f(name, g)
		}
	}
	g, e := Settle(r, now)
	told("Settle", g, e)
	g, _, e = Lease(r, now, token)
	told("Lease", g, e)
	g, e = Beat(r, now, token)
	told("Beat", g, e)
	g, e = Done(r, now, token, result)
	told("Done", g, e)
	g, e = Fail(r, now, token)
	told("Fail", g, e)
	g, e = Cancel(r, now)
	told("Cancel", g, e)
}

// P19.4

func TestWhatIsMadeOfARunThatMayBeMayBe(t *testing.T) {
	count := map[string]int{}
	for _, r := range sound() {
		for _, now := range []int{-1, 10, 14, 15, end} {
			for i, token := range []int{1, 7, 8, 9, end} {
				made(r, now, token, results()[i%len(results())], func(name string, g api.Run) {
					count[name]++
					if !Right(g) || !right(g) {
						t.Fatalf("%s of %v at %d with %d: %v", name, r, now, token, g)
					}
					if g.Key != r.Key || !sameDag(g.Dag, r.Dag) {
						t.Fatalf("%s of %v: %v", name, r, g)
					}
				})
			}
		}
	}
	for _, name := range []string{"Settle", "Lease", "Beat", "Done", "Fail", "Cancel"} {
		if count[name] < 1000 {
			t.Errorf("%s made only %d runs", name, count[name])
		}
	}
}

func TestARunThatIsOverStays(t *testing.T) {
	seen := map[int]int{}
	for _, r := range sound() {
		if r.Is == api.RGoes {
			continue
		}
		seen[r.Is]++
		for _, now := range times() {
			if g, e := Settle(r, now); !same(g, r) || e != api.OK {
				t.Fatalf("Settle(%v, %d) = %v, %d", r, now, g, e)
			}
			if g, e := Cancel(r, now); !isZero(g) || e != api.ErrDone {
				t.Fatalf("Cancel(%v, %d) = %v, %d", r, now, g, e)
			}
			for _, token := range someTokens() {
				why := api.ErrIdle
				if token < 1 || token > end {
					why = api.ErrArg
				}
				if g, i, e := Lease(r, now, token); !isZero(g) || i != 0 || e != why {
					t.Fatalf("Lease(%v, %d, %d) = %v, %d, %d", r, now, token, g, i, e)
				}
				if g, e := Beat(r, now, token); !isZero(g) || e != api.ErrToken {
					t.Fatalf("Beat(%v, %d, %d) = %v, %d", r, now, token, g, e)
				}
				if g, e := Done(r, now, token, "ok"); !isZero(g) || e != api.ErrToken {
					t.Fatalf("Done(%v, %d, %d) = %v, %d", r, now, token, g, e)
				}
				if g, e := Fail(r, now, token); !isZero(g) || e != api.ErrToken {
					t.Fatalf("Fail(%v, %d, %d) = %v, %d", r, now, token, g, e)
				}
			}
		}
	}
	for _, is := range []int{api.RDone, api.RLost, api.RGone} {
		if seen[is] < 20 {
			t.Errorf("only %d runs are %d", seen[is], is)
		}
	}
}

// Settling at one time and then at a later one is settling at the later one, and what is done behind it is the same.
func TestSettlingTwice(t *testing.T) {
	for _, r := range sound() {
		for i, first := range times() {
			ahead, e := Settle(r, first)
			if e != api.OK {
				t.Fatalf("Settle(%v, %d): %d", r, first, e)
			}
			for _, later := range times()[i:] {
				at, e := Settle(r, later)
				if g, again := Settle(ahead, later); !same(g, at) || e != api.OK || again != api.OK {
					t.Fatalf("%v, settled at %d and %d: %v; at the later one: %v", r, first, later, g, at)
				}
			}
		}
		for _, now := range []int{-1, 11, 15, end} {
			at, _ := Settle(r, now)
			holdSame(t, r, at, now)
		}
	}
}

// holdSame holds what is made of two runs at one time against one another.
func holdSame(t *testing.T, a, b api.Run, now int) {
	t.Helper()
	for _, token := range []int{0, 1, 7, 8} {
		var one, two []api.Run
		made(a, now, token, "ok", func(_ string, g api.Run) { one = append(one, g) })
		made(b, now, token, "ok", func(_ string, g api.Run) { two = append(two, g) })
		if !slices.EqualFunc(one, two, same) {
			t.Fatalf("%v, settled at %d: %v; makes %v and %v", a, now, b, one, two)
		}
	}
}

// P19.5

// mixed is a graph of so many tasks without a round, whose tasks need others at any place.
func mixed(n *noise, tasks int) api.Dag {
	places := make([]int, tasks)
	for i := range places {
		places[i] = i
	}
	for i := range places {
		j := n.below(i + 1)
		places[i], places[j] = places[j], places[i]
	}
	d := loose(tasks)
	often := 1 + n.below(5)
	for i, place := range places {
		x := api.Task{Tries: 1 + n.below(8), Wait: n.below(5), Lease: 1 + n.below(6)}
		for _, need := range places[:i] {
			if n.below(often) == 0 {
				x.Needs = append(x.Needs, need)
			}
		}
		slices.Sort(x.Needs)
		d.Tasks[place] = x
	}
	return d
}

// play is a run that is being done, as its workers see it.
type play struct {
	t      *testing.T
	n      noise
	run    api.Run
	now    int
	token  int         // the last one
	leases []int       // of each task
	task   map[int]int // of each token that may still count
	done   []string    // results, as they were told
	fails  int         // of ten answers so many are failures
}

// hold holds all calls against the chapter's words, at a time around now and with some token.
func (p *play) hold() {
	now := p.now - 1 + p.n.below(8)
	token := max(0, p.token-3+p.n.below(6))
	result := results()[p.n.below(len(results()))]
	holdSettleAndCancel(p.t, p.run, now)
	holdLease(p.t, p.run, now, token)
	holdAnswers(p.t, p.run, now, token, result)
}

// leaseAll leases tasks until none is due any more.
func (p *play) leaseAll() {
	for {
		r, i, e := Lease(p.run, p.now, p.token+1)
		if e == api.ErrIdle {
			return
		}
		if e != api.OK || p.done[i] != "" {
			p.t.Fatalf("Lease(%v, %d, %d): task %d, %d", p.run, p.now, p.token+1, i, e)
		}
		p.token++
		p.run, p.task[p.token] = r, i
		p.leases[i]++
	}
}

// answer has the holder of some token tell how it went, or none.
func (p *play) answer() {
	var held []int
	for _, s := range p.run.States {
		if s.Is == api.SHeld {
			held = append(held, s.Token)
		}
	}
	if len(held) == 0 || p.n.below(3) == 0 {
		return
	}
	token := held[p.n.below(len(held))]
	r, e := p.run, api.OK
	pick := p.n.below(10)
	result := string([]byte{'r', byte(p.n.below(256))})
	switch {
	case pick < p.fails:
		r, e = Fail(p.run, p.now, token)
	case pick == 9 && p.n.below(2) == 0:
		r, e = Beat(p.run, p.now, token)
	default:
		if r, e = Done(p.run, p.now, token, result); e == api.OK {
			p.done[p.task[token]] = result
		}
	}
	if e == api.OK {
		p.run = r
	} else if e != api.ErrToken {
		p.t.Fatalf("%v at %d with %d: %d", p.run, p.now, token, e)
	}
}

// played plays a run of a graph to its end.
func played(t *testing.T, d api.Dag, seed, fails int) *play {
	t.Helper()
	p := &play{t: t, n: noise(seed), run: mustNew(t, "k", d), leases: make([]int, len(d.Tasks)), task: map[int]int{}, done: make([]string, len(d.Tasks)), fails: fails}
	// Times are short against so many steps: a lease that nobody answers is over long ahead of the last one.
	for range 20000 {
		if p.run.Is != api.RGoes {
			return p
		}
		p.hold()
		p.leaseAll()
		p.hold()
		p.answer()
		p.now += p.n.below(3)
		g, e := Settle(p.run, p.now)
		if e != api.OK || !right(g) {
			t.Fatalf("%v at %d: %v, %d", p.run, p.now, g, e)
		}
		p.run = g
	}
	t.Fatalf("%v does not end: %v", d, p.run)
	return p
}

func TestRunsEnd(t *testing.T) {
	n := noise(195)
	ends := map[int]int{}
	for seed := range 2000 {
		d := mixed(&n, 1+n.below(10))
		p := played(t, d, seed, []int{0, 1, 5, 9}[seed%4])
		ends[p.run.Is]++
		all, most := 0, 0
		for i, x := range d.Tasks {
			all, most = all+p.leases[i], most+x.Tries
			if p.leases[i] > x.Tries {
				t.Fatalf("%v: task %d was leased %d times", p.run, i, p.leases[i])
			}
			if s := p.run.States[i]; s.Tried != p.leases[i] || (s.Is == api.SDone) != (p.done[i] != "") || s.Result != p.done[i] {
				t.Fatalf("%v: task %d, leased %d times, told %q", p.run, i, p.leases[i], p.done[i])
			}
		}
		if all > most {
			t.Fatalf("%v: %d leases of %d", p.run, all, most)
		}
		if whole := !slices.Contains(p.done, ""); whole != (p.run.Is == api.RDone) || !whole && p.run.Is != api.RLost {
			t.Fatalf("%v: told %q", p.run, p.done)
		}
	}
	if ends[api.RDone] < 200 || ends[api.RLost] < 200 {
		t.Errorf("plays end as %v", ends)
	}
}

// Each lease is over by itself: the run ends lost, behind as many leases as its first tasks may be tried.
func TestARunThatNobodyAnswers(t *testing.T) {
	for tries := 1; tries <= 8; tries++ {
		d := row()
		d.Tasks[0].Tries = tries
		r, now := mustNew(t, "k", d), 0
		leases := 0
		for r.Is == api.RGoes {
			r = mustLease(t, r, now, 1, 0)
			leases++
			now = r.States[0].Due
			if g, e := Settle(r, now-1); e != api.OK || !same(g, r) {
				t.Fatalf("%v is over at %d: %v, %d", r, now-1, g, e)
			}
			g, e := Settle(r, now)
			if e != api.OK {
				t.Fatal(e)
			}
			r, now = g, g.States[0].Due
		}
		if leases != tries || r.Is != api.RLost || r.States[0].Is != api.SLost || r.States[1] != gone(0) {
			t.Errorf("of %d tries, behind %d leases: %v", tries, leases, r)
		}
	}
}

// The most leases there may be: each task fails as often as it may, and then is done.
func TestAsManyLeasesAsTries(t *testing.T) {
	n := noise(1950)
	for range 300 {
		d := mixed(&n, 1+n.below(10))
		r, now, token, most := mustNew(t, "k", d), 0, 0, 0
		for _, x := range d.Tasks {
			most += x.Tries
		}
		for r.Is == api.RGoes {
			g, i, e := Lease(r, now, token+1)
			if e == api.ErrIdle {
				now++
				continue
			}
			if e != api.OK {
				t.Fatalf("%v at %d: %d", r, now, e)
			}
			token++
			if g.States[i].Tried < d.Tasks[i].Tries {
				r, e = Fail(g, now, token)
			} else {
				r, e = Done(g, now, token, "ok")
			}
			if e != api.OK {
				t.Fatalf("%v at %d with %d: %d", g, now, token, e)
			}
		}
		if r.Is != api.RDone || token != most {
			t.Errorf("%v, behind %d leases of %d", r, token, most)
		}
	}
}

// The rules, and P1

// roomy is a run whose lists have room behind their ends, where a careless append would write, and of which two lists are one.
func roomy() api.Run {
	needs := []int{0, 91, 92, 93}
	tasks := make([]api.Task, 5, 8)
	for i := range tasks[:8] {
		tasks[:8][i] = api.Task{Tries: 2, Wait: 3, Lease: 5}
	}
	tasks[1].Needs, tasks[2].Needs = needs[:1], needs[:1]
	tasks[3].Needs = append(make([]int, 0, 8), 1, 2)
	states := make([]api.State, 5, 8)
	for i := range states[:8] {
		states[:8][i] = held(1, 10, 70+i)
	}
	states[0], states[1], states[2], states[3], states[4] = ok(), held(1, 10, 7), dueAt(1, 9), waits(), held(2, 12, 8)
	return of(api.Dag{Name: "g", Tasks: tasks}, api.RGoes, states...)
}

// snap is all that lies in a run's lists, also behind their ends.
func snap(r api.Run) ([]int, []api.State) {
	var numbers []int
	for _, x := range r.Dag.Tasks[:cap(r.Dag.Tasks)] {
		numbers = append(numbers, len(x.Needs), x.Tries, x.Wait, x.Lease)
		numbers = append(numbers, x.Needs[:cap(x.Needs)]...)
	}
	return numbers, slices.Clone(r.States[:cap(r.States)])
}

// spoil writes over a run's lists, also behind their ends.
func spoil(r api.Run) {
	tasks := r.Dag.Tasks[:cap(r.Dag.Tasks)]
	for i, x := range tasks {
		needs := x.Needs[:cap(x.Needs)]
		for j := range needs {
			needs[j] = -7
		}
		tasks[i].Tries, tasks[i].Wait, tasks[i].Lease = -7, -7, -7
	}
	states := r.States[:cap(r.States)]
	for i := range states {
		states[i] = api.State{Is: -7}
	}
}

// R4: a run that was handed in has its lists as it had them, whatever is made of it, also when that is written over; and no two answers share a list.
func TestNoArgumentIsChanged(t *testing.T) {
	r := roomy()
	if !Right(r) {
		t.Fatalf("%v may not be", r)
	}
	numbers, states := snap(r)
	hold := func(name string) {
		t.Helper()
		n, s := snap(r)
		if !slices.Equal(n, numbers) || !slices.Equal(s, states) || r.Is != api.RGoes || len(r.States) != 5 {
			t.Fatalf("%s: %v, %v were %v, %v", name, n, s, numbers, states)
		}
	}
	count := 0
	for _, now := range []int{-1, 0, 8, 9, 10, 12, 20, highest} {
		for _, token := range []int{0, 1, 7, 8, 71} {
			for _, result := range results() {
				made(r, now, token, result, func(name string, g api.Run) {
					hold(name)
					count++
					was := copied(g)
					var again api.Run
					made(r, now, token, result, func(other string, g api.Run) {
						if other == name {
							again = g
						}
					})
					spoil(g)
					hold(name + ", written over")
					if !same(again, was) {
						t.Fatalf("%s at %d with %d, again: %v; was %v", name, now, token, again, was)
					}
				})
				hold("an error")
			}
		}
	}
	if count < 100 {
		t.Errorf("only %d answers were told", count)
	}
	Right(r)
	hold("Right")
	g, e := New("k", r.Dag)
	if e != api.OK {
		t.Fatal(e)
	}
	hold("New")
	spoil(g)
	hold("New, written over")
}

// Also no two lists of one answer are one, where those handed in are.
func TestListsOfAnAnswerAreApart(t *testing.T) {
	hold := func(name string, g api.Run) {
		t.Helper()
		g.Dag.Tasks[1].Needs[0] = -7
		if g.Dag.Tasks[2].Needs[0] != 0 {
			t.Errorf("%s: the Needs of two tasks are one list", name)
		}
	}
	for _, token := range []int{1, 7} {
		made(roomy(), 9, token, "ok", hold)
	}
	g, _ := New("k", roomy().Dag)
	hold("New", g)
}

// R3: a nil list counts as an empty one.
func TestNilAndEmptyLists(t *testing.T) {
	for _, none := range [][]int{nil, {}} {
		d := graph(none, []int{0})
		r := of(d, api.RGoes, held(1, 15, 7), waits())
		g, e := Done(r, 3, 7, "ok")
		want(t, "Done", g, e, api.RGoes, ok(), dueAt(0, 0))
	}
	for _, states := range [][]api.State{nil, {}} {
		if r := of(loose(1), api.RGoes, states...); Right(r) {
			t.Errorf("Right(%v)", r)
		}
		if r := of(api.Dag{Name: "g"}, api.RDone, states...); Right(r) {
			t.Errorf("Right(%v)", r)
		}
	}
}

// R1: no call hangs on what was called ahead of it.
func TestNothingIsKept(t *testing.T) {
	calls := func() []api.Run {
		var all []api.Run
		for _, now := range []int{0, 9, 10, 12} {
			for _, token := range []int{1, 7, 8} {
				made(roomy(), now, token, "ok", func(_ string, g api.Run) { all = append(all, g) })
			}
		}
		return all
	}
	first := calls()
	for range 3 {
		if again := calls(); !slices.EqualFunc(again, first, same) {
			t.Errorf("%v, then %v", first, again)
		}
	}
}

// R5: texts are held against one another byte by byte, and results are told as they are.
func TestResultsAreBytes(t *testing.T) {
	for _, result := range []string{"\x00", "\xff\xc0", "ü", "u\u0308", strings.Repeat("\x00", 16)} {
		r := mustDone(t, of(row(), api.RGoes, held(1, 15, 7), waits()), 3, 7, result)
		if r.States[0].Result != result {
			t.Errorf("%q was told as %q", result, r.States[0].Result)
		}
	}
}

// spoiled is a run that could be one, but for some faults.
func spoiled(n *noise) api.Run {
	numbers := []int{lowest, lowest + 1, -1 << 40, -1, 0, 1, 2, 3, 4, 5, 6, 8, 9, 15, end, end + 1, highest - 1, highest}
	one := func() int { return numbers[n.below(len(numbers))] }
	d := mixed(n, 1+n.below(11))
	states := make([]api.State, len(d.Tasks))
	for i := range states {
		states[i] = kinds()[n.below(len(kinds()))]
		switch n.below(20) {
		case 0:
			states[i] = api.State{Is: one(), Tried: one(), Due: one(), Token: one(), Result: strings.Repeat("r", n.below(20))}
		case 1:
			d.Tasks[i] = api.Task{Needs: []int{one()}, Tries: one(), Wait: one(), Lease: one()}
		case 2:
			states[i].Token = one()
		}
	}
	is := n.below(4)
	if n.below(5) == 0 {
		is = one()
	}
	r := of(d, is, states...)
	switch n.below(20) {
	case 0:
		r.States = r.States[1:]
	case 1:
		r.States = append(r.States, states...)
	case 2:
		r.Dag.Tasks = nil
	case 3:
		r.Key = strings.Repeat("k", n.below(20))
	}
	return r
}

// P1: at all arguments every call ends and none panics; beside an error all else is zero.
func TestEveryCallEnds(t *testing.T) {
	n := noise(9)
	numbers := append(times(), someTokens()...)
	one := func() int { return numbers[n.below(len(numbers))] }
	hold := func(name string, r, g api.Run, e api.Errno, may ...api.Errno) {
		t.Helper()
		if e != api.OK && (!isZero(g) || !slices.Contains(may, e)) || e == api.OK && !Right(g) {
			t.Fatalf("%s of %v: %v, %d", name, r, g, e)
		}
	}
	for range 200000 {
		r := spoiled(&n)
		if Right(r) != right(r) {
			t.Fatalf("Right(%v) = %t", r, Right(r))
		}
		g, e := New(r.Key, r.Dag)
		hold("New", r, g, e, api.ErrArg, api.ErrLong, api.ErrCycle)
		g, e = Settle(r, one())
		hold("Settle", r, g, e, api.ErrArg)
		g, _, e = Lease(r, one(), one())
		hold("Lease", r, g, e, api.ErrArg, api.ErrIdle)
		g, e = Beat(r, one(), one())
		hold("Beat", r, g, e, api.ErrArg, api.ErrToken)
		g, e = Done(r, one(), one(), strings.Repeat("r", n.below(20)))
		hold("Done", r, g, e, api.ErrArg, api.ErrToken)
		g, e = Fail(r, one(), one())
		hold("Fail", r, g, e, api.ErrArg, api.ErrToken)
		g, e = Cancel(r, one())
		hold("Cancel", r, g, e, api.ErrArg, api.ErrDone)
	}
}
