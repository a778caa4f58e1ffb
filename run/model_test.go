package run

import (
	"math"
	"slices"
	"strings"
	"testing"

	"penelope/api"
	"penelope/dag"
	"penelope/task"
)

const (
	lowest  = math.MinInt
	highest = math.MaxInt
	end     = 1 << 40 // the last time, and the last token
)

// noise tells numbers that look like no pattern, the same ones each time.
type noise uint32

func (n *noise) below(limit int) int {
	*n = *n*1664525 + 1013904223
	return int(uint32(*n)>>8) % limit
}

// graph is one of tasks of two tries with these needs.
func graph(needs ...[]int) api.Dag {
	d := api.Dag{Name: "g"}
	for _, l := range needs {
		d.Tasks = append(d.Tasks, api.Task{Needs: l, Tries: 2, Wait: 3, Lease: 5})
	}
	return d
}

// loose is a graph of so many tasks without needs.
func loose(tasks int) api.Dag { return graph(make([][]int, tasks)...) }

func held(tried, due, token int) api.State {
	return api.State{Is: api.SHeld, Tried: tried, Due: due, Token: token}
}

func dueAt(tried, due int) api.State { return api.State{Is: api.SDue, Tried: tried, Due: due} }

func gone(tried int) api.State { return api.State{Is: api.SGone, Tried: tried} }

// ok is a task that was done at once, lost one of the graphs above that was not.
func ok() api.State { return api.State{Is: api.SDone, Tried: 1, Result: "ok"} }

func lost() api.State { return api.State{Is: api.SLost, Tried: 2} }

func waits() api.State { return api.State{} }

// of is a run of a graph.
func of(d api.Dag, is int, states ...api.State) api.Run {
	return api.Run{Key: "k", Dag: d, Is: is, States: states}
}

// copied shares no list with the run.
func copied(r api.Run) api.Run {
	tasks := make([]api.Task, 0, len(r.Dag.Tasks))
	for _, t := range r.Dag.Tasks {
		t.Needs = append([]int(nil), t.Needs...)
		tasks = append(tasks, t)
	}
	r.Dag.Tasks = tasks
	r.States = append([]api.State(nil), r.States...)
	return r
}

func sameDag(a, b api.Dag) bool {
	return a.Name == b.Name && slices.EqualFunc(a.Tasks, b.Tasks, func(s, t api.Task) bool {
		return slices.Equal(s.Needs, t.Needs) && s.Tries == t.Tries && s.Wait == t.Wait && s.Lease == t.Lease
	})
}

// same holds runs against one another; a nil list is an empty one (R3).
func same(a, b api.Run) bool {
	return a.Key == b.Key && a.Is == b.Is && sameDag(a.Dag, b.Dag) && slices.Equal(a.States, b.States)
}

func isZero(r api.Run) bool { return same(r, api.Run{}) }

// The chapter's words, said one by one.

func is(states []api.State, kind int) bool {
	for _, s := range states {
		if s.Is == kind {
			return true
		}
	}
	return false
}

func allDone(states []api.State) bool {
	for _, s := range states {
		if s.Is != 3 {
			return false
		}
	}
	return true
}

// needsDone tells of each task whether all that it needs is done.
func needsDone(r api.Run) []bool {
	all := make([]bool, len(r.States))
	for i, t := range r.Dag.Tasks {
		all[i] = true
		for _, need := range t.Needs {
			all[i] = all[i] && r.States[need].Is == 3
		}
	}
	return all
}

func right(r api.Run) bool {
	if len(r.Key) < 1 || len(r.Key) > 16 || dag.Right(r.Dag) != 0 || len(r.States) != len(r.Dag.Tasks) {
		return false
	}
	for i, s := range r.States {
		if !task.Right(r.Dag.Tasks[i], s) {
			return false
		}
		for j := range i {
			if s.Token > 0 && s.Token == r.States[j].Token {
				return false
			}
		}
	}
	for i, needs := range needsDone(r) {
		kind := r.States[i].Is
		done := kind == 3
		free := !done && needs
		if (kind == 0) != (!free && !done && kind != 5) {
			return false
		}
		if (kind == 1 || kind == 2 || kind == 3 || kind == 4) && !needs {
			return false
		}
	}
	none := !is(r.States, 0) && !is(r.States, 1) && !is(r.States, 2)
	if allDone(r.States) {
		return r.Is == 1
	}
	if is(r.States, 4) {
		return r.Is == 2 && none
	}
	if none {
		return r.Is == 3
	}
	return r.Is == 0 && !is(r.States, 5)
}

func mend(r api.Run) api.Run {
	r = copied(r)
	if is(r.States, 4) {
		for i, s := range r.States {
			if s.Is != 4 {
				r.States[i] = task.Cancel(s)
			}
		}
		r.Is = 2
		return r
	}
	for i, needs := range needsDone(r) {
		if r.States[i].Is == 0 && needs {
			r.States[i] = task.Ready(r.States[i])
		}
	}
	if allDone(r.States) {
		r.Is = 1
	}
	return r
}

func counted(t int) int {
	if t < 0 {
		return 0
	}
	if t > end {
		return end
	}
	return t
}

func settle(r api.Run, now int) api.Run {
	for {
		var over []int
		for i, s := range r.States {
			if s.Is == 2 && s.Due <= counted(now) {
				over = append(over, i)
			}
		}
		if len(over) == 0 {
			return copied(r)
		}
		slices.SortStableFunc(over, func(i, j int) int { return r.States[i].Due - r.States[j].Due })
		r = copied(r)
		r.States[over[0]] = task.Expire(r.Dag.Tasks[over[0]], r.States[over[0]], now)
		r = mend(r)
	}
}

func lease(r api.Run, now, token int) (api.Run, int, api.Errno) {
	if !right(r) {
		return api.Run{}, 0, 1
	}
	r = settle(r, now)
	if token < 1 || token > end {
		return api.Run{}, 0, 1
	}
	for _, s := range r.States {
		if s.Token == token {
			return api.Run{}, 0, 1
		}
	}
	if r.Is != 0 {
		return api.Run{}, 0, 192
	}
	for i, s := range r.States {
		if s.Is == 1 && s.Due <= counted(now) {
			var e api.Errno
			r.States[i], e = task.Lease(r.Dag.Tasks[i], s, now, token)
			return r, i, e
		}
	}
	return api.Run{}, 0, 192
}

// answer is Beat, Done and Fail, of which one is told by its name.
func answer(name string, r api.Run, now, token int, result string) (api.Run, api.Errno) {
	if !right(r) {
		return api.Run{}, 1
	}
	r = settle(r, now)
	for i, s := range r.States {
		if s.Is != 2 || s.Token != token {
			continue
		}
		var e api.Errno
		switch name {
		case "Beat":
			s, e = task.Beat(r.Dag.Tasks[i], s, now)
		case "Done":
			s, e = task.Done(r.Dag.Tasks[i], s, result)
		case "Fail":
			s, e = task.Fail(r.Dag.Tasks[i], s, now)
		}
		if e != 0 {
			return api.Run{}, e
		}
		r.States[i] = s
		return mend(r), 0
	}
	return api.Run{}, 191
}

func cancel(r api.Run, now int) (api.Run, api.Errno) {
	if !right(r) {
		return api.Run{}, 1
	}
	r = settle(r, now)
	if r.Is != 0 {
		return api.Run{}, 193
	}
	for i, s := range r.States {
		r.States[i] = task.Cancel(s)
	}
	r.Is = 3
	return r, 0
}

// Arguments at the edges that the chapter names, and beyond them.

func times() []int { return []int{lowest, -1, 0, 9, 10, 11, 12, 14, 15, 16, end, highest} }

func someTokens() []int { return []int{lowest, -1, 0, 1, 7, 8, 9, end, end + 1, highest} }

func results() []string {
	return []string{"", "done", strings.Repeat("r", 16), strings.Repeat("r", 17)}
}

// kinds are states of a task of two tries, as they may be.
func kinds() []api.State {
	return []api.State{
		waits(),
		dueAt(0, 0), dueAt(1, 15),
		held(1, 15, 7), held(2, 15, 8), held(1, 11, 9), held(2, 10, 1), held(2, 11, 7), held(1, 0, end),
		ok(), {Is: api.SDone, Tried: 2},
		lost(),
		gone(0), gone(2),
	}
}

// faulty are some that may not be with such a task.
func faulty() []api.State {
	return []api.State{
		{Is: -1}, {Is: 6}, dueAt(2, 15), held(1, 15, 0), held(0, 15, 7), held(1, end+1, 7),
		{Due: 1}, {Is: api.SLost, Tried: 1}, {Is: api.SGone, Token: 7}, {Is: api.SDone, Tried: 1, Result: strings.Repeat("r", 17)},
	}
}

// graphs are all graphs of up to three tasks that may be.
func graphs() []api.Dag {
	var all []api.Dag
	for tasks := 1; tasks <= 3; tasks++ {
		for bits := range 1 << (tasks * tasks) {
			needs := make([][]int, tasks)
			for i := range tasks * tasks {
				if bits>>i&1 == 1 {
					needs[i/tasks] = append(needs[i/tasks], i%tasks)
				}
			}
			if d := graph(needs...); dag.Right(d) == api.OK {
				all = append(all, d)
			}
		}
	}
	return all
}

// fill calls f with all rows of so many of these states.
func fill(size int, from []api.State, f func([]api.State)) {
	row := make([]api.State, size)
	var lay func(at int)
	lay = func(at int) {
		if at == size {
			f(row)
			return
		}
		for _, s := range from {
			row[at] = s
			lay(at + 1)
		}
	}
	lay(0)
}

// runs calls f with runs of all these graphs and states, however they are; those that may not be among them.
func runs(from []api.State, f func(api.Run)) {
	for _, d := range graphs() {
		fill(len(d.Tasks), from, func(states []api.State) {
			for is := -1; is <= 4; is++ {
				f(of(d, is, states...))
			}
		})
	}
}

// sound are those that may be.
func sound() []api.Run {
	var all []api.Run
	runs(kinds(), func(r api.Run) {
		if right(r) {
			all = append(all, copied(r))
		}
	})
	return all
}

// odd are some of those that may not.
func odd() []api.Run {
	var all []api.Run
	n := noise(19)
	runs(append(kinds(), faulty()...), func(r api.Run) {
		if n.below(400) == 0 && !right(r) {
			all = append(all, copied(r))
		}
	})
	return all
}

// The calls are held against these words, at all edges together.

func TestRightIsAsWritten(t *testing.T) {
	may := 0
	runs(append(kinds(), faulty()...), func(r api.Run) {
		want := right(r)
		if Right(r) != want {
			t.Fatalf("Right(%v) = %t", r, !want)
		}
		if want {
			may++
		}
	})
	if may < 2000 {
		t.Errorf("only %d of them may be", may)
	}
}

func TestNewIsAsWritten(t *testing.T) {
	for _, d := range graphs() {
		r, e := New("k", d)
		if want := mend(of(d, api.RGoes, make([]api.State, len(d.Tasks))...)); e != api.OK || !same(r, want) {
			t.Errorf("New of %v: %v, %d; want %v", d, r, e, want)
		}
	}
}

// holdLease and holdAnswers hold calls against the words, at one time and with one token.
func holdLease(t *testing.T, r api.Run, now, token int) {
	t.Helper()
	g, i, e := Lease(r, now, token)
	if want, at, why := lease(r, now, token); !same(g, want) || i != at || e != why {
		t.Fatalf("Lease(%v, %d, %d) = %v, %d, %d; want %v, %d, %d", r, now, token, g, i, e, want, at, why)
	}
}

func holdAnswers(t *testing.T, r api.Run, now, token int, result string) {
	t.Helper()
	hold := func(name string, g api.Run, e api.Errno) {
		t.Helper()
		if want, why := answer(name, r, now, token, result); !same(g, want) || e != why {
			t.Fatalf("%s(%v, %d, %d, %q) = %v, %d; want %v, %d", name, r, now, token, result, g, e, want, why)
		}
	}
	g, e := Beat(r, now, token)
	hold("Beat", g, e)
	g, e = Done(r, now, token, result)
	hold("Done", g, e)
	g, e = Fail(r, now, token)
	hold("Fail", g, e)
}

func holdSettleAndCancel(t *testing.T, r api.Run, now int) {
	t.Helper()
	want, why := api.Run{}, api.ErrArg
	if right(r) {
		want, why = settle(r, now), api.OK
	}
	if g, e := Settle(r, now); !same(g, want) || e != why {
		t.Fatalf("Settle(%v, %d) = %v, %d; want %v, %d", r, now, g, e, want, why)
	}
	g, e := Cancel(r, now)
	if want, why := cancel(r, now); !same(g, want) || e != why {
		t.Fatalf("Cancel(%v, %d) = %v, %d; want %v, %d", r, now, g, e, want, why)
	}
}

func TestCallsAreAsWritten(t *testing.T) {
	all := sound()
	for i, r := range all {
		for j, now := range times() {
			holdSettleAndCancel(t, r, now)
			for k, token := range someTokens() {
				holdLease(t, r, now, token)
				holdAnswers(t, r, now, token, results()[(i+j+k)%len(results())])
			}
		}
	}
	if len(all) < 2000 {
		t.Errorf("only %d runs may be", len(all))
	}
}

func TestCallsOfWhatMayNotBeAreAsWritten(t *testing.T) {
	all := odd()
	for i, r := range all {
		now, token := times()[i%len(times())], someTokens()[i%len(someTokens())]
		holdSettleAndCancel(t, r, now)
		holdLease(t, r, now, token)
		holdAnswers(t, r, now, token, results()[i%len(results())])
	}
	if len(all) < 1000 {
		t.Errorf("only %d runs may not be", len(all))
	}
}
