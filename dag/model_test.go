package dag

import (
	"slices"
	"strings"
	"testing"

	"penelope/api"
)

// noise tells numbers that look like no pattern, the same ones each time.
type noise uint32

func (n *noise) below(limit int) int {
	*n = *n*1664525 + 1013904223
	return int(uint32(*n)>>8) % limit
}

// graph is one that may be, as far as its needs may.
func graph(needs ...[]int) api.Dag {
	d := api.Dag{Name: "g"}
	for _, l := range needs {
		d.Tasks = append(d.Tasks, api.Task{Needs: l, Tries: 1, Lease: 1})
	}
	return d
}

// loose is a graph of so many tasks without needs.
func loose(tasks int) api.Dag { return graph(make([][]int, tasks)...) }

// greatest is the graph of the most bytes: each task needs all that stand ahead of it.
func greatest() api.Dag {
	d := api.Dag{Name: strings.Repeat("n", 16)}
	for i := range 10 {
		var needs []int
		for need := range i {
			needs = append(needs, need)
		}
		d.Tasks = append(d.Tasks, api.Task{Needs: needs, Tries: 8, Wait: 1 << 20, Lease: 1 << 20})
	}
	return d
}

// with is a twin of a graph in which one task is changed.
func with(d api.Dag, task int, change func(*api.Task)) api.Dag {
	d = twin(d)
	change(&d.Tasks[task])
	return d
}

func named(d api.Dag, name string) api.Dag {
	d = twin(d)
	d.Name = name
	return d
}

// twin shares no list with the graph, in which also what lies behind the ends of lists is as it was.
func twin(d api.Dag) api.Dag {
	all := slices.Clone(d.Tasks[:cap(d.Tasks)])
	for i, t := range all {
		all[i].Needs = slices.Clone(t.Needs[:cap(t.Needs)])[:len(t.Needs)]
	}
	return api.Dag{Name: d.Name, Tasks: all[:len(d.Tasks)]}
}

// same holds graphs against one another; a nil list is an empty one (R3).
func same(a, b api.Dag) bool {
	return a.Name == b.Name && slices.EqualFunc(a.Tasks, b.Tasks, func(s, t api.Task) bool {
		return slices.Equal(s.Needs, t.Needs) && s.Tries == t.Tries && s.Wait == t.Wait && s.Lease == t.Lease
	})
}

func isZero(d api.Dag) bool { return d.Name == "" && len(d.Tasks) == 0 }

// untouched tells whether a graph is as its twin was, also behind the ends of its lists.
func untouched(d, was api.Dag) bool {
	whole := func(d api.Dag) api.Dag {
		d.Tasks = slices.Clone(d.Tasks[:cap(d.Tasks)])
		for i, t := range d.Tasks {
			d.Tasks[i].Needs = t.Needs[:cap(t.Needs)]
		}
		return d
	}
	a, b := whole(d), whole(was)
	n := min(len(a.Tasks), len(b.Tasks))
	a.Tasks, b.Tasks = a.Tasks[:n], b.Tasks[:n]
	for i := range n {
		m := min(len(a.Tasks[i].Needs), len(b.Tasks[i].Needs))
		a.Tasks[i].Needs, b.Tasks[i].Needs = a.Tasks[i].Needs[:m], b.Tasks[i].Needs[:m]
	}
	return len(d.Tasks) == len(was.Tasks) && same(a, b)
}

// The chapter's words, said one by one.

// round tells whether a task comes, from need to need, to itself.
func round(d api.Dag) bool {
	comes := make([][]bool, len(d.Tasks))
	for i, t := range d.Tasks {
		comes[i] = make([]bool, len(d.Tasks))
		for _, need := range t.Needs {
			comes[i][need] = true
		}
	}
	for by := range comes {
		for from := range comes {
			for to := range comes {
				if comes[from][by] && comes[by][to] {
					comes[from][to] = true
				}
			}
		}
	}
	for i := range comes {
		if comes[i][i] {
			return true
		}
	}
	return false
}

func mayBeButForRounds(d api.Dag) bool {
	if len(d.Name) < 1 || len(d.Name) > 16 || len(d.Tasks) < 1 || len(d.Tasks) > 10 {
		return false
	}
	for _, t := range d.Tasks {
		for i, need := range t.Needs {
			if need < 0 || need > len(d.Tasks)-1 || i > 0 && t.Needs[i-1] >= need {
				return false
			}
		}
		if t.Tries < 1 || t.Tries > 8 || t.Wait < 0 || t.Wait > 1048576 || t.Lease < 1 || t.Lease > 1048576 {
			return false
		}
	}
	return true
}

// right is Right word for word.
func right(d api.Dag) api.Errno {
	switch {
	case len(d.Tasks) > 10:
		return api.ErrLong
	case !mayBeButForRounds(d):
		return api.ErrArg
	case round(d):
		return api.ErrCycle
	}
	return api.OK
}

// free is Free word for word, of a graph that may be.
func free(d api.Dag, done []bool) []int {
	var all []int
	for i, t := range d.Tasks {
		is := !done[i]
		for _, need := range t.Needs {
			if !done[need] {
				is = false
			}
		}
		if is {
			all = append(all, i)
		}
	}
	return all
}

// order is Order word for word, of a graph that may be.
func order(d api.Dag) []int {
	var all []int
	done := make([]bool, len(d.Tasks))
	for len(all) < len(d.Tasks) {
		least := free(d, done)[0]
		all = append(all, least)
		done[least] = true
	}
	return all
}

// hasRoom tells whether each of a graph's numbers has room in its bytes, so that its bytes tell it and no other one.
func hasRoom(d api.Dag) bool {
	within := func(n, size int) bool { return n >= 0 && n < 1<<(8*size) }
	if !within(len(d.Name), 2) || !within(len(d.Tasks), 1) {
		return false
	}
	for _, t := range d.Tasks {
		for _, need := range t.Needs {
			if !within(need, 1) {
				return false
			}
		}
		if !within(len(t.Needs), 1) || !within(t.Tries, 1) || !within(t.Wait, 3) || !within(t.Lease, 3) {
			return false
		}
	}
	return true
}

// laid is the bytes of a graph that has room, also of one that may not be.
func laid(d api.Dag) string {
	b := []byte{byte(len(d.Name) >> 8), byte(len(d.Name))}
	b = append(b, d.Name...)
	b = append(b, byte(len(d.Tasks)))
	for _, t := range d.Tasks {
		b = append(b, byte(len(t.Needs)))
		for _, need := range t.Needs {
			b = append(b, byte(need))
		}
		b = append(b, byte(t.Tries))
		b = append(b, byte(t.Wait>>16), byte(t.Wait>>8), byte(t.Wait))
		b = append(b, byte(t.Lease>>16), byte(t.Lease>>8), byte(t.Lease))
	}
	return string(b)
}

// got is Get word for word.
func got(s string) (api.Dag, api.Errno) {
	var d api.Dag
	short := false
	take := func(size int) string {
		if short || len(s) < size {
			short = true
			return strings.Repeat("\x00", size)
		}
		head := s[:size]
		s = s[size:]
		return head
	}
	number := func(size int) int {
		n := 0
		for _, b := range []byte(take(size)) {
			n = 256*n + int(b)
		}
		return n
	}
	d.Name = take(number(2))
	d.Tasks = make([]api.Task, number(1))
	for i := range d.Tasks {
		d.Tasks[i].Needs = make([]int, number(1))
		for j := range d.Tasks[i].Needs {
			d.Tasks[i].Needs[j] = number(1)
		}
		d.Tasks[i].Tries = number(1)
		d.Tasks[i].Wait = number(3)
		d.Tasks[i].Lease = number(3)
	}
	e := right(d)
	switch {
	case short:
		e = api.ErrShort
	case s != "":
		e = api.ErrForm
	}
	if e != api.OK {
		d = api.Dag{}
	}
	return d, e
}

// Many graphs.

// small calls f with all graphs of so many tasks whose needs rise, those with rounds among them.
func small(tasks int, f func(api.Dag)) {
	for bits := range 1 << (tasks * tasks) {
		needs := make([][]int, tasks)
		for i := range tasks * tasks {
			if bits>>i&1 == 1 {
				needs[i/tasks] = append(needs[i/tasks], i%tasks)
			}
		}
		f(graph(needs...))
	}
}

// mixed is a graph of so many tasks without a round, whose tasks need others at any place.
func mixed(n *noise, tasks int) api.Dag {
	d := api.Dag{Name: strings.Repeat("m", 1+n.below(16)), Tasks: make([]api.Task, tasks)}
	places := make([]int, tasks)
	for i := range places {
		places[i] = i
	}
	for i := range places {
		j := n.below(i + 1)
		places[i], places[j] = places[j], places[i]
	}
	often := 1 + n.below(5)
	for i, place := range places {
		t := api.Task{Tries: 1 + n.below(8), Wait: n.below(1<<20 + 1), Lease: 1 + n.below(1<<20)}
		for _, need := range places[:i] {
			if n.below(often) == 0 {
				t.Needs = append(t.Needs, need)
			}
		}
		slices.Sort(t.Needs)
		d.Tasks[place] = t
	}
	return d
}

// mixedOnes calls f with many graphs of all counts of tasks.
func mixedOnes(f func(api.Dag)) {
	var n noise = 16
	for tasks := 1; tasks <= 10; tasks++ {
		for range 200 {
			f(mixed(&n, tasks))
		}
	}
}

// doneBy is which of so many tasks are done, told by a number's bits.
func doneBy(bits, tasks int) []bool {
	done := make([]bool, tasks)
	for i := range done {
		done[i] = bits>>i&1 == 1
	}
	return done
}

func mustPut(t *testing.T, d api.Dag) string {
	t.Helper()
	s, e := Put(d)
	if e != api.OK {
		t.Fatalf("Put(%v): %d", d, e)
	}
	return s
}
