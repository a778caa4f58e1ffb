package engine

import (
	"fmt"
	"math"
	"slices"
	"strings"
	"testing"

	"penelope/api"
	"penelope/device"
	"penelope/look"
	"penelope/rows"
	"penelope/store"
	"penelope/world"
)

const (
	lowest  = math.MinInt
	highest = math.MaxInt
	end     = 1 << 40 // the last time, the last token, and the last generation
)

// noise tells numbers that look like no pattern, the same ones each time.
type noise uint32

func (n *noise) below(limit int) int {
	*n = *n*1664525 + 1013904223
	return int(uint32(*n)>>8) % limit
}

func pick[T any](n *noise, all []T) T { return all[n.below(len(all))] }

func long(letter string) string { return strings.Repeat(letter, 16) }

// graph is one of tasks of two tries with these needs.
func graph(name string, needs ...[]int) api.Dag {
	d := api.Dag{Name: name}
	for _, l := range needs {
		d.Tasks = append(d.Tasks, api.Task{Needs: l, Tries: 2, Wait: 3, Lease: 5})
	}
	return d
}

// row is a graph of two tasks, of which the second needs the first, ten one of ten that need none.
func row(name string) api.Dag { return graph(name, nil, []int{0}) }

func ten(name string) api.Dag { return graph(name, make([][]int, 10)...) }

// Commands.

func dagOf(d api.Dag) api.Command { return api.Command{Kind: api.CDag, Dag: d} }

func start(key, name string) api.Command {
	return api.Command{Kind: api.CStart, Key: key, Name: name}
}

func poll() api.Command { return api.Command{Kind: api.CPoll} }

func beat(token int) api.Command { return api.Command{Kind: api.CBeat, Token: token} }

func done(token int, text string) api.Command {
	return api.Command{Kind: api.CDone, Token: token, Text: text}
}

func fail(token int) api.Command { return api.Command{Kind: api.CFail, Token: token} }

func cancel(key string) api.Command { return api.Command{Kind: api.CCancel, Key: key} }

func tick(time int) api.Command { return api.Command{Kind: api.CTick, Time: time} }

func state(key string) api.Command { return api.Command{Kind: api.CState, Key: key} }

func sync() api.Command { return api.Command{Kind: api.CSync} }

// Copies, which share no list.

func copied(w api.World) api.World {
	var dags []api.Dag
	for _, d := range w.Dags {
		dags = append(dags, copiedDag(d))
	}
	var all []api.Run
	for _, r := range w.Runs {
		r.Dag, r.States = copiedDag(r.Dag), append([]api.State(nil), r.States...)
		all = append(all, r)
	}
	w.Dags, w.Runs = dags, all
	return w
}

func copiedDag(d api.Dag) api.Dag {
	var tasks []api.Task
	for _, t := range d.Tasks {
		t.Needs = append([]int(nil), t.Needs...)
		tasks = append(tasks, t)
	}
	d.Tasks = tasks
	return d
}

func copiedStore(s api.Store) api.Store {
	s.Blocks, s.Pending = slices.Clone(s.Blocks), slices.Clone(s.Pending)
	s.Wood.Base, s.Wood.Now, s.Wood.Pages = slices.Clone(s.Wood.Base), slices.Clone(s.Wood.Now), slices.Clone(s.Wood.Pages)
	return s
}

func copiedEngine(e api.Engine) api.Engine {
	return api.Engine{Store: copiedStore(e.Store), World: copied(e.World)}
}

// What is one; a nil list is an empty one (R3).

func sameTask(a, b api.Task) bool {
	return slices.Equal(a.Needs, b.Needs) && a.Tries == b.Tries && a.Wait == b.Wait && a.Lease == b.Lease
}

func sameDag(a, b api.Dag) bool {
	return a.Name == b.Name && slices.EqualFunc(a.Tasks, b.Tasks, sameTask)
}

func sameRun(a, b api.Run) bool {
	return a.Key == b.Key && a.Is == b.Is && sameDag(a.Dag, b.Dag) && slices.Equal(a.States, b.States)
}

func same(a, b api.World) bool {
	return a.Now == b.Now && a.Token == b.Token && slices.EqualFunc(a.Dags, b.Dags, sameDag) && slices.EqualFunc(a.Runs, b.Runs, sameRun)
}

func sameDevice(a, b api.Device) bool {
	return slices.Equal(a.Blocks, b.Blocks) && slices.Equal(a.Pending, b.Pending)
}

func sameWood(a, b api.Wood) bool {
	return slices.Equal(a.Base, b.Base) && slices.Equal(a.Now, b.Now) && slices.Equal(a.Pages, b.Pages) && a.Root == b.Root && a.Gen == b.Gen
}

func sameStore(a, b api.Store) bool {
	return sameDevice(a.Device, b.Device) && a.Left == b.Left && a.Super == b.Super && a.Slot == b.Slot && sameWood(a.Wood, b.Wood) && a.Seq == b.Seq && a.Synced == b.Synced
}

func sameEngine(a, b api.Engine) bool { return sameStore(a.Store, b.Store) && same(a.World, b.World) }

func sameAnswer(a, b api.Answer) bool {
	return a.Why == b.Why && a.Key == b.Key && a.Task == b.Task && a.Token == b.Token && a.Is == b.Is && slices.Equal(a.States, b.States)
}

func brief(s string) string {
	if len(s) > 12 {
		return fmt.Sprintf("%x..(%d)", s[:12], len(s))
	}
	return fmt.Sprintf("%x", s)
}

func show(e api.Engine) string {
	var parts []string
	for block, s := range e.Blocks {
		if s != "" {
			parts = append(parts, fmt.Sprintf("%d:%s", block, brief(s)))
		}
	}
	for _, w := range e.Pending {
		parts = append(parts, fmt.Sprintf("pending %d:%s", w.Block, brief(w.Bytes)))
	}
	return fmt.Sprintf("%d blocks %v, left %d, super %v, slot %d, root %d, gen %d, seq %d, synced %d, world %v",
		len(e.Blocks), parts, e.Left, e.Super, e.Slot, e.Wood.Root, e.Wood.Gen, e.Seq, e.Synced, e.World)
}

// powered is an engine with power for so many calls.
func powered(e api.Engine, left int) api.Engine {
	e.Left = left
	return e
}

// The chapter's words, said one by one.

// pairsOf are the pairs of a tree, leaf by leaf.
func pairsOf(w api.Wood) []api.Pair {
	var all []api.Pair
	var gather func(block int)
	gather = func(block int) {
		n, bad := look.Load(w, block, block == w.Root)
		if bad != api.OK {
			panic(fmt.Sprint("no tree: ", bad))
		}
		for i := range n.Vals {
			all = append(all, api.Pair{Key: n.Keys[i], Val: n.Vals[i]})
		}
		for _, kid := range n.Kids {
			gather(kid)
		}
	}
	if w.Root != 0 {
		gather(w.Root)
	}
	return all
}

func rightOf(e api.Engine) bool {
	if !store.Right(e.Store) || !world.Right(e.World) {
		return false
	}
	want, _ := rows.Rows(e.World)
	return slices.Equal(pairsOf(e.Wood), want)
}

func newOf(n int) (api.Engine, api.Errno) {
	s, bad := store.New(n)
	if bad != api.OK {
		return api.Engine{}, bad
	}
	return api.Engine{Store: s, World: api.World{}}, api.OK
}

// gone is an engine whose power has gone.
func gone(p api.Power) api.Engine { return api.Engine{Store: api.Store{Power: p}} }

func openOf(p api.Power) (api.Engine, api.Errno) {
	s, bad := store.Open(p)
	switch {
	case bad == api.ErrDown:
		return gone(s.Power), bad
	case bad != api.OK:
		return api.Engine{}, bad
	}
	w, bad := rows.Load(pairsOf(s.Wood)...)
	if bad != api.OK {
		return api.Engine{}, api.ErrCorrupt
	}
	return api.Engine{Store: s, World: w}, api.OK
}

func doOf(e api.Engine, c api.Command) (api.Engine, api.Answer) {
	var a api.Answer
	var s api.Store
	var bad api.Errno
	w := e.World
	switch {
	case !rightOf(e):
		return e, api.Answer{Why: api.ErrArg}
	case c.Kind == api.CSync:
		s, bad = store.Sync(e.Store)
	default:
		if w, a = world.Do(e.World, c); a.Why != api.OK || samePairs(e.World, w) {
			return e, a
		}
		changes, why := rows.Diff(e.World, w)
		if why != api.OK {
			panic("no world")
		}
		s, bad = store.Do(e.Store, changes...)
	}
	switch bad {
	case api.OK:
		return api.Engine{Store: s, World: w}, a
	case api.ErrDown:
		return gone(s.Power), api.Answer{Why: api.ErrDown}
	}
	return e, api.Answer{Why: bad}
}

func samePairs(a, b api.World) bool {
	p, _ := rows.Rows(a)
	q, _ := rows.Rows(b)
	return slices.Equal(p, q)
}

func checkpointOf(e api.Engine) (api.Engine, api.Errno) {
	if !rightOf(e) {
		return api.Engine{}, api.ErrArg
	}
	s, bad := store.Checkpoint(e.Store)
	switch bad {
	case api.OK:
		return api.Engine{Store: s, World: e.World}, bad
	case api.ErrDown:
		return gone(s.Power), bad
	}
	return api.Engine{}, bad
}

// Calls, held against these words with power for each number of calls up to all of them, and for any; and what they were handed against what that was (R4).

// lefts tells power for each number of calls up to the first one that is enough, and then for any. The last one asks no more.
func lefts(t *testing.T, hold func(left int) api.Errno) api.Errno {
	t.Helper()
	left := 0
	for hold(left) == api.ErrDown {
		if left++; left > 2000 {
			t.Fatal("no power is enough")
		}
	}
	for _, left := range []int{left + 1, highest, lowest, -2} {
		hold(left)
	}
	return hold(-1)
}

func holdRight(t *testing.T, what string, e api.Engine) bool {
	t.Helper()
	was := copiedEngine(e)
	is := Right(e)
	if is != rightOf(e) {
		t.Fatalf("%s: Right is %v of %s", what, is, show(e))
	}
	if !sameEngine(e, was) {
		t.Fatalf("%s: Right changed %s", what, show(was))
	}
	return is
}

func holdNew(t *testing.T, n int) api.Errno {
	t.Helper()
	e, bad := New(n)
	want, why := newOf(n)
	if bad != why || !sameEngine(e, want) {
		t.Fatalf("New(%d): %s, %d; want %s, %d", n, show(e), bad, show(want), why)
	}
	return bad
}

func holdOpen(t *testing.T, what string, d api.Device) api.Errno {
	t.Helper()
	return lefts(t, func(left int) api.Errno {
		p := api.Power{Device: d, Left: left}
		was := copiedEngine(gone(p))
		e, bad := Open(p)
		if !sameEngine(gone(p), was) {
			t.Fatalf("%s: Open changed its device", what)
		}
		want, why := openOf(p)
		if bad != why || !sameEngine(e, want) {
			t.Fatalf("%s: Open with power for %d:\n%s, %d; want\n%s, %d", what, left, show(e), bad, show(want), why)
		}
		return bad
	})
}

func holdDo(t *testing.T, what string, e api.Engine, c api.Command) api.Answer {
	t.Helper()
	var last api.Answer
	lefts(t, func(left int) api.Errno {
		e, d := powered(e, left), copiedDag(c.Dag)
		was := copiedEngine(e)
		next, a := Do(e, c)
		if !sameEngine(e, was) || !sameDag(c.Dag, d) {
			t.Fatalf("%s: Do(%v) changed what it was handed", what, c)
		}
		want, answer := doOf(e, c)
		if !sameAnswer(a, answer) || !sameEngine(next, want) {
			t.Fatalf("%s: Do(%v) with power for %d:\n%s, %v; want\n%s, %v", what, c, left, show(next), a, show(want), answer)
		}
		last = a
		return a.Why
	})
	return last
}

func holdCheckpoint(t *testing.T, what string, e api.Engine) api.Errno {
	t.Helper()
	return lefts(t, func(left int) api.Errno {
		e := powered(e, left)
		was := copiedEngine(e)
		next, bad := Checkpoint(e)
		if !sameEngine(e, was) {
			t.Fatalf("%s: Checkpoint changed what it was handed", what)
		}
		want, why := checkpointOf(e)
		if bad != why || !sameEngine(next, want) {
			t.Fatalf("%s: Checkpoint with power for %d:\n%s, %d; want\n%s, %d", what, left, show(next), bad, show(want), why)
		}
		return bad
	})
}

// made, told, marked, crashed and opened have a test fail that can't go on without them.

func made(t *testing.T, n int, commands ...api.Command) api.Engine {
	t.Helper()
	e, bad := New(n)
	if bad != api.OK {
		t.Fatalf("New(%d): %d", n, bad)
	}
	return told(t, e, commands...)
}

func told(t *testing.T, e api.Engine, commands ...api.Command) api.Engine {
	t.Helper()
	for _, c := range commands {
		next, a := Do(e, c)
		if a.Why != api.OK {
			t.Fatalf("Do(%v) of %s: %v", c, show(e), a)
		}
		e = next
	}
	return e
}

func marked(t *testing.T, e api.Engine) api.Engine {
	t.Helper()
	next, bad := Checkpoint(e)
	if bad != api.OK {
		t.Fatalf("Checkpoint of %s: %d", show(e), bad)
	}
	return next
}

func crashed(t *testing.T, e api.Engine, masks ...int) api.Device {
	t.Helper()
	d, bad := device.Crash(e.Device, masks...)
	if bad != api.OK {
		t.Fatalf("Crash of %s: %d", show(e), bad)
	}
	return d
}

func opened(t *testing.T, d api.Device) api.Engine {
	t.Helper()
	e, bad := Open(api.Power{Device: d, Left: -1})
	if bad != api.OK {
		t.Fatalf("Open: %d", bad)
	}
	return e
}

// storeOf is a store of so many blocks with these pairs.
func storeOf(t *testing.T, n int, pairs ...api.Pair) api.Store {
	t.Helper()
	s, bad := store.New(n)
	if bad != api.OK {
		t.Fatalf("New(%d): %d", n, bad)
	}
	return changed(t, s, pairs...)
}

// changed is a store into which pairs are put, two each time: any two have room in one record.
func changed(t *testing.T, s api.Store, pairs ...api.Pair) api.Store {
	t.Helper()
	for some := range slices.Chunk(pairs, 2) {
		var changes []api.Change
		for _, p := range some {
			changes = append(changes, api.Change{Key: p.Key, Val: p.Val})
		}
		next, bad := store.Do(s, changes...)
		if bad != api.OK {
			t.Fatalf("Do of %q: %d", some, bad)
		}
		s = next
	}
	return s
}

// engineOf is an engine of so many blocks with a world.
func engineOf(t *testing.T, n int, w api.World) api.Engine {
	t.Helper()
	pairs, bad := rows.Rows(w)
	if bad != api.OK {
		t.Fatalf("%v may not be", w)
	}
	return api.Engine{Store: storeOf(t, n, pairs...), World: w}
}

// full is a world of so many graphs and runs, each of ten tasks that wait for all the ones ahead, with the longest names and keys.
func full(graphs, count int) api.World {
	var needs [][]int
	for i := range 10 {
		var l []int
		for j := range i {
			l = append(l, j)
		}
		needs = append(needs, l)
	}
	w := api.World{Now: end - 1, Token: end - 1}
	for i := range graphs {
		w.Dags = append(w.Dags, graph(long("g")[:15]+string(rune('a'+i)), needs...))
	}
	for i := range count {
		states := make([]api.State, 10)
		states[0] = api.State{Is: api.SDue}
		w.Runs = append(w.Runs, api.Run{Key: long("k")[:15] + string(rune('0'+i)), Dag: w.Dags[i%graphs], States: states})
	}
	return w
}
