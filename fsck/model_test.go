package fsck

import (
	"fmt"
	"math"
	"slices"
	"strings"
	"testing"

	"penelope/api"
	"penelope/device"
	"penelope/engine"
	"penelope/look"
	"penelope/pager"
	"penelope/ring"
	"penelope/rows"
	"penelope/store"
	"penelope/super"
)

const (
	lowest  = math.MinInt
	highest = math.MaxInt
	end     = 1 << 40 // the last time, the last token, and the last generation
)

// noise tells numbers that look like no pattern, the same ones each time.
type noise uint32

func (n *noise) below(limit int) int {
	*n = *n*1664525 + 1013904223
	return int(uint32(*n)>>8) % limit
}

func pick[T any](n *noise, all []T) T { return all[n.below(len(all))] }

func long(letter string) string { return strings.Repeat(letter, 16) }

// graph is one of tasks of two tries with these needs.
func graph(name string, needs ...[]int) api.Dag {
	d := api.Dag{Name: name}
	for _, l := range needs {
		d.Tasks = append(d.Tasks, api.Task{Needs: l, Tries: 2, Wait: 3, Lease: 5})
	}
	return d
}

// row is a graph of two tasks, of which the second needs the first, ten one of ten that need none.
func row(name string) api.Dag { return graph(name, nil, []int{0}) }

func ten(name string) api.Dag { return graph(name, make([][]int, 10)...) }

// Commands.

func dagOf(d api.Dag) api.Command { return api.Command{Kind: api.CDag, Dag: d} }

func start(key, name string) api.Command {
	return api.Command{Kind: api.CStart, Key: key, Name: name}
}

func poll() api.Command { return api.Command{Kind: api.CPoll} }

func beat(token int) api.Command { return api.Command{Kind: api.CBeat, Token: token} }

func done(token int, text string) api.Command {
	return api.Command{Kind: api.CDone, Token: token, Text: text}
}

func fail(token int) api.Command { return api.Command{Kind: api.CFail, Token: token} }

func cancel(key string) api.Command { return api.Command{Kind: api.CCancel, Key: key} }

func tick(time int) api.Command { return api.Command{Kind: api.CTick, Time: time} }

func sync() api.Command { return api.Command{Kind: api.CSync} }

func mark() api.Command { return api.Command{} }

// ticks are ticks from one time to another one, that one not among them.
func ticks(from, to int) []api.Command {
	var all []api.Command
	for time := from; time < to; time++ {
		all = append(all, tick(time))
	}
	return all
}

// beginning are commands of many kinds that are answered OK, from the empty world on.
func beginning() []api.Command {
	return []api.Command{
		tick(5), dagOf(row("g")), start("k", "g"), poll(), done(1, "x"), sync(), poll(), fail(2), tick(8), dagOf(row("g")), poll(), beat(3), start("l", "g"), cancel("l"), tick(9),
	}
}

// Devices.

func copied(d api.Device) api.Device {
	return api.Device{Blocks: slices.Clone(d.Blocks), Pending: slices.Clone(d.Pending)}
}

func sameDevice(a, b api.Device) bool {
	return slices.Equal(a.Blocks, b.Blocks) && slices.Equal(a.Pending, b.Pending)
}

func withBlock(d api.Device, block int, bytes string) api.Device {
	d = copied(d)
	d.Blocks[block] = bytes
	return d
}

func withPending(d api.Device, writes ...api.Write) api.Device {
	d = copied(d)
	d.Pending = append(d.Pending, writes...)
	return d
}

func powered(d api.Device) api.Power { return api.Power{Device: d, Left: -1} }

// What is one; a nil list is an empty one (R3).

func sameTask(a, b api.Task) bool {
	return slices.Equal(a.Needs, b.Needs) && a.Tries == b.Tries && a.Wait == b.Wait && a.Lease == b.Lease
}

func sameDag(a, b api.Dag) bool {
	return a.Name == b.Name && slices.EqualFunc(a.Tasks, b.Tasks, sameTask)
}

func sameRun(a, b api.Run) bool {
	return a.Key == b.Key && a.Is == b.Is && sameDag(a.Dag, b.Dag) && slices.Equal(a.States, b.States)
}

func same(a, b api.World) bool {
	return a.Now == b.Now && a.Token == b.Token && slices.EqualFunc(a.Dags, b.Dags, sameDag) && slices.EqualFunc(a.Runs, b.Runs, sameRun)
}

func show(d api.Device) string {
	var parts []string
	for block, s := range d.Blocks {
		if s != "" {
			parts = append(parts, fmt.Sprintf("%d:%x..(%d)", block, s[:min(len(s), 12)], len(s)))
		}
	}
	for _, w := range d.Pending {
		parts = append(parts, fmt.Sprintf("pending %d:(%d)", w.Block, len(w.Bytes)))
	}
	return fmt.Sprintf("%d blocks %v", len(d.Blocks), parts)
}

// The chapter's words, said one by one.

// shape is a tree as it is gone through: its pairs leaf by leaf, how many nodes there are, and how many below one another.
type shape struct {
	pairs         []api.Pair
	nodes, height int
}

func shapeOf(w api.Wood) shape {
	var s shape
	var through func(block, depth int)
	through = func(block, depth int) {
		n, bad := look.Load(w, block, block == w.Root)
		if bad != api.OK {
			panic(fmt.Sprint("no tree: ", bad))
		}
		s.nodes++
		s.height = max(s.height, depth)
		for i := range n.Vals {
			s.pairs = append(s.pairs, api.Pair{Key: n.Keys[i], Val: n.Vals[i]})
		}
		for _, kid := range n.Kids {
			through(kid, depth+1)
		}
	}
	if w.Root != 0 {
		through(w.Root, 1)
	}
	return s
}

// after are pairs behind a change: the key's pair goes, and another one comes in its place.
func after(pairs []api.Pair, c api.Change) []api.Pair {
	at := slices.IndexFunc(pairs, func(p api.Pair) bool { return p.Key >= c.Key })
	if at < 0 {
		at = len(pairs)
	}
	if at < len(pairs) && pairs[at].Key == c.Key {
		pairs = slices.Delete(slices.Clone(pairs), at, at+1)
	}
	if c.Gone {
		return pairs
	}
	return slices.Insert(slices.Clone(pairs), at, api.Pair{Key: c.Key, Val: c.Val})
}

func worldOf(d api.Device) (api.World, api.Errno) {
	f, bad := pager.Mount(d)
	if bad != api.OK {
		return api.World{}, bad
	}
	pairs := shapeOf(f.Wood).pairs
	for _, record := range f.Ring {
		changes, bad := ring.Unpack(record)
		if bad != api.OK {
			return api.World{}, api.ErrCorrupt
		}
		for _, c := range changes {
			pairs = after(pairs, c)
		}
	}
	w, bad := rows.Load(pairs...)
	if bad != api.OK {
		return api.World{}, api.ErrCorrupt
	}
	return w, api.OK
}

func checkOf(d api.Device) (api.Health, api.Errno) {
	w, bad := worldOf(d)
	if bad != api.OK {
		return api.Health{}, bad
	}
	f, _ := pager.Mount(d)
	s := shapeOf(f.Wood)
	h := api.Health{Super: f.Super, Records: len(f.Ring), Dags: len(w.Dags), Runs: len(w.Runs)}
	h.Pairs, h.Height, h.Blocks = len(s.pairs), s.height, s.nodes
	return h, api.OK
}

// hold has both calls held against these words, and against what they were handed (R4); it tells what they do.
func hold(t *testing.T, what string, d api.Device) (api.Health, api.World, api.Errno) {
	t.Helper()
	was := copied(d)
	h, bad := Check(d)
	if want, why := checkOf(d); h != want || bad != why {
		t.Fatalf("%s: Check(%s) = %v, %d; want %v, %d", what, show(d), h, bad, want, why)
	}
	w, worse := World(d)
	if want, why := worldOf(d); !same(w, want) || worse != why {
		t.Fatalf("%s: World(%s) = %v, %d; want %v, %d", what, show(d), w, worse, want, why)
	}
	if !sameDevice(d, was) {
		t.Fatalf("%s: %s was changed", what, show(was))
	}
	if bad != worse {
		t.Fatalf("%s: Check tells %d, World %d", what, bad, worse)
	}
	return h, w, bad
}

// holdOpen has what a check passes be opened, with just the world that the device tells, or for want of room or generations not: P24.3. It tells Open's error.
func holdOpen(t *testing.T, what string, d api.Device) api.Errno {
	t.Helper()
	h, w, bad := hold(t, what, d)
	f, why := pager.Mount(d)
	if why != api.OK && bad != why || why == api.OK && bad != api.OK && bad != api.ErrCorrupt || bad == api.OK && (f.Super != h.Super || len(f.Ring) != h.Records) {
		t.Fatalf("%s: Mount tells %v, %d; Check %v, %d", what, f.Super, why, h, bad)
	}
	e, told := engine.Open(powered(d))
	switch {
	case bad != api.OK && told == api.OK:
		t.Fatalf("%s: Check tells %d, and it is opened", what, bad)
	case bad != api.OK:
	case told == api.OK:
		if !same(e.World, w) || e.Super.Gen != h.Super.Gen+1 {
			t.Fatalf("%s: opened with %v; want %v", what, e.World, w)
		}
	case told == api.ErrLong && h.Super.Gen == end-1:
	case (told == api.ErrCorrupt && h.Records > 0 || told == api.ErrSpace) && !roomy(f):
	default:
		t.Fatalf("%s: %v; Open: %d", what, h, told)
	}
	return told
}

// roomy is whether there is room for all that the tests' records and a commit may write anew.
func roomy(f api.Found) bool {
	free := 0
	for _, is := range f.Wood.Now {
		if !is {
			free++
		}
	}
	return free > 2*shapeOf(f.Wood).nodes+20
}

// holdSound has a device be right, and tell just that world.
func holdSound(t *testing.T, what string, d api.Device, want api.World) api.Health {
	t.Helper()
	h, w, bad := hold(t, what, d)
	if bad != api.OK || !same(w, want) {
		t.Fatalf("%s: %s tells %v, %d; want %v", what, show(d), w, bad, want)
	}
	return h
}

// made, told, marked, crashed and opened have a test fail that can't go on without them.

func made(t *testing.T, n int, commands ...api.Command) api.Engine {
	t.Helper()
	e, bad := engine.New(n)
	if bad != api.OK {
		t.Fatalf("New(%d): %d", n, bad)
	}
	return told(t, e, commands...)
}

func told(t *testing.T, e api.Engine, commands ...api.Command) api.Engine {
	t.Helper()
	for _, c := range commands {
		next, a := engine.Do(e, c)
		if a.Why != api.OK {
			t.Fatalf("Do(%v): %v", c, a)
		}
		e = next
	}
	return e
}

func marked(t *testing.T, e api.Engine) api.Engine {
	t.Helper()
	next, bad := engine.Checkpoint(e)
	if bad != api.OK {
		t.Fatalf("Checkpoint: %d", bad)
	}
	return next
}

func crashed(t *testing.T, e api.Engine, masks ...int) api.Device {
	t.Helper()
	d, bad := device.Crash(e.Device, masks...)
	if bad != api.OK {
		t.Fatalf("Crash: %d", bad)
	}
	return d
}

func opened(t *testing.T, d api.Device) api.Engine {
	t.Helper()
	e, bad := engine.Open(powered(d))
	if bad != api.OK {
		t.Fatalf("Open: %d", bad)
	}
	return e
}

func found(t *testing.T, d api.Device) api.Found {
	t.Helper()
	f, bad := pager.Mount(d)
	if bad != api.OK {
		t.Fatalf("Mount(%s): %d", show(d), bad)
	}
	return f
}

func formatted(t *testing.T, n int) api.Device {
	t.Helper()
	d, bad := pager.Format(n)
	if bad != api.OK {
		t.Fatalf("Format(%d): %d", n, bad)
	}
	return d
}

// deviceOf is a device of so many blocks that has just these pairs, without records.
func deviceOf(t *testing.T, n int, pairs ...api.Pair) api.Device {
	t.Helper()
	s, bad := store.New(n)
	if bad != api.OK {
		t.Fatalf("New(%d): %d", n, bad)
	}
	// Any two have room in one record.
	for some := range slices.Chunk(pairs, 2) {
		var changes []api.Change
		for _, p := range some {
			changes = append(changes, puts(p.Key, p.Val))
		}
		next, bad := store.Do(s, changes...)
		if bad != api.OK {
			t.Fatalf("Do of %q: %d", some, bad)
		}
		s = next
	}
	s, bad = store.Checkpoint(s)
	if bad != api.OK {
		t.Fatal(bad)
	}
	return s.Device
}

func puts(key, val string) api.Change { return api.Change{Key: key, Val: val} }

func takes(key string) api.Change { return api.Change{Key: key, Gone: true} }

// body is a record's body of changes.
func body(t *testing.T, changes ...api.Change) string {
	t.Helper()
	s, bad := ring.Pack(changes...)
	if bad != api.OK {
		t.Fatalf("Pack(%v): %d", changes, bad)
	}
	return s
}

// withRecords is a device that has records of these bodies, of its superblock's Gen, from block 2 on.
func withRecords(t *testing.T, d api.Device, bodies ...string) api.Device {
	t.Helper()
	gen := found(t, d).Super.Gen
	for no, s := range bodies {
		d = withBlock(d, 2+no, record(t, gen, no, s))
	}
	return d
}

func record(t *testing.T, gen, no int, body string) string {
	t.Helper()
	bytes, bad := ring.Put(gen, no, body)
	if bad != api.OK {
		t.Fatalf("record %d of %d: %d", no, gen, bad)
	}
	return bytes
}

// aged is a device whose superblock has that generation, all else staying.
func aged(t *testing.T, d api.Device, gen int) api.Device {
	t.Helper()
	f := found(t, d)
	f.Super.Gen = gen
	bytes, bad := super.Put(f.Super)
	if bad != api.OK {
		t.Fatal(bad)
	}
	return withBlock(d, f.Slot, bytes)
}

func pairsOf(t *testing.T, w api.World) []api.Pair {
	t.Helper()
	pairs, bad := rows.Rows(w)
	if bad != api.OK {
		t.Fatalf("%v may not be", w)
	}
	return pairs
}

// times is the value of the pair `m`.
func times(now, token int) string {
	var b []byte
	for _, n := range []int{now, token} {
		b = append(b, byte(n>>40), byte(n>>32), byte(n>>24), byte(n>>16), byte(n>>8), byte(n))
	}
	return string(b)
}

// full is a world of so many graphs and runs, each of ten tasks that wait for all the ones ahead, with the longest names and keys.
func full(graphs, count int) api.World {
	var needs [][]int
	for i := range 10 {
		var l []int
		for j := range i {
			l = append(l, j)
		}
		needs = append(needs, l)
	}
	w := api.World{Now: end - 1, Token: end - 1}
	for i := range graphs {
		w.Dags = append(w.Dags, graph(long("g")[:15]+string(rune('a'+i)), needs...))
	}
	for i := range count {
		states := make([]api.State, 10)
		states[0] = api.State{Is: api.SDue}
		w.Runs = append(w.Runs, api.Run{Key: long("k")[:15] + string(rune('0'+i)), Dag: w.Dags[i%graphs], States: states})
	}
	return w
}
