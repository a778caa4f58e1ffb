package engine

import (
	"fmt"
	"slices"
	"strings"
	"testing"

	"penelope/alloc"
	"penelope/api"
	"penelope/bits"
	"penelope/device"
	"penelope/page"
	"penelope/pager"
	"penelope/prune"
	"penelope/ring"
	"penelope/rows"
	"penelope/store"
	"penelope/super"
)

// named is an engine by a name.
type named struct {
	name   string
	engine api.Engine
}

// beginning are commands of each kind that are answered OK, from the empty world on.
func beginning() []api.Command {
	return []api.Command{
		tick(5), dagOf(row("g")), start("k", "g"), poll(), done(1, "x"), state("k"), sync(), poll(), fail(2), tick(8), dagOf(row("g")), poll(), beat(3), start("l", "g"), cancel("l"), tick(9),
	}
}

// ticks are ticks from one time to another one, that one not among them.
func ticks(from, to int) []api.Command {
	var all []api.Command
	for time := from; time < to; time++ {
		all = append(all, tick(time))
	}
	return all
}

// engines are many, as calls leave them: also ones without room, and with few generations left.
func engines(t *testing.T) []named {
	t.Helper()
	var all []named
	add := func(name string, e api.Engine) { all = append(all, named{name, e}) }
	for _, n := range []int{24, 40} {
		e := made(t, n)
		add(fmt.Sprint("new of ", n), e)
		for i, c := range beginning() {
			e = told(t, e, c)
			add(fmt.Sprintf("%d commands of %d", i+1, n), e)
		}
		add(fmt.Sprint("synced, of ", n), told(t, e, sync()))
		add(fmt.Sprint("checkpointed, of ", n), marked(t, e))
		back := opened(t, crashed(t, told(t, e, sync(), tick(20))))
		add(fmt.Sprint("opened behind a crash, of ", n), back)
		add(fmt.Sprint("opened, then told, of ", n), told(t, back, tick(21)))
	}
	add("eight records", told(t, made(t, 24), ticks(1, 9)...))
	add("eight records, synced", told(t, made(t, 24), append(ticks(1, 9), sync())...))
	add("little room", tight(t))
	add("little room, checkpointed", marked(t, tight(t)))
	add("little room, eight records", told(t, marked(t, tight(t)), ticks(10, 18)...))
	add("no room for a lease", tightest(t))
	for left, gen := range []int{end - 2, end - 3, end - 4} {
		add(fmt.Sprint("generations left: ", left), opened(t, aged(t, gen)))
		if left > 0 {
			add(fmt.Sprint("generations left, eight records: ", left), told(t, opened(t, aged(t, gen)), ticks(1, 9)...))
		}
	}
	return all
}

// tight is an engine of 24 blocks that has no room for another run of ten tasks, but for another time.
func tight(t *testing.T) api.Engine {
	t.Helper()
	e := made(t, 24, dagOf(ten("x")), start("a", "x"), tick(5))
	for key := 'b'; ; key++ {
		next, a := Do(e, start(string(key), "x"))
		if a.Why == api.ErrSpace {
			return e
		}
		if e = next; a.Why != api.OK {
			t.Fatal(a)
		}
	}
}

// tightest is an engine of 24 blocks that has no room for a lease.
func tightest(t *testing.T) api.Engine {
	t.Helper()
	e := made(t, 24, dagOf(graph("x", nil)))
	for key := 'a'; key < 'p'; key++ {
		e = marked(t, told(t, e, start(string(key), "x")))
	}
	for name := 'a'; ; name++ {
		e = marked(t, told(t, e, dagOf(graph(string(name), nil))))
		if _, a := Do(e, poll()); a.Why == api.ErrSpace {
			return e
		}
	}
}

// aged is an empty device whose superblock has that generation.
func aged(t *testing.T, gen int) api.Device {
	t.Helper()
	d, bad := pager.Format(24)
	bytes, why := super.Put(api.Super{Gen: gen, Map: 10, Size: 24})
	if bad != api.OK || why != api.OK {
		t.Fatal(bad, why)
	}
	return withBlock(d, 0, bytes)
}

func withBlock(d api.Device, block int, bytes string) api.Device {
	d.Blocks = slices.Clone(d.Blocks)
	d.Blocks[block] = bytes
	return d
}

func withPending(d api.Device, writes ...api.Write) api.Device {
	d.Pending = append(slices.Clone(d.Pending), writes...)
	return d
}

// The examples

func TestExamples(t *testing.T) {
	e, a := Do(made(t, 40), tick(5))
	if e.World.Now != 5 || !sameAnswer(a, api.Answer{}) {
		t.Error(e.World.Now, a)
	}
	if now := opened(t, crashed(t, e)).World.Now; now != 0 {
		t.Errorf("behind a crash Now is %d", now)
	}
	e, a = Do(e, sync())
	if e.World.Now != 5 || !sameAnswer(a, api.Answer{}) {
		t.Error(e.World.Now, a)
	}
	if now := opened(t, crashed(t, e)).World.Now; now != 5 {
		t.Errorf("behind a CSync and a crash Now is %d", now)
	}
}

// The document's examples of the whole, as far as they are an engine's: the answer to the last command.
func TestAnswersOfTheWhole(t *testing.T) {
	g := api.Dag{Name: "g", Tasks: []api.Task{{Tries: 1, Lease: 5}}}
	two := api.Dag{Name: "g", Tasks: []api.Task{{Tries: 1, Lease: 5}, {Needs: []int{0}, Tries: 1, Lease: 5}}}
	for _, c := range []struct {
		commands []api.Command
		want     api.Answer
	}{
		{[]api.Command{dagOf(g)}, api.Answer{}},
		{[]api.Command{dagOf(g), start("k", "g")}, api.Answer{}},
		{[]api.Command{dagOf(g), start("k", "g"), poll()}, api.Answer{Key: "k", Token: 1}},
		{[]api.Command{dagOf(g), start("k", "g"), poll(), done(1, "x")}, api.Answer{Key: "k"}},
		{[]api.Command{dagOf(g), start("k", "g"), poll(), done(1, "x"), state("k")}, api.Answer{Key: "k", Is: api.RDone, States: []api.State{{Is: api.SDone, Tried: 1, Result: "x"}}}},
		{[]api.Command{poll()}, api.Answer{Why: api.ErrIdle}},
		{[]api.Command{dagOf(g), start("k", "g"), poll(), tick(5), state("k")}, api.Answer{Key: "k", Is: api.RLost, States: []api.State{{Is: api.SLost, Tried: 1}}}},
		{[]api.Command{dagOf(two), start("k", "g"), poll(), done(1, ""), poll()}, api.Answer{Key: "k", Task: 1, Token: 2}},
		{[]api.Command{start("k", "g")}, api.Answer{Why: api.ErrDag}},
	} {
		last := len(c.commands) - 1
		if _, a := Do(made(t, 40, c.commands[:last]...), c.commands[last]); !sameAnswer(a, c.want) {
			t.Errorf("%v: %v; want %v", c.commands, a, c.want)
		}
	}
}

func TestCrashesOfTheWhole(t *testing.T) {
	for _, c := range []struct {
		commands []api.Command
		mark     int // behind so many commands a checkpoint is done (0: none)
		masks    []int
		now      int
	}{
		{[]api.Command{tick(5)}, 0, nil, 0},
		{[]api.Command{tick(5), sync()}, 0, nil, 5},
		{[]api.Command{tick(5), tick(7)}, 1, nil, 5},
		{[]api.Command{tick(5), tick(7)}, 2, nil, 7},
		{[]api.Command{tick(5), tick(7)}, 0, []int{255}, 5},
		{[]api.Command{tick(5), tick(7)}, 0, []int{0, 255}, 0},
		{[]api.Command{tick(5), tick(7)}, 0, []int{1, 1}, 7},
		{[]api.Command{tick(5), tick(7)}, 0, []int{254, 254}, 0},
		{[]api.Command{tick(5), sync(), tick(7)}, 0, []int{1}, 7},
	} {
		e := made(t, 40)
		for i, step := range c.commands {
			e = told(t, e, step)
			if i+1 == c.mark {
				e = marked(t, e)
			}
		}
		if now := opened(t, crashed(t, e, c.masks...)).World.Now; now != c.now {
			t.Errorf("%v: Now is %d", c, now)
		}
	}
}

// P22.1: New and Right

func TestNew(t *testing.T) {
	for _, c := range []struct {
		n int
		e api.Errno
	}{
		{lowest, api.ErrArg}, {-1, api.ErrArg}, {0, api.ErrArg}, {23, api.ErrArg}, {24, api.OK}, {25, api.OK}, {200, api.OK}, {2048, api.OK}, {2049, api.ErrArg}, {highest, api.ErrArg},
	} {
		if bad := holdNew(t, c.n); bad != c.e {
			t.Errorf("New(%d): %d", c.n, bad)
		}
		e, _ := New(c.n)
		if c.e != api.OK {
			if !sameEngine(e, api.Engine{}) {
				t.Errorf("New(%d): %s", c.n, show(e))
			}
			continue
		}
		if !holdRight(t, "new", e) || len(e.Blocks) != c.n || e.Left != -1 || e.Super.Gen != 2 || !same(e.World, api.World{}) {
			t.Errorf("New(%d): %s", c.n, show(e))
		}
	}
}

func TestEnginesThatMayBe(t *testing.T) {
	for _, e := range engines(t) {
		for _, left := range []int{-1, 0, 1, lowest, highest} {
			// Of the last generation no more can be made: the store of that one may not be.
			if is := holdRight(t, e.name, powered(e.engine, left)); is != (e.name != "generations left: 0") {
				t.Errorf("%s: %v", e.name, is)
			}
		}
	}
}

// wrongs are engines that may not be, each one changed at one place from one that may.
func wrongs(t *testing.T) []named {
	t.Helper()
	base := told(t, marked(t, made(t, 40, beginning()...)), tick(10), tick(11))
	all := []named{{"zero", api.Engine{}}, {"without power", gone(base.Power)}, {"the world alone", api.Engine{World: base.World}}, {"the store alone", api.Engine{Store: base.Store}}}
	add := func(name string, change func(*api.Engine)) {
		e := copiedEngine(base)
		change(&e)
		all = append(all, named{name, e})
	}
	for i, change := range []func(*api.World){
		func(w *api.World) { w.Now++ },
		func(w *api.World) { w.Now = -1 },
		func(w *api.World) { w.Now = end + 1 },
		func(w *api.World) { w.Now, w.Token = 0, 0 },
		func(w *api.World) { w.Token++ },
		func(w *api.World) { w.Token = 0 },
		func(w *api.World) { w.Dags = nil },
		func(w *api.World) { w.Dags[0].Name = "h" },
		func(w *api.World) { w.Dags[0].Tasks[1].Needs = nil },
		func(w *api.World) { w.Dags = append(w.Dags, ten("h")) },
		func(w *api.World) { w.Runs = nil },
		func(w *api.World) { w.Runs = w.Runs[:1] },
		func(w *api.World) { w.Runs = w.Runs[1:] },
		func(w *api.World) { w.Runs[0].Key = "j" },
		func(w *api.World) { w.Runs[0], w.Runs[1] = w.Runs[1], w.Runs[0] },
		func(w *api.World) { w.Runs[0].States[0].Result = "y" },
		func(w *api.World) { w.Runs[0].States[0].Result = "" },
		func(w *api.World) { w.Runs[0].States = w.Runs[0].States[:1] },
		func(w *api.World) { w.Runs[0].States[1].Due++ },
		func(w *api.World) { w.Runs[0].Is = api.RDone },
		func(w *api.World) { w.Runs = append(w.Runs, w.Runs[1]) },
	} {
		add(fmt.Sprint("another world, ", i), func(e *api.Engine) { change(&e.World) })
	}
	for i, change := range []func(*api.Store){
		func(s *api.Store) { s.Seq = 9 },
		func(s *api.Store) { s.Seq = -1 },
		func(s *api.Store) { s.Synced = s.Seq + 1 },
		func(s *api.Store) { s.Synced = -1 },
		func(s *api.Store) { s.Slot = 2 },
		func(s *api.Store) { s.Super.Gen++ },
		func(s *api.Store) { s.Super.Size-- },
		func(s *api.Store) { s.Super.Gen, s.Wood.Gen = end-1, end },
		func(s *api.Store) { s.Wood.Gen-- },
		func(s *api.Store) { s.Wood.Root = 0 },
		func(s *api.Store) { s.Wood.Pages[s.Wood.Root] = "" },
		func(s *api.Store) { s.Wood.Pages = nil },
		func(s *api.Store) { s.Wood.Now = nil },
		func(s *api.Store) { s.Blocks = s.Blocks[1:] },
		func(s *api.Store) { s.Blocks = nil },
		func(s *api.Store) { s.Pending[0].Block = 40 },
	} {
		add(fmt.Sprint("another store, ", i), func(e *api.Engine) { change(&e.Store) })
	}
	elder := made(t, 40, beginning()[:5]...)
	empty := made(t, 40)
	for _, w := range []api.World{{Now: -1}, {Token: end + 1}, {Dags: []api.Dag{{}}}, {Runs: []api.Run{{}}}} {
		add(fmt.Sprintf("no pairs, but the world %v", w), func(e *api.Engine) { e.Store, e.World = empty.Store, w })
	}
	add("an elder store", func(e *api.Engine) { e.Store = elder.Store })
	add("an elder world", func(e *api.Engine) { e.World = elder.World })
	add("an elder wood", func(e *api.Engine) { e.Wood.Root = e.Super.Root })
	for _, p := range []api.Pair{{Key: "\x00"}, {Key: "A"}, {Key: "a", Val: ""}, {Key: "m"}, {Key: "zz", Val: "1"}, {Key: "dg", Val: ""}} {
		add(fmt.Sprintf("with the pair %q", p), func(e *api.Engine) { e.Store = changed(t, e.Store, p) })
	}
	return all
}

func TestEnginesThatMayNotBe(t *testing.T) {
	for _, e := range wrongs(t) {
		if holdRight(t, e.name, e.engine) {
			t.Errorf("%s: %s may be", e.name, show(e.engine))
		}
		for _, c := range []api.Command{tick(12), tick(0), sync(), poll(), state("k"), {}, {Kind: 11}} {
			if a := holdDo(t, e.name, e.engine, c); !sameAnswer(a, api.Answer{Why: api.ErrArg}) {
				t.Errorf("%s: %v", e.name, a)
			}
		}
		if bad := holdCheckpoint(t, e.name, e.engine); bad != api.ErrArg {
			t.Errorf("%s: Checkpoint: %d", e.name, bad)
		}
	}
}

// spread is a world of so many pairs, of which none are of the times.
func spread(count int) api.World {
	runs := (count - 1) / 11
	w := full(count-11*runs, runs)
	w.Now, w.Token = 0, 0
	return w
}

// Worlds of as many pairs as one Scan tells, or two, and some more or less: each pair is looked at.
func TestManyPairs(t *testing.T) {
	for _, w := range []api.World{spread(255), spread(256), spread(257), spread(511), spread(512), spread(513), full(16, 64)} {
		pairs, _ := rows.Rows(w)
		name := fmt.Sprint(len(pairs), " pairs")
		t.Run(name, func(t *testing.T) {
			t.Parallel()
			e := marked(t, engineOf(t, 400, w))
			if !holdRight(t, name, e) {
				t.Fatal("it may not be")
			}
			if back := opened(t, e.Device); !same(back.World, w) || !Right(back) {
				t.Errorf("opened with %v", back.World)
			}
			if next := told(t, e, poll()); next.World.Runs[0].States[0].Is != api.SHeld || !Right(next) {
				t.Errorf("polled: %v", next.World.Runs[0])
			}
			for i, r := range w.Runs {
				other := copiedEngine(e)
				if other.World.Runs[i].States[0].Due++; Right(other) {
					t.Errorf("the run %q may differ", r.Key)
				}
			}
			more := e
			more.Store = changed(t, e.Store, api.Pair{Key: "zzz", Val: "1"})
			if holdRight(t, "one more", more) {
				t.Error("one more may be")
			}
			s, bad := store.Checkpoint(more.Store)
			if bad != api.OK {
				t.Fatal(bad)
			}
			if e, bad := Open(s.Power); bad != api.ErrCorrupt || !sameEngine(e, api.Engine{}) {
				t.Errorf("one more: %s, %d", show(e), bad)
			}
		})
	}
}

// P22.1: Open

func TestOpensAreAsWritten(t *testing.T) {
	for _, e := range engines(t) {
		pending := len(e.engine.Pending)
		for _, masks := range [][]int{nil, slices.Repeat([]int{255}, pending), {1}, {255, 0, 255}, {255, 255, 254}} {
			d := crashed(t, e.engine, masks...)
			bad := holdOpen(t, fmt.Sprint(e.name, ", masks ", masks), d)
			if want := e.name == "generations left: 0"; bad != api.OK && !want || bad != api.ErrLong && want {
				t.Errorf("%s, masks %v: %d", e.name, masks, bad)
			}
		}
		if pending > 0 {
			if bad := holdOpen(t, e.name, e.engine.Device); bad != api.ErrArg {
				t.Errorf("%s, writes being on their way: %d", e.name, bad)
			}
		}
	}
}

// deviceOf is a device of 40 blocks that has just these pairs.
func deviceOf(t *testing.T, pairs ...api.Pair) api.Device {
	t.Helper()
	s, bad := store.Checkpoint(storeOf(t, 40, pairs...))
	if bad != api.OK {
		t.Fatal(bad)
	}
	return s.Device
}

// withRecord is a device that has a record of its superblock's Gen.
func withRecord(t *testing.T, d api.Device, body string) api.Device {
	t.Helper()
	f, bad := pager.Mount(d)
	bytes, why := ring.Put(f.Super.Gen, 0, body)
	if bad != api.OK || why != api.OK {
		t.Fatal(bad, why)
	}
	return withBlock(d, 2, bytes)
}

// stuffed is a device of 24 blocks, of which none is free.
func stuffed(t *testing.T) api.Device {
	t.Helper()
	s := storeOf(t, 24)
	w := s.Wood
	for key := 0; alloc.Free(w.Alloc) > 0; key++ {
		var bad api.Errno
		if w, bad = prune.Change(w, api.Change{Key: fmt.Sprintf("%03d", key), Val: strings.Repeat("v", 9)}); bad != api.OK {
			t.Fatal(bad)
		}
	}
	bitmap, bad := page.Put(api.Page{Kind: api.PMap, Gen: w.Gen, Body: bits.Pack(w.Now)})
	first, why := super.Put(api.Super{Gen: w.Gen, Root: w.Root, Map: s.Super.Map, Size: 24})
	if bad != api.OK || why != api.OK {
		t.Fatal(bad, why)
	}
	blocks := slices.Clone(w.Pages)
	blocks[0], blocks[s.Super.Map] = first, bitmap
	return api.Device{Blocks: blocks}
}

func TestOpenErrors(t *testing.T) {
	w := made(t, 40, beginning()...).World
	pairs, _ := rows.Rows(w)
	sound := deviceOf(t, pairs...)
	body := func(changes ...api.Change) string {
		s, bad := ring.Pack(changes...)
		if bad != api.OK {
			t.Fatal(bad)
		}
		return s
	}
	blank, _ := device.New(24)
	for _, c := range []struct {
		name string
		d    api.Device
		e    api.Errno
		down bool // ErrDown comes first, if there is no power
	}{
		{"no blocks", api.Device{}, api.ErrArg, false},
		{"23 blocks", api.Device{Blocks: make([]string, 23)}, api.ErrCorrupt, false},
		{"2049 blocks", api.Device{Blocks: make([]string, 2049)}, api.ErrArg, false},
		{"a write on its way", withPending(sound, api.Write{Block: 30}), api.ErrArg, false},
		{"no superblock", blank, api.ErrCorrupt, false},
		{"the root is none", withBlock(sound, mustFind(t, sound).Root, ""), api.ErrCorrupt, false},
		{"generations are used up", aged(t, end-1), api.ErrLong, false},
		{"a generation too many", aged(t, end), api.ErrCorrupt, false},
		{"no block is free", stuffed(t), api.ErrSpace, false},
		{"a record that is none", withRecord(t, sound, "\x01"), api.ErrCorrupt, false},
		{"as it should be", sound, api.OK, true},
		{"a record without changes", withRecord(t, sound, body()), api.OK, true},
		{"a record of another time", withRecord(t, sound, body(api.Change{Key: "m", Val: "\x00\x00\x00\x00\x00\x0a\x00\x00\x00\x00\x00\x03"})), api.OK, true},
		{"a record of a time too high", withRecord(t, sound, body(api.Change{Key: "m", Val: "\xff\x00\x00\x00\x00\x0a\x00\x00\x00\x00\x00\x03"})), api.ErrCorrupt, true},
		{"a record of a token too low", withRecord(t, sound, body(api.Change{Key: "m", Val: "\x00\x00\x00\x00\x00\x0a\x00\x00\x00\x00\x00\x02"})), api.ErrCorrupt, true},
		{"a record by which a graph goes", withRecord(t, sound, body(api.Change{Key: "dg", Gone: true})), api.ErrCorrupt, true},
		{"a record by which a run goes", withRecord(t, sound, body(api.Change{Key: "rk", Gone: true})), api.ErrCorrupt, true},
		{"a record by which a task goes", withRecord(t, sound, body(api.Change{Key: "tk\x01", Gone: true})), api.ErrCorrupt, true},
		{"a record by which a key comes", withRecord(t, sound, body(api.Change{Key: "x"})), api.ErrCorrupt, true},
		{"a key ahead of all others", deviceOf(t, append([]api.Pair{{Key: "\x00"}}, pairs...)...), api.ErrCorrupt, true},
		{"a key of no kind", deviceOf(t, api.Pair{Key: "a"}), api.ErrCorrupt, true},
		{"a graph that is none", deviceOf(t, api.Pair{Key: "dg"}), api.ErrCorrupt, true},
		{"times that both are 0", deviceOf(t, api.Pair{Key: "m", Val: strings.Repeat("\x00", 12)}), api.ErrCorrupt, true},
		{"a run without a graph", deviceOf(t, pairs[1:]...), api.ErrCorrupt, true},
		{"a task too few", deviceOf(t, pairs[:len(pairs)-1]...), api.ErrCorrupt, true},
	} {
		if bad := holdOpen(t, c.name, c.d); bad != c.e {
			t.Errorf("%s: %d", c.name, bad)
		}
		e, bad := Open(api.Power{Device: c.d})
		switch {
		case c.down && (bad != api.ErrDown || !sameEngine(e, gone(api.Power{Device: c.d}))):
			t.Errorf("%s, without power: %s, %d", c.name, show(e), bad)
		case !c.down && (bad != c.e || !sameEngine(e, api.Engine{})):
			t.Errorf("%s, without power: %s, %d", c.name, show(e), bad)
		}
	}
}

// mustFind is what a device has.
func mustFind(t *testing.T, d api.Device) api.Super {
	t.Helper()
	f, bad := pager.Mount(d)
	if bad != api.OK {
		t.Fatal(bad)
	}
	return f.Super
}

// What is opened has no record, and the world that was told; the power that is left is told, too.
func TestOpenTellsTheWorld(t *testing.T) {
	e := told(t, made(t, 40, beginning()...), sync())
	d := crashed(t, e)
	for _, left := range []int{lowest, -1, highest} {
		back, bad := Open(api.Power{Device: d, Left: left})
		if bad != api.OK || !same(back.World, e.World) || !Right(back) || back.Seq != 0 || back.Synced != 0 || len(back.Pending) != 0 {
			t.Fatalf("%s, %d", show(back), bad)
		}
		if left < 0 && back.Left != left || left > 0 && (back.Left >= left || back.Left < left-40) {
			t.Errorf("Left is %d of %d", back.Left, left)
		}
	}
}

// P22.2

// commands are many of each kind.
func commands() []api.Command {
	all := append(beginning(), poll(), state(""), start("m", "g"), start("k", "h"), start("", "g"), start("a", "x"), cancel("k"), cancel("z"), dagOf(row("h")), dagOf(ten("g")), dagOf(api.Dag{}), dagOf(graph("c", []int{0})))
	for _, token := range []int{-1, 0, 1, 2, 3, 4, end} {
		all = append(all, beat(token), done(token, long("r")), fail(token))
	}
	for _, time := range []int{lowest, -1, 0, 1, 17, 100, end, end + 1, highest} {
		all = append(all, tick(time))
	}
	for _, kind := range []int{lowest, -1, 0, 11, 255, 256, highest} {
		all = append(all, api.Command{Kind: kind, Key: "k", Name: "g", Token: 1, Time: 30})
	}
	return append(all, start("y", "x"), dagOf(graph("x", make([][]int, 11)...)), done(3, strings.Repeat("r", 17)), api.Command{Kind: api.CSync, Key: "z", Name: "z", Token: -1, Time: -1, Text: "z", Dag: graph("", []int{7})})
}

func TestDosAreAsWritten(t *testing.T) {
	told := map[api.Errno]int{}
	for _, e := range engines(t) {
		for _, c := range commands() {
			told[holdDo(t, e.name, e.engine, c).Why]++
		}
	}
	for _, why := range []api.Errno{api.OK, api.ErrArg, api.ErrLong, api.ErrSpace, api.ErrCycle, api.ErrDag, api.ErrRun, api.ErrToken, api.ErrIdle, api.ErrDone, api.ErrFrame} {
		if told[why] == 0 {
			t.Errorf("%d was never told: %v", why, told)
		}
	}
}

// What becomes of an engine.
const (
	stays = iota // it stays as it is
	ends         // its power has gone
	syncs        // its store is synced
	goes         // its store has one record more, and its world is another one
)

// became tells what became of an engine, or -1.
func became(was, is api.Engine) int {
	switch {
	case sameEngine(was, is):
		return stays
	case sameEngine(is, gone(was.Power)):
		return ends
	case !rightOf(is):
		return -1
	case same(was.World, is.World) && is.Seq == was.Seq && is.Synced == is.Seq && len(is.Pending) == 0:
		return syncs
	case !same(was.World, is.World) && is.Seq == was.Seq+1 && is.Synced == was.Synced && len(is.Pending) == len(was.Pending)+1:
		return goes
	}
	return -1
}

// Each kind of command without power, and with power for one call: only what is lasting needs it.
func TestDo(t *testing.T) {
	base := told(t, made(t, 40, dagOf(row("g")), start("k", "g"), tick(5)), poll())
	states := []api.State{{Is: api.SHeld, Tried: 1, Due: 10, Token: 1}, {}}
	for _, c := range []struct {
		command api.Command
		want    api.Answer
		made    int
	}{
		{api.Command{}, api.Answer{Why: api.ErrFrame}, stays},
		{api.Command{Kind: 11}, api.Answer{Why: api.ErrFrame}, stays},
		{dagOf(row("g")), api.Answer{}, stays},
		{dagOf(ten("g")), api.Answer{Why: api.ErrDag}, stays},
		{dagOf(graph("h", []int{0})), api.Answer{Why: api.ErrCycle}, stays},
		{dagOf(row("h")), api.Answer{}, goes},
		{start("k", "g"), api.Answer{}, stays},
		{start("", "g"), api.Answer{Why: api.ErrArg}, stays},
		{start("l", "h"), api.Answer{Why: api.ErrDag}, stays},
		{start("l", "g"), api.Answer{}, goes},
		{poll(), api.Answer{Why: api.ErrIdle}, stays},
		{beat(1), api.Answer{Key: "k"}, stays},
		{beat(2), api.Answer{Why: api.ErrToken}, stays},
		{done(1, "x"), api.Answer{Key: "k"}, goes},
		{done(1, strings.Repeat("x", 17)), api.Answer{Why: api.ErrArg}, stays},
		{done(2, "x"), api.Answer{Why: api.ErrToken}, stays},
		{fail(1), api.Answer{Key: "k"}, goes},
		{fail(0), api.Answer{Why: api.ErrToken}, stays},
		{cancel("k"), api.Answer{}, goes},
		{cancel("l"), api.Answer{Why: api.ErrRun}, stays},
		{tick(4), api.Answer{}, stays},
		{tick(5), api.Answer{}, stays},
		{tick(6), api.Answer{}, goes},
		{tick(end), api.Answer{}, goes},
		{tick(-1), api.Answer{Why: api.ErrArg}, stays},
		{tick(end + 1), api.Answer{Why: api.ErrArg}, stays},
		{state("k"), api.Answer{Key: "k", States: states}, stays},
		{state("l"), api.Answer{Why: api.ErrRun}, stays},
		{sync(), api.Answer{}, syncs},
	} {
		for _, left := range []int{0, 1, 2, -1} {
			e := powered(base, left)
			want, made, rest := c.want, c.made, left
			switch {
			case left == 0 && made > ends:
				want, made = api.Answer{Why: api.ErrDown}, ends
			case left > 0 && made > ends:
				rest--
			}
			next, a := Do(e, c.command)
			if !sameAnswer(a, want) || next.Left != rest {
				t.Errorf("%v with power for %d: %v, %d left", c.command, left, a, next.Left)
			}
			if is := became(powered(e, rest), next); is != made {
				t.Errorf("%v with power for %d: became %d: %s", c.command, left, is, show(next))
			}
		}
	}
	// A lease is told with all that belongs to it, but not one that is lost with the power.
	late := told(t, base, tick(20))
	if next, a := Do(powered(late, 1), poll()); !sameAnswer(a, api.Answer{Key: "k", Token: 2}) || became(powered(late, 0), next) != goes || next.World.Token != 2 {
		t.Errorf("%v, %s", a, show(next))
	}
	if next, a := Do(powered(late, 0), poll()); !sameAnswer(a, api.Answer{Why: api.ErrDown}) || became(powered(late, 0), next) != ends {
		t.Errorf("%v, %s", a, show(next))
	}
}

// A CSync has what was done be there for sure; its other fields are not looked at.
func TestSync(t *testing.T) {
	odd := api.Command{Kind: api.CSync, Key: "z", Name: "z", Token: -1, Time: -1, Text: "z", Dag: graph("", []int{7})}
	for count := range 9 {
		e := made(t, 24, ticks(1, 1+count)...)
		for _, c := range []api.Command{sync(), odd} {
			next, a := Do(e, c)
			if !sameAnswer(a, api.Answer{}) || !same(next.World, e.World) || next.Seq != count || next.Synced != count || len(next.Pending) != 0 || !Right(next) {
				t.Errorf("%d records: %v, %s", count, a, show(next))
			}
			if back := opened(t, crashed(t, next)); !same(back.World, e.World) {
				t.Errorf("%d records: opened with %v", count, back.World)
			}
		}
	}
}

// ErrSpace changes nothing, and takes no power; what needs no room is done then.
func TestErrSpace(t *testing.T) {
	e := tight(t)
	for _, s := range []api.Engine{e, marked(t, e), told(t, marked(t, e), ticks(10, 17)...), told(t, marked(t, e), ticks(10, 18)...)} {
		for _, left := range []int{-1, 100} {
			p := powered(s, left)
			next, a := Do(p, start("y", "x"))
			if !sameAnswer(a, api.Answer{Why: api.ErrSpace}) || !sameEngine(next, p) {
				t.Fatalf("%v, %s", a, show(next))
			}
			if more := told(t, next, tick(100), sync()); more.World.Now != 100 || !same(opened(t, crashed(t, more)).World, more.World) {
				t.Fatalf("behind ErrSpace: %s", show(more))
			}
		}
		// The ring is full: the checkpoint that comes first needs power, though there is no room at last.
		want := api.ErrSpace
		if s.Seq == api.RingBlocks {
			want = api.ErrDown
		}
		if _, a := Do(powered(s, 0), start("y", "x")); !sameAnswer(a, api.Answer{Why: want}) {
			t.Errorf("%d records, without power: %v", s.Seq, a)
		}
	}
}

// A lease that has no room is not told.
func TestErrSpaceOfALease(t *testing.T) {
	e := tightest(t)
	next, a := Do(e, poll())
	if !sameAnswer(a, api.Answer{Why: api.ErrSpace}) || !sameEngine(next, e) || next.World.Token != 0 {
		t.Errorf("%v, %s", a, show(next))
	}
}

// Behind eight records the ninth command has all count first.
func TestNineCommands(t *testing.T) {
	e := made(t, 24, ticks(1, 9)...)
	next := told(t, e, tick(9))
	if e.Seq != 8 || next.Seq != 1 || next.Super.Gen != e.Super.Gen+1 || next.World.Now != 9 || !Right(next) {
		t.Fatal(show(next))
	}
	if now := opened(t, crashed(t, next)).World.Now; now != 8 {
		t.Error(now)
	}
	for left := 0; ; left++ {
		at, a := Do(powered(e, left), tick(9))
		if a.Why == api.OK {
			break
		}
		if !sameAnswer(a, api.Answer{Why: api.ErrDown}) || !sameEngine(at, gone(at.Power)) || at.Left != 0 {
			t.Fatalf("power for %d: %v, %s", left, a, show(at))
		}
		if now := opened(t, crashed(t, at, slices.Repeat([]int{255}, len(at.Pending))...)).World.Now; now != 8 && now != 9 {
			t.Fatalf("power for %d: %d", left, now)
		}
	}
	// What changes nothing takes no place in the ring.
	for range 20 {
		e = told(t, e, tick(8), tick(3))
	}
	if e.Seq != 8 {
		t.Error(show(e))
	}
}

// P22.3

func TestCheckpointsAreAsWritten(t *testing.T) {
	for _, e := range engines(t) {
		bad := holdCheckpoint(t, e.name, e.engine)
		if e.name == "generations left: 0" {
			if bad != api.ErrArg {
				t.Errorf("%s: %d", e.name, bad)
			}
			continue
		}
		next := marked(t, e.engine)
		if bad != api.OK || !same(next.World, e.engine.World) || next.Seq != 0 || next.Synced != 0 || next.Super.Gen != e.engine.Super.Gen+1 {
			t.Errorf("%s: %s, %d", e.name, show(next), bad)
		}
		if is := Right(next); is != (next.Super.Gen < end-1) {
			t.Errorf("%s: %v of Gen %d", e.name, is, next.Super.Gen)
		}
	}
}

func TestCheckpointWithoutPower(t *testing.T) {
	e := made(t, 40, beginning()...)
	for left := range 30 {
		next, bad := Checkpoint(powered(e, left))
		switch {
		case bad == api.ErrDown && (!sameEngine(next, gone(next.Power)) || next.Left != 0):
			t.Fatalf("power for %d: %s", left, show(next))
		case left == 0 && !sameDevice(next.Device, e.Device):
			t.Fatalf("no power: %s", show(next))
		case bad == api.OK && left >= 5 && same(next.World, e.World) && Right(next):
			return
		case bad != api.ErrDown:
			t.Fatalf("power for %d: %s, %d", left, show(next), bad)
		}
	}
	t.Error("no power is enough")
}

// Generations are used up: what comes last is told, and no engine goes on from there.
func TestGenerationsAreUsedUp(t *testing.T) {
	e := opened(t, aged(t, end-3))
	last := marked(t, told(t, e, tick(5)))
	if last.Super.Gen != end-1 || last.World.Now != 5 || Right(last) {
		t.Fatal(show(last))
	}
	if next, a := Do(last, state("k")); !sameAnswer(a, api.Answer{Why: api.ErrArg}) || !sameEngine(next, last) {
		t.Error(a)
	}
	if _, bad := Checkpoint(last); bad != api.ErrArg {
		t.Error(bad)
	}
	if next, bad := Open(last.Power); bad != api.ErrLong || !sameEngine(next, api.Engine{}) {
		t.Error(bad)
	}
	// The ninth command takes the last generation, too.
	full := told(t, e, ticks(1, 9)...)
	next, a := Do(full, tick(9))
	if a.Why != api.OK || next.World.Now != 9 || Right(next) {
		t.Error(a, show(next))
	}
}
