package fsck

import (
	"fmt"
	"slices"
	"strings"
	"testing"

	"penelope/api"
	"penelope/bits"
	"penelope/engine"
	"penelope/node"
	"penelope/page"
	"penelope/pager"
	"penelope/super"
)

// P24.4

// masksOf are masks for so many writes: no sector, all, the first one alone, all but it, one write whole, all but one, some first ones, and any.
func masksOf(n int, seed *noise) [][]int {
	all := [][]int{nil, slices.Repeat([]int{255}, n)}
	if n == 0 {
		return all[:1]
	}
	all = append(all, slices.Repeat([]int{1}, n), slices.Repeat([]int{254}, n))
	for k := range n {
		one, others := make([]int, n), slices.Repeat([]int{255}, n)
		one[k], others[k] = 255, 0
		all = append(all, one, others, slices.Repeat([]int{255}, k))
	}
	return append(all, strewn(n, seed), strewn(n, seed))
}

func strewn(n int, seed *noise) []int {
	l := make([]int, n)
	for k := range l {
		l[k] = []int{0, 255, seed.below(256)}[seed.below(3)]
	}
	return l
}

// history is the worlds at the beginning and behind each command that was answered OK, and how many of these commands are there for sure.
type history struct {
	worlds []api.World
	sure   int
}

func (h *history) settle() { h.sure = len(h.worlds) - 1 }

// play does commands (of Kind 0: a checkpoint) up to the first one for which there is no power, and tells whether there was one. Behind each checkpoint the device is right.
func (h *history) play(t *testing.T, what string, e api.Engine, commands []api.Command) (api.Engine, bool) {
	t.Helper()
	for _, c := range commands {
		if c.Kind == 0 {
			next, bad := engine.Checkpoint(e)
			if bad == api.ErrDown {
				return next, true
			}
			if bad != api.OK {
				t.Fatalf("%s: Checkpoint: %d", what, bad)
			}
			h.settle()
			e = next
			if s := holdSound(t, what+", a checkpoint", e.Device, e.World); s.Records != 0 || s.Super != e.Super {
				t.Fatalf("%s: a checkpoint: %v", what, s)
			}
			continue
		}
		next, a := engine.Do(e, c)
		if a.Why == api.ErrDown {
			return next, true
		}
		if e = next; a.Why != api.OK {
			continue
		}
		h.worlds = append(h.worlds, e.World)
		if c.Kind == api.CSync {
			h.settle()
			if s := holdSound(t, what+", a sync", e.Device, e.World); s.Records != e.Seq {
				t.Fatalf("%s: a sync: %v", what, s)
			}
		}
	}
	return e, false
}

// holds has a device behind a crash be right, and tell the world behind some first ones of all commands, in which are those that are there for sure.
func (h *history) holds(t *testing.T, what string, d api.Device) api.World {
	t.Helper()
	_, w, bad := hold(t, what, d)
	if bad != api.OK {
		t.Fatalf("%s: Check(%s): %d", what, show(d), bad)
	}
	if !slices.ContainsFunc(h.worlds[h.sure:], func(is api.World) bool { return same(is, w) }) {
		t.Fatalf("%s: told is %v; %d done, %d for sure", what, w, len(h.worlds)-1, h.sure)
	}
	return w
}

// opens has a device behind a crash be opened, with the world that it tells, and be right then; and also where the power goes behind each call of the opening.
func (h *history) opens(t *testing.T, what string, d api.Device, seed *noise) {
	t.Helper()
	w := h.holds(t, what, d)
	for left := 0; ; left++ {
		where := fmt.Sprint(what, ", opened with power for ", left)
		e, bad := engine.Open(api.Power{Device: d, Left: left})
		if bad == api.OK {
			if s := holdSound(t, where, e.Device, w); !same(e.World, w) || s.Records != 0 || s.Super != e.Super {
				t.Fatalf("%s: %v, %v; want %v", where, s, e.World, w)
			}
			return
		}
		if bad != api.ErrDown {
			t.Fatalf("%s: %d", where, bad)
		}
		for _, l := range [][]int{nil, slices.Repeat([]int{255}, len(e.Pending)), strewn(len(e.Pending), seed)} {
			holdSound(t, fmt.Sprint(where, ", masks ", l), crashed(t, e, l...), w)
		}
	}
}

// powerGoes has the power go behind each call of a play, with many sectors staying.
func powerGoes(t *testing.T, what string, e api.Engine, commands []api.Command) {
	t.Helper()
	seed := noise(len(what))
	for left := 0; ; left++ {
		at := e
		at.Left = left
		h := history{worlds: []api.World{e.World}}
		where := fmt.Sprint(what, ", power for ", left)
		at, down := h.play(t, where, at, commands)
		for i, l := range masksOf(len(at.Pending), &seed) {
			d := crashed(t, at, l...)
			if i < 4 {
				h.opens(t, fmt.Sprint(where, ", masks ", l), d, &seed)
			} else {
				h.holds(t, fmt.Sprint(where, ", masks ", l), d)
			}
		}
		if !down {
			return
		}
	}
}

func TestPowerGoes(t *testing.T) {
	g := row("g")
	for name, commands := range map[string][]api.Command{
		"a tick":         {tick(5)},
		"ticks":          append(ticks(1, 9), ticks(10, 20)...),
		"synced ticks":   {tick(1), sync(), tick(2), tick(3), sync(), tick(4)},
		"checkpoints":    {mark(), tick(5), mark(), mark(), tick(6)},
		"a run":          {dagOf(g), start("k", "g"), poll(), done(1, "x"), sync(), poll(), done(2, "y"), sync(), poll()},
		"a run, no sync": {dagOf(g), start("k", "g"), poll(), done(1, "x"), poll(), done(2, "y")},
		"a run, marked":  {dagOf(g), start("k", "g"), mark(), poll(), done(1, "x"), mark(), poll(), fail(2), tick(9), poll(), done(3, "z"), mark()},
		"refused":        {start("k", "g"), poll(), done(1, "x"), tick(-1), sync(), {Kind: 11}, dagOf(g), start("k", "h"), tick(3)},
		"ten at once":    {dagOf(ten("x")), start("k", "x"), poll(), poll(), poll(), done(2, "b"), sync(), cancel("k"), poll(), sync()},
	} {
		t.Run(name, func(t *testing.T) {
			t.Parallel()
			powerGoes(t, name, made(t, 24), commands)
			powerGoes(t, name+", of 40", marked(t, made(t, 40, beginning()...)), commands)
		})
	}
	t.Run("little room", func(t *testing.T) {
		t.Parallel()
		commands := []api.Command{start("y", "x"), poll(), start("z", "x"), done(1, "a"), sync(), cancel("a"), dagOf(row("y")), poll(), mark(), tick(9), tick(10), tick(11), tick(12), start("y", "x"), tick(13), done(2, "b"), sync(), poll()}
		powerGoes(t, "little room", marked(t, tight(t)), commands)
	})
	t.Run("the last generations", func(t *testing.T) {
		t.Parallel()
		e := opened(t, aged(t, formatted(t, 24), end-4))
		powerGoesLast(t, e, []api.Command{tick(5), tick(6), mark(), tick(7), sync(), mark()})
	})
}

// powerGoesLast has the power go where generations are used up: also then the device is right, though it is opened no more.
func powerGoesLast(t *testing.T, e api.Engine, commands []api.Command) {
	t.Helper()
	seed := noise(5)
	for left := 0; ; left++ {
		at := e
		at.Left = left
		h := history{worlds: []api.World{e.World}}
		what := fmt.Sprint("power for ", left)
		at, down := h.play(t, what, at, commands)
		for _, l := range masksOf(len(at.Pending), &seed) {
			d := crashed(t, at, l...)
			h.holds(t, what, d)
			holdOpen(t, what, d)
		}
		if !down {
			return
		}
	}
}

// strewnCommand is a command of any kind, most often one that is answered OK.
func strewnCommand(n *noise, w api.World) api.Command {
	names, keys := []string{"a", "g\x00", long("g"), "\xff"}, []string{"a", "a\x00", "a\x00\x01", "a\x01", long("\xff"), long("k")}
	switch n.below(14) {
	case 0:
		return dagOf(strewnGraph(n, pick(n, names)))
	case 1, 2:
		return start(pick(n, keys), pick(n, names))
	case 3, 4, 5, 6:
		return poll()
	case 7:
		return beat(w.Token - n.below(4))
	case 8, 9:
		return done(w.Token-n.below(4), strings.Repeat("r", n.below(17)))
	case 10:
		return fail(w.Token - n.below(4))
	case 11:
		return tick(w.Now + n.below(9) - 1)
	case 12:
		return mark()
	}
	return sync()
}

// strewnGraph is a graph of tasks that need some of those ahead.
func strewnGraph(n *noise, name string) api.Dag {
	d := api.Dag{Name: name}
	for i := range 1 + n.below(6) {
		task := api.Task{Tries: 1 + n.below(8), Wait: n.below(4), Lease: 1 + n.below(9)}
		for j := range i {
			if n.below(3) == 0 {
				task.Needs = append(task.Needs, j)
			}
		}
		d.Tasks = append(d.Tasks, task)
	}
	return d
}

// Long plays: commands with power for some calls, crashes, and openings whose power goes, too: the device is right behind each.
func TestPlays(t *testing.T) {
	for seed, size := range []int{24, 26, 30, 40, 60, 120, 200} {
		t.Run(fmt.Sprint(size), func(t *testing.T) {
			t.Parallel()
			n := noise(seed)
			longPlay(t, &n, size)
		})
	}
}

func longPlay(t *testing.T, n *noise, size int) {
	t.Helper()
	e := made(t, size)
	crashes, records := 0, 0
	h := history{worlds: []api.World{e.World}}
	for round := range 60 {
		what := fmt.Sprint("round ", round)
		down := false
		e.Left = n.below(40)
		for range n.below(25) {
			if e, down = h.play(t, what, e, []api.Command{strewnCommand(n, e.World)}); down {
				break
			}
		}
		if !down && n.below(3) > 0 {
			continue
		}
		d := crashed(t, e, strewn(len(e.Pending), n)...)
		w := h.holds(t, what, d)
		health, _ := Check(d)
		records += health.Records
		for n.below(2) == 0 {
			half, bad := engine.Open(api.Power{Device: d, Left: n.below(6)})
			if bad != api.OK && bad != api.ErrDown {
				t.Fatalf("%s: Open: %d", what, bad)
			}
			d = crashed(t, half, strewn(len(half.Pending), n)...)
			holdSound(t, what, d, w)
		}
		e = opened(t, d)
		holdSound(t, what, e.Device, w)
		crashes++
		h = history{worlds: []api.World{e.World}}
	}
	if crashes < 15 || records < 10 {
		t.Errorf("%d crashes, %d records", crashes, records)
	}
}

// P24.3 and P1: whatever lies on a device, calls end, none panics, and what is told is what the chapter says.

// strewnDevice is a device at which something was changed: bytes, pages whose sums are right, records, superblocks, maps.
func strewnDevice(t *testing.T, n *noise, all []api.Device) api.Device {
	t.Helper()
	d := copied(pick(n, all))
	for range 1 + n.below(2) {
		switch n.below(6) {
		case 0:
			d = turned(n, d)
		case 1:
			d = repaged(n, d)
		case 2, 3:
			d = rerecorded(t, n, d)
		case 4:
			d = resupered(n, d)
		case 5:
			// What one block has another one gets.
			d.Blocks[n.below(len(d.Blocks))] = d.Blocks[n.below(len(d.Blocks))]
		}
	}
	return d
}

func trimmed(bytes []byte) string { return strings.TrimRight(string(bytes), "\x00") }

// used is a block that is not empty.
func used(n *noise, d api.Device) int {
	var all []int
	for block, s := range d.Blocks {
		if s != "" {
			all = append(all, block)
		}
	}
	if len(all) == 0 {
		return 0
	}
	return pick(n, all)
}

func turned(n *noise, d api.Device) api.Device {
	block := used(n, d)
	bytes := []byte(d.Blocks[block])
	switch {
	case len(bytes) == 0:
		bytes = []byte{byte(1 + n.below(255))}
	case n.below(2) == 0:
		bytes[n.below(len(bytes))] ^= 1 << n.below(8)
	default:
		bytes = bytes[:n.below(len(bytes))]
	}
	d.Blocks[block] = trimmed(bytes)
	return d
}

// repaged changes a page, and its sum with it.
func repaged(n *noise, d api.Device) api.Device {
	block := used(n, d)
	p, bad := page.Get(d.Blocks[block])
	if bad != api.OK {
		return d
	}
	bytes := []byte(p.Body)
	switch n.below(6) {
	case 0:
		p.Gen += n.below(5) - 2
	case 1:
		p.Kind = 1 + n.below(5)
	case 2:
		bytes = append(bytes, byte(n.below(256)))
	case 3:
		bytes = bytes[:n.below(len(bytes)+1)]
	default:
		if len(bytes) > 0 {
			bytes[n.below(len(bytes))] ^= 1 << n.below(8)
		}
	}
	p.Body = string(bytes)
	if s, bad := page.Put(p); bad == api.OK {
		d.Blocks[block] = s
	}
	return d
}

// rerecorded has one record more, or one in the place of others.
func rerecorded(t *testing.T, n *noise, d api.Device) api.Device {
	t.Helper()
	f, bad := pager.Mount(d)
	if bad != api.OK || f.Super.Gen == end {
		return d
	}
	no := min(len(f.Ring), 7)
	if n.below(4) == 0 {
		no = n.below(8)
	}
	keys := []string{"m", "dg", "rk", "tk\x00", "tk\x01", "rl", "tl\x00", "x", "\x00"}
	var changes []api.Change
	for range n.below(3) {
		c := takes(pick(n, keys))
		if n.below(2) == 0 {
			c = puts(c.Key, pick(n, []string{"", times(10+n.below(5), 3+n.below(3)), "1"}))
		}
		changes = append(changes, c)
	}
	s := body(t, changes...)
	if n.below(8) == 0 {
		s = s[:len(s)-1]
	}
	return withBlock(d, 2+no, record(t, f.Super.Gen, no, s))
}

// resupered changes a superblock, and its sum with it.
func resupered(n *noise, d api.Device) api.Device {
	slot := n.below(2)
	s, bad := super.Get(d.Blocks[slot])
	if bad != api.OK {
		return d
	}
	switch n.below(6) {
	case 0:
		s.Gen = pick(n, []int{1, s.Gen - 1, s.Gen + 1, s.Gen + 2, end - 2, end - 1, end})
	case 1:
		s.Root = pick(n, []int{0, 10, 11, 12, 13, 14, s.Map, s.Size - 1})
	case 2:
		s.Map = pick(n, []int{10, 11, 12, 13, 14, s.Root, s.Size - 1})
	case 3:
		s.Size += n.below(3) - 1
	default:
		s.Gen = pick(n, []int{end - 2, end - 1})
	}
	if bytes, bad := super.Put(s); bad == api.OK {
		d.Blocks[slot] = bytes
	}
	return d
}

// devices are many that are right, with records and without, with little room and with much.
func devices(t *testing.T) []api.Device {
	t.Helper()
	stuff, _ := stuffed(t)
	all := []api.Device{
		formatted(t, 24), formatted(t, 40), made(t, 24).Device, stuff,
		crashed(t, told(t, made(t, 24, ticks(1, 9)...), sync())),
		marked(t, made(t, 24, beginning()...)).Device,
		marked(t, made(t, 40, beginning()...)).Device,
		crashed(t, told(t, marked(t, made(t, 40, beginning()...)), tick(30), start("y", "g"), poll(), sync())),
		crashed(t, told(t, made(t, 40, beginning()...), sync())),
		marked(t, tight(t)).Device,
		deviceOf(t, 120, pairsOf(t, full(3, 5))...),
	}
	for _, d := range all {
		if _, _, bad := hold(t, "to begin with", d); bad != api.OK {
			t.Fatalf("%s: %d", show(d), bad)
		}
	}
	return all
}

func TestAnyDevice(t *testing.T) {
	t.Parallel()
	all := devices(t)
	n := noise(24)
	tells, opens := map[api.Errno]int{}, map[api.Errno]int{}
	for i := range 4000 {
		d := strewnDevice(t, &n, all)
		what := fmt.Sprint("device ", i)
		_, _, bad := hold(t, what, d)
		tells[bad]++
		if told := holdOpen(t, what, d); bad == api.OK {
			opens[told]++
		}
	}
	if tells[api.OK] < 500 || tells[api.ErrCorrupt] < 500 || opens[api.OK] < 300 || opens[api.ErrLong] < 10 || opens[api.ErrCorrupt] < 5 || opens[api.ErrSpace] < 5 {
		t.Errorf("Check: %v; then Open: %v", tells, opens)
	}
}

// Devices that may not be, and ones of which nothing is known.
func TestEveryCallEnds(t *testing.T) {
	t.Parallel()
	n := noise(7)
	good := devices(t)
	all := append([]api.Device{{}, {Blocks: []string{}}, {Blocks: make([]string, 4096)}, {Pending: make([]api.Write, 3)}, {Blocks: make([]string, 9)}}, good...)
	told := map[api.Errno]int{}
	for i := range 1500 {
		d := copied(pick(&n, all))
		switch n.below(6) {
		case 0:
			d = withPending(d, api.Write{Block: pick(&n, []int{lowest, -1, 0, 23, 24, highest}), Bytes: "x"})
		case 1:
			d.Blocks = d.Blocks[:n.below(len(d.Blocks)+1)]
		case 2:
			d.Blocks = append(d.Blocks, d.Blocks...)
		case 3:
			for block := range d.Blocks {
				if n.below(9) == 0 {
					d.Blocks[block] = strings.Repeat("\x01", n.below(4200))
				}
			}
		case 4:
			for range len(d.Blocks) / 2 {
				d = turned(&n, d)
			}
		}
		_, _, bad := hold(t, fmt.Sprint("device ", i), d)
		told[bad]++
	}
	if told[api.OK] < 50 || told[api.ErrArg] < 50 || told[api.ErrCorrupt] < 50 || len(told) != 3 {
		t.Error(told)
	}
}

// A tree that comes back to itself, or in which one node is twice, is told to be none, and Check ends.
func TestTreesThatComeBack(t *testing.T) {
	e := marked(t, made(t, 60, dagOf(row("g")), start("k", "g"), start("l", "g"), start("m", "g"), start("n", "g")))
	f := found(t, e.Device)
	p, bad := page.Get(e.Blocks[f.Super.Root])
	if bad != api.OK || p.Kind != api.PInner {
		t.Fatal(bad, p.Kind)
	}
	n, bad := node.Get(p.Kind, p.Body)
	if bad != api.OK || len(n.Kids) < 2 {
		t.Fatal(bad, n)
	}
	for _, kid := range []int{f.Super.Root, n.Kids[1], f.Super.Map, 0, 2, 59} {
		other := n
		other.Kids = slices.Clone(n.Kids)
		other.Kids[0] = kid
		text, bad := node.Put(other)
		if bad != api.OK {
			continue
		}
		p.Body = text
		bytes, bad := page.Put(p)
		if bad != api.OK {
			t.Fatal(bad)
		}
		d := withBlock(e.Device, f.Super.Root, bytes)
		if _, _, bad := hold(t, fmt.Sprint("kid ", kid), d); bad != api.ErrCorrupt {
			t.Errorf("kid %d: %d", kid, bad)
		}
	}
	// Also where all blocks that it comes to are used.
	places := slices.Clone(f.Wood.Now)
	places[59] = true
	bitmap, bad := page.Put(api.Page{Kind: api.PMap, Gen: f.Super.Gen, Body: bits.Pack(places)})
	if bad != api.OK {
		t.Fatal(bad)
	}
	d := withBlock(withBlock(e.Device, 59, e.Blocks[n.Kids[0]]), f.Super.Map, bitmap)
	if _, _, bad := hold(t, "a twin of a leaf", d); bad != api.ErrCorrupt {
		t.Errorf("a twin of a leaf: %d", bad)
	}
}

// R1
func TestNothingIsKept(t *testing.T) {
	all := devices(t)
	type answered struct {
		h api.Health
		w api.World
		e api.Errno
	}
	var first []answered
	for round := range 3 {
		for i, d := range all {
			h, e := Check(d)
			w, _ := World(d)
			if round == 0 {
				first = append(first, answered{h, w, e})
			} else if h != first[i].h || !same(w, first[i].w) || e != first[i].e {
				t.Fatalf("%s: told is something else in round %d", show(d), round)
			}
		}
	}
}

// R3
func TestNilIsEmpty(t *testing.T) {
	for _, d := range devices(t) {
		bare, hollow := copied(d), copied(d)
		bare.Pending, hollow.Pending = nil, []api.Write{}
		h, w, bad := hold(t, "nil", bare)
		h2, w2, bad2 := hold(t, "empty", hollow)
		if h != h2 || !same(w, w2) || bad != bad2 {
			t.Errorf("%s: %v, %d and %v, %d", show(d), h, bad, h2, bad2)
		}
	}
	for _, d := range []api.Device{{}, {Blocks: []string{}}, {Blocks: []string{}, Pending: []api.Write{}}} {
		if _, _, bad := hold(t, "no blocks", d); bad != api.ErrArg {
			t.Errorf("no blocks: %d", bad)
		}
	}
}

// R4: room behind a list's end stays as it is.
func TestRoomBehindListsStays(t *testing.T) {
	for _, d := range devices(t) {
		blocks := append(slices.Clone(d.Blocks), "behind", "behind")
		writes := slices.Repeat([]api.Write{{Block: 7, Bytes: "behind"}}, 3)
		room := api.Device{Blocks: blocks[:len(d.Blocks)], Pending: writes[:0]}
		h, w, bad := hold(t, "room", room)
		h2, w2, bad2 := hold(t, "none", d)
		if h != h2 || !same(w, w2) || bad != bad2 {
			t.Errorf("%s: told is something else where lists have room", show(d))
		}
		if !slices.Equal(blocks[len(d.Blocks):], []string{"behind", "behind"}) || writes[0] != (api.Write{Block: 7, Bytes: "behind"}) {
			t.Errorf("%s: written behind a list's end", show(d))
		}
	}
}

// No two lists of a world that is told share any, and none is shared by two that are told.
func TestAnswersAreNewMemory(t *testing.T) {
	for _, d := range devices(t) {
		w, bad := World(d)
		other, why := World(d)
		if bad != api.OK || why != api.OK {
			t.Fatal(bad, why)
		}
		was := apart(other)
		spoil(t, show(d), w)
		if !same(other, was) {
			t.Errorf("%s: two worlds that are told share a list", show(d))
		}
		// What is written into an answer is not told by the next one.
		if _, _, bad := hold(t, "behind a spoiled answer", d); bad != api.OK {
			t.Errorf("%s: %d", show(d), bad)
		}
	}
}

// apart is a world whose lists are all its own.
func apart(w api.World) api.World {
	w.Dags, w.Runs = slices.Clone(w.Dags), slices.Clone(w.Runs)
	for i, d := range w.Dags {
		w.Dags[i] = apartDag(d)
	}
	for i, r := range w.Runs {
		w.Runs[i].Dag, w.Runs[i].States = apartDag(r.Dag), slices.Clone(r.States)
	}
	return w
}

func apartDag(d api.Dag) api.Dag {
	d.Tasks = slices.Clone(d.Tasks)
	for i, x := range d.Tasks {
		d.Tasks[i].Needs = slices.Clone(x.Needs)
	}
	return d
}

// spoil writes over all lists of a world, one behind the other, and holds those that are still to come against what they were.
func spoil(t *testing.T, what string, w api.World) {
	t.Helper()
	whole := apart(w)
	hold := func(list string) {
		t.Helper()
		if !same(w, whole) {
			t.Fatalf("%s: %s is not a list of its own", what, list)
		}
	}
	over := func(list string, d, twin api.Dag) {
		t.Helper()
		for i := range d.Tasks {
			for j := range d.Tasks[i].Needs {
				d.Tasks[i].Needs[j], twin.Tasks[i].Needs[j] = -7, -7
				hold(list)
			}
			d.Tasks[i], twin.Tasks[i] = api.Task{Tries: -7}, api.Task{Tries: -7}
		}
		hold(list)
	}
	for i := range w.Dags {
		over(fmt.Sprint("graph ", i), w.Dags[i], whole.Dags[i])
	}
	for i := range w.Runs {
		over(fmt.Sprint("the graph of run ", i), w.Runs[i].Dag, whole.Runs[i].Dag)
		for j := range w.Runs[i].States {
			w.Runs[i].States[j], whole.Runs[i].States[j] = api.State{Is: -7}, api.State{Is: -7}
		}
		hold(fmt.Sprint("run ", i))
	}
}
