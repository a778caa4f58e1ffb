package fsck

import (
	"fmt"
	"slices"
	"strings"
	"testing"

	"penelope/alloc"
	"penelope/api"
	"penelope/bits"
	"penelope/device"
	"penelope/engine"
	"penelope/page"
	"penelope/pager"
	"penelope/prune"
	"penelope/ring"
	"penelope/rows"
	"penelope/store"
	"penelope/super"
	"penelope/world"
)

// The examples

func TestExamples(t *testing.T) {
	h, _, bad := hold(t, "formatted", formatted(t, 24))
	if want := (api.Health{Super: api.Super{Gen: 1, Map: 10, Size: 24}}); h != want || bad != api.OK {
		t.Errorf("formatted: %v, %d", h, bad)
	}
	blank, _ := device.New(24)
	if h, _, bad := hold(t, "blank", blank); h != (api.Health{}) || bad != api.ErrCorrupt {
		t.Errorf("without a superblock: %v, %d", h, bad)
	}
}

// P24.1: Mount's error

func TestMountErrors(t *testing.T) {
	sound := marked(t, made(t, 40, beginning()...)).Device
	empty := formatted(t, 24)
	f := found(t, sound)
	blank, _ := device.New(24)
	for _, c := range []struct {
		name string
		d    api.Device
		want api.Errno
	}{
		{"as it should be", sound, api.OK},
		{"empty", empty, api.OK},
		{"of 2048 blocks", formatted(t, 2048), api.OK},
		{"no blocks", api.Device{}, api.ErrArg},
		{"a block alone", api.Device{Blocks: make([]string, 1)}, api.ErrCorrupt},
		{"23 blocks", api.Device{Blocks: make([]string, 23)}, api.ErrCorrupt},
		{"24 blocks, all empty", blank, api.ErrCorrupt},
		{"2049 blocks", api.Device{Blocks: make([]string, 2049)}, api.ErrArg},
		{"a block that is too long", withBlock(sound, 39, strings.Repeat("x", 4097)), api.ErrArg},
		{"a block as long as may be", withBlock(sound, 39, strings.Repeat("x", 4096)), api.OK},
		{"a zero byte at a block's end", withBlock(sound, 39, "x\x00"), api.ErrArg},
		{"a write on its way", withPending(sound, api.Write{Block: 30, Bytes: "x"}), api.ErrArg},
		{"a write on its way that changes nothing", withPending(sound, api.Write{Block: 30}), api.ErrArg},
		{"a write on its way, and no superblock", withPending(blank, api.Write{Block: 30}), api.ErrArg},
		{"a write on its way that may not be", withPending(sound, api.Write{Block: 40}), api.ErrArg},
		{"a block too many", api.Device{Blocks: append(slices.Clone(sound.Blocks), "")}, api.ErrCorrupt},
		{"a block too few", api.Device{Blocks: slices.Clone(sound.Blocks[:39])}, api.ErrCorrupt},
		{"no superblock", withBlock(withBlock(sound, 0, ""), 1, ""), api.ErrCorrupt},
		{"the map is none", withBlock(sound, f.Super.Map, ""), api.ErrCorrupt},
		{"the root is none", withBlock(sound, f.Super.Root, ""), api.ErrCorrupt},
		{"the root is a map", withBlock(sound, f.Super.Root, sound.Blocks[f.Super.Map]), api.ErrCorrupt},
		{"of the last generation but one", aged(t, sound, end-1), api.OK},
		{"of the last generation", aged(t, sound, end), api.ErrCorrupt},
		{"of a later generation than its map", aged(t, withBlock(sound, 1-f.Slot, ""), f.Super.Gen+1), api.OK},
		{"of an elder generation than its map", aged(t, withBlock(sound, 1-f.Slot, ""), f.Super.Gen-1), api.ErrCorrupt},
	} {
		h, w, bad := hold(t, c.name, c.d)
		if bad != c.want {
			t.Errorf("%s: %d", c.name, bad)
		}
		if bad != api.OK && (h != (api.Health{}) || !same(w, api.World{})) {
			t.Errorf("%s: %v, %v", c.name, h, w)
		}
		holdOpen(t, c.name, c.d)
	}
}

// With the newer superblock gone the elder tree is told, with its own records.
func TestTheElderSuperblock(t *testing.T) {
	e := marked(t, made(t, 40, tick(5)))
	next := marked(t, told(t, e, tick(7)))
	d := next.Device
	for _, c := range []struct {
		name              string
		d                 api.Device
		now, gen, records int
	}{
		{"both", d, 7, next.Super.Gen, 0},
		{"the elder one gone", withBlock(d, e.Slot, ""), 7, next.Super.Gen, 0},
		{"the newer one gone", withBlock(d, next.Slot, ""), 7, e.Super.Gen, 1},
		{"the newer one gone, and the record", withBlock(withBlock(d, next.Slot, ""), 2, ""), 5, e.Super.Gen, 0},
	} {
		h, w, bad := hold(t, c.name, c.d)
		if bad != api.OK || w.Now != c.now || h.Super.Gen != c.gen || h.Records != c.records {
			t.Errorf("%s: %v, %v, %d", c.name, h, w, bad)
		}
	}
}

// P24.1: what records change

// recordCase is a device's records, and what is told of it then.
type recordCase struct {
	name    string
	bodies  []string
	want    api.Errno
	now     int // what the world's Now is
	records int
}

func recordCases(t *testing.T) []recordCase {
	t.Helper()
	one := func(changes ...api.Change) []string { return []string{body(t, changes...)} }
	two := func(a, b api.Change) []string { return []string{body(t, a), body(t, b)} }
	at := func(now int) api.Change { return puts("m", times(now, 3)) }
	longest := strings.Repeat("x", 32)
	return []recordCase{
		{"none", nil, api.OK, 9, 0},
		{"without changes", one(), api.OK, 9, 1},
		{"eight without changes", slices.Repeat(one(), 8), api.OK, 9, 8},
		{"another time", one(at(10)), api.OK, 10, 1},
		{"the same time", one(at(9)), api.OK, 9, 1},
		{"twice a time in one", one(at(10), at(11)), api.OK, 11, 1},
		{"twice a time in one, the later one first", one(at(11), at(10)), api.OK, 10, 1},
		{"a time in each of two", two(at(10), at(11)), api.OK, 11, 2},
		{"a time in each of two, the later one first", two(at(11), at(10)), api.OK, 10, 2},
		{"eight times", []string{one(at(10))[0], one(at(17))[0], one(at(12))[0], one(at(13))[0], one(at(14))[0], one(at(15))[0], one(at(16))[0], one(at(11))[0]}, api.OK, 11, 8},
		{"a time that goes, and comes again", one(takes("m"), at(10)), api.OK, 10, 1},
		{"a time that goes, and comes again in another one", two(takes("m"), at(10)), api.OK, 10, 2},
		{"a key that comes, and goes", one(puts("x", "1"), takes("x")), api.OK, 9, 1},
		{"a key that comes, and goes in another one", two(puts("x", "1"), takes("x")), api.OK, 9, 2},
		{"the longest key that comes, and goes", two(puts(longest, strings.Repeat("v", 200)), takes(longest)), api.OK, 9, 2},
		{"a key that goes, and comes in another one", two(takes("x"), puts("x", "1")), api.ErrCorrupt, 0, 0},
		{"a key that is not there goes", one(takes("x")), api.OK, 9, 1},
		{"a key that is not there goes twice", two(takes("x"), takes("x")), api.OK, 9, 2},
		{"a key that begins as another one goes", one(takes("mm"), takes("d"), takes("dgg"), takes("\x00"), takes("tk")), api.OK, 9, 1},
		{"a key that is no world's", one(puts("x", "1")), api.ErrCorrupt, 0, 0},
		{"an empty value that is no world's", one(puts("m", "")), api.ErrCorrupt, 0, 0},
		{"a value that is no world's, and then one that is", two(puts("m", ""), at(10)), api.OK, 10, 2},
		{"a world's value, and then one that is none", two(at(10), puts("m", "")), api.ErrCorrupt, 0, 0},
		{"a time that is too high", one(at(end + 1)), api.ErrCorrupt, 0, 0},
		{"the last time", one(at(end)), api.OK, end, 1},
		{"a token that is too low", one(puts("m", times(10, 2))), api.ErrCorrupt, 0, 0},
		{"times that both are 0", one(puts("m", times(0, 0))), api.ErrCorrupt, 0, 0},
		{"a time that goes", one(takes("m")), api.ErrCorrupt, 0, 0},
		{"a graph that goes", one(takes("dg")), api.ErrCorrupt, 0, 0},
		{"a run that goes", one(takes("rk")), api.ErrCorrupt, 0, 0},
		{"a task that goes", one(takes("tk\x00")), api.ErrCorrupt, 0, 0},
		{"a run that goes with its tasks", one(takes("rk"), takes("tk\x00"), takes("tk\x01")), api.OK, 9, 1},
		{"a run that goes in three", []string{one(takes("rk"))[0], one(takes("tk\x00"))[0], one(takes("tk\x01"))[0]}, api.OK, 9, 3},
		{"no body", []string{""}, api.ErrCorrupt, 0, 0},
		{"a change too few", []string{"\x01"}, api.ErrCorrupt, 0, 0},
		{"a byte too many", []string{"\x00\x00"}, api.ErrCorrupt, 0, 0},
		{"a change of no kind", []string{"\x01\x02\x00\x01x"}, api.ErrCorrupt, 0, 0},
		{"a change of no key", []string{"\x01\x01\x00\x00"}, api.ErrCorrupt, 0, 0},
		{"a key that is too long", []string{"\x01\x01\x00\x21" + longest + "x"}, api.ErrCorrupt, 0, 0},
		{"a text that is cut off", []string{"\x01\x01\x00\x02x"}, api.ErrCorrupt, 0, 0},
		{"the second one is none", append(one(at(10)), "\x01"), api.ErrCorrupt, 0, 0},
		{"the first one is none", append([]string{"\x01"}, one(at(10))...), api.ErrCorrupt, 0, 0},
		{"the eighth one is none", append(slices.Repeat(one(), 7), "\x01"), api.ErrCorrupt, 0, 0},
		{"one is none, and there is no world", []string{body(t, puts("x", "1")), "\x01"}, api.ErrCorrupt, 0, 0},
	}
}

func TestRecords(t *testing.T) {
	w := made(t, 40, beginning()...).World
	sound := deviceOf(t, 40, pairsOf(t, w)...)
	pairs := len(pairsOf(t, w))
	for _, c := range recordCases(t) {
		d := withRecords(t, sound, c.bodies...)
		h, w, bad := hold(t, c.name, d)
		if bad != c.want || w.Now != c.now || h.Records != c.records {
			t.Errorf("%s: %v, %v, %d", c.name, h, w, bad)
		}
		// Pairs are the tree's, whatever records change.
		if bad == api.OK && h.Pairs != pairs {
			t.Errorf("%s: %d pairs", c.name, h.Pairs)
		}
		if told := holdOpen(t, c.name, d); told != bad {
			t.Errorf("%s: Check tells %d, Open %d", c.name, bad, told)
		}
	}
}

// All pairs may go, and all may come, by records alone.
func TestRecordsAlone(t *testing.T) {
	w := made(t, 40, beginning()...).World
	var all, none []api.Change
	for _, p := range pairsOf(t, w) {
		all, none = append(all, puts(p.Key, p.Val)), append(none, takes(p.Key))
	}
	comes := []string{body(t, all[:3]...), body(t, all[3:]...)}
	goes := []string{body(t, none...)}
	sound := deviceOf(t, 40, pairsOf(t, w)...)
	for _, c := range []struct {
		name        string
		d           api.Device
		want        api.World
		pairs, recs int
	}{
		{"all come", withRecords(t, formatted(t, 40), comes...), w, 0, 2},
		{"all come behind themselves", withRecords(t, sound, comes...), w, len(all), 2},
		{"all go", withRecords(t, sound, goes...), api.World{}, len(all), 1},
		{"all go, and come", withRecords(t, sound, append(slices.Clone(goes), comes...)...), w, len(all), 3},
		{"all come, and go", withRecords(t, formatted(t, 40), append(slices.Clone(comes), goes...)...), api.World{}, 0, 3},
	} {
		h := holdSound(t, c.name, c.d, c.want)
		if h.Pairs != c.pairs || h.Records != c.recs || h.Dags != len(c.want.Dags) || h.Runs != len(c.want.Runs) {
			t.Errorf("%s: %v", c.name, h)
		}
		if told := holdOpen(t, c.name, c.d); told != api.OK {
			t.Errorf("%s: Open tells %d", c.name, told)
		}
	}
}

// What lies in the ring's blocks, but is no record in its place and of the superblock's generation, is not read.
func TestRecordsThatDoNotCount(t *testing.T) {
	w := made(t, 40, beginning()...).World
	sound := deviceOf(t, 40, pairsOf(t, w)...)
	gen := found(t, sound).Super.Gen
	other := body(t, puts("m", times(10, 3)))
	for _, c := range []struct {
		name    string
		d       api.Device
		records int
		now     int
	}{
		{"of an elder generation", withBlock(sound, 2, record(t, gen-1, 0, other)), 0, 9},
		{"of a later generation", withBlock(sound, 2, record(t, gen+1, 0, other)), 0, 9},
		{"of an elder generation, and no changes", withBlock(sound, 2, record(t, gen-1, 0, "\x01")), 0, 9},
		{"behind a gap", withBlock(sound, 3, record(t, gen, 1, other)), 0, 9},
		{"behind a gap, and no changes", withBlock(sound, 3, record(t, gen, 1, "\x01")), 0, 9},
		{"of another number", withBlock(sound, 2, record(t, gen, 1, other)), 0, 9},
		{"behind one of an elder generation", withBlock(withBlock(sound, 2, record(t, gen-1, 0, other)), 3, record(t, gen, 1, other)), 0, 9},
		{"one ahead of one of an elder generation", withBlock(withBlock(sound, 2, record(t, gen, 0, other)), 3, record(t, gen-1, 1, "\x01")), 1, 10},
		{"one ahead of a gap", withBlock(withBlock(sound, 2, record(t, gen, 0, other)), 4, record(t, gen, 2, "\x01")), 1, 10},
		{"in a block that is no record's", withBlock(sound, 39, record(t, gen, 0, other)), 0, 9},
		{"any bytes", withBlock(sound, 2, "any bytes"), 0, 9},
		{"a superblock", withBlock(sound, 2, sound.Blocks[found(t, sound).Slot]), 0, 9},
	} {
		h, w, bad := hold(t, c.name, c.d)
		if bad != api.OK || h.Records != c.records || w.Now != c.now {
			t.Errorf("%s: %v, %v, %d", c.name, h, w, bad)
		}
		holdOpen(t, c.name, c.d)
	}
}

// P24.1: whether there is a world

func TestPairsThatAreNoWorlds(t *testing.T) {
	pairs := pairsOf(t, made(t, 40, beginning()...).World)
	for i, p := range pairs {
		var rest []api.Pair
		for _, q := range pairs {
			if q != p {
				rest = append(rest, q)
			}
		}
		name := fmt.Sprintf("without %q", p.Key)
		d := deviceOf(t, 40, rest...)
		if _, _, bad := hold(t, name, d); bad != api.ErrCorrupt {
			t.Errorf("%s: %d", name, bad)
		}
		// With the pair in a record it is there again.
		holdSound(t, name+", but with a record", withRecords(t, d, body(t, puts(p.Key, p.Val))), made(t, 40, beginning()...).World)
		for _, val := range []string{"", p.Val + "\x00", p.Val[1:], "\xff" + p.Val[1:]} {
			other := slices.Clone(pairs)
			other[i].Val = val
			name := fmt.Sprintf("with %q: %q", p.Key, val)
			d := deviceOf(t, 40, other...)
			if _, _, bad := hold(t, name, d); bad != api.ErrCorrupt {
				t.Errorf("%s: %d", name, bad)
			}
		}
	}
	for _, key := range []string{"\x00", "a", "d", "dgg", "dh", "e", "mm", "n", "r", "rka", "s", "t", "tk", "tk\x02", "tl\x00\x00", "u", "\xff"} {
		name := fmt.Sprintf("with the key %q", key)
		if _, _, bad := hold(t, name, deviceOf(t, 40, append(slices.Clone(pairs), api.Pair{Key: key})...)); bad != api.ErrCorrupt {
			t.Errorf("%s: %d", name, bad)
		}
	}
}

// spread is a world of so many pairs, of which none are of the times.
func spread(count int) api.World {
	runs := (count - 1) / 11
	w := full(count-11*runs, runs)
	w.Now, w.Token = 0, 0
	return w
}

// Worlds of as many pairs as one look.Scan tells, or two, and some more or less: each pair is told.
func TestManyPairs(t *testing.T) {
	for _, w := range []api.World{spread(2), spread(255), spread(256), spread(257), spread(511), spread(512), spread(513), full(16, 64)} {
		pairs := pairsOf(t, w)
		name := fmt.Sprint(len(pairs), " pairs")
		t.Run(name, func(t *testing.T) {
			t.Parallel()
			d := deviceOf(t, 400, pairs...)
			h := holdSound(t, name, d, w)
			if h.Pairs != len(pairs) || h.Dags != len(w.Dags) || h.Runs != len(w.Runs) || h.Records != 0 {
				t.Errorf("%v", h)
			}
			if low := 1 + len(pairs)/9; h.Blocks < low/2 || h.Height < 1 || len(pairs) > 8 && h.Height < 2 {
				t.Errorf("%v", h)
			}
			for _, i := range []int{0, len(pairs) / 2, len(pairs) - 2, len(pairs) - 1, min(254, len(pairs)-1), min(255, len(pairs)-1), min(256, len(pairs)-1)} {
				less := withRecords(t, d, body(t, takes(pairs[i].Key)))
				// A graph may go, of which there is no run.
				if _, _, bad := hold(t, name, less); bad != api.ErrCorrupt && len(w.Runs) > 0 && pairs[i].Key[0] != 'd' {
					t.Errorf("without %q: %d", pairs[i].Key, bad)
				}
			}
			for _, key := range []string{"\x00", "p", "zzz"} {
				more := withRecords(t, d, body(t, puts(key, "")))
				if _, _, bad := hold(t, name, more); bad != api.ErrCorrupt {
					t.Errorf("with %q: %d", key, bad)
				}
			}
		})
	}
}

// P24.2

func TestHealth(t *testing.T) {
	g := row("g")
	run := []api.Command{dagOf(g), start("k", "g")}
	two := append(slices.Clone(run), dagOf(row("h")), start("l", "g"), start("m", "h"))
	synced := func(e api.Engine) api.Device { return crashed(t, told(t, e, sync())) }
	health := func(gen, root, bitmap, size, pairs, height, blocks, records, dags, runs int) api.Health {
		return api.Health{
			Super:   api.Super{Gen: gen, Root: root, Map: bitmap, Size: size},
			Report:  api.Report{Pairs: pairs, Height: height, Blocks: blocks},
			Records: records, Dags: dags, Runs: runs,
		}
	}
	for _, c := range []struct {
		name string
		d    api.Device
		want api.Health
	}{
		{"formatted", formatted(t, 24), health(1, 0, 10, 24, 0, 0, 0, 0, 0, 0)},
		{"formatted, of 2048", formatted(t, 2048), health(1, 0, 10, 2048, 0, 0, 0, 0, 0, 0)},
		{"opened", made(t, 24).Device, health(2, 0, 11, 24, 0, 0, 0, 0, 0, 0)},
		{"synced without a command", synced(made(t, 24)), health(2, 0, 11, 24, 0, 0, 0, 0, 0, 0)},
		{"a tick", synced(made(t, 24, tick(5))), health(2, 0, 11, 24, 0, 0, 0, 1, 0, 0)},
		{"a tick, lost", crashed(t, made(t, 24, tick(5))), health(2, 0, 11, 24, 0, 0, 0, 0, 0, 0)},
		{"two ticks", synced(made(t, 24, tick(5), tick(6))), health(2, 0, 11, 24, 0, 0, 0, 2, 0, 0)},
		{"two ticks, one lost", crashed(t, made(t, 24, tick(5), sync(), tick(6))), health(2, 0, 11, 24, 0, 0, 0, 1, 0, 0)},
		{"two ticks, the first one lost", crashed(t, made(t, 24, tick(5), tick(6)), 0, 255), health(2, 0, 11, 24, 0, 0, 0, 0, 0, 0)},
		{"eight ticks", synced(made(t, 24, ticks(1, 9)...)), health(2, 0, 11, 24, 0, 0, 0, 8, 0, 0)},
		{"a tick, checkpointed", marked(t, made(t, 24, tick(5))).Device, health(3, 10, 12, 24, 1, 1, 1, 0, 0, 0)},
		{"a graph", synced(made(t, 24, run[:1]...)), health(2, 0, 11, 24, 0, 0, 0, 1, 1, 0)},
		{"a run", synced(made(t, 24, run...)), health(2, 0, 11, 24, 0, 0, 0, 2, 1, 1)},
		{"a run, checkpointed", marked(t, made(t, 24, run...)).Device, health(3, 10, 12, 24, 4, 1, 1, 0, 1, 1)},
		{"a run, checkpointed, and another one", synced(told(t, marked(t, made(t, 24, run...)), start("l", "g"))), health(3, 10, 12, 24, 4, 1, 1, 1, 1, 2)},
		{"three runs", synced(made(t, 24, two...)), health(2, 0, 11, 24, 0, 0, 0, 5, 2, 3)},
		{"three runs, checkpointed", marked(t, made(t, 24, two...)).Device, health(3, 13, 14, 24, 11, 2, 3, 0, 2, 3)},
	} {
		h, _, bad := hold(t, c.name, c.d)
		if h != c.want || bad != api.OK {
			t.Errorf("%s: %+v, %d; want %+v", c.name, h, bad, c.want)
		}
		holdOpen(t, c.name, c.d)
	}
}

// Behind each command that is synced, or that is on its way and stays, or that was checkpointed, the world is told.
func TestTheWorldIsTold(t *testing.T) {
	w := api.World{}
	e := made(t, 40)
	for i, c := range beginning() {
		e = told(t, e, c)
		var a api.Answer
		if w, a = world.Do(w, c); a.Why != api.OK {
			t.Fatal(a)
		}
		name := fmt.Sprint("behind ", i+1, " commands")
		holdSound(t, name, crashed(t, told(t, e, sync())), w)
		holdSound(t, name+", all sectors staying", crashed(t, e, slices.Repeat([]int{255}, 8)...), w)
		holdSound(t, name+", checkpointed", marked(t, e).Device, w)
	}
}

// P24.3: no room, and no generation

// tight is an engine of 24 blocks that has no room for another run of ten tasks.
func tight(t *testing.T) api.Engine {
	t.Helper()
	e := made(t, 24, dagOf(ten("x")), start("a", "x"), tick(5))
	for key := 'b'; ; key++ {
		next, a := engine.Do(e, start(string(key), "x"))
		if a.Why == api.ErrSpace {
			return e
		}
		if e = next; a.Why != api.OK {
			t.Fatal(a)
		}
	}
}

// A record that has no room is told all the same.
func TestNoRoomForTheRecords(t *testing.T) {
	e := marked(t, tight(t))
	next, a := world.Do(e.World, start("y", "x"))
	changes, bad := rows.Diff(e.World, next)
	if a.Why != api.OK || bad != api.OK {
		t.Fatal(a, bad)
	}
	d := withRecords(t, e.Device, body(t, changes...))
	if h := holdSound(t, "no room", d, next); h.Records != 1 || h.Runs != len(e.World.Runs)+1 {
		t.Errorf("%v", h)
	}
	if told := holdOpen(t, "no room", d); told != api.ErrCorrupt {
		t.Errorf("Open tells %d", told)
	}
	// Also where another record takes it back.
	var back []api.Change
	for _, c := range changes {
		back = append(back, takes(c.Key))
	}
	d = withRecords(t, e.Device, body(t, changes...), body(t, back...))
	if h := holdSound(t, "no room, taken back", d, e.World); h.Records != 2 {
		t.Errorf("%v", h)
	}
	if told := holdOpen(t, "no room, taken back", d); told != api.ErrCorrupt {
		t.Errorf("Open tells %d", told)
	}
}

// stuffed is a device of 24 blocks, of which none is free, and its world.
func stuffed(t *testing.T) (api.Device, api.World) {
	t.Helper()
	s, bad := store.New(24)
	if bad != api.OK {
		t.Fatal(bad)
	}
	for runs := 10; runs < 40; runs++ {
		for graphs := 1; graphs <= 16; graphs++ {
			w := api.World{}
			for name := range graphs {
				w, _ = world.Do(w, dagOf(graph(string(rune('a'+name)), nil)))
			}
			for key := range runs {
				w, _ = world.Do(w, start(string(rune('0'+key)), "a"))
			}
			wood := s.Wood
			for _, p := range pairsOf(t, w) {
				if wood, bad = prune.Change(wood, puts(p.Key, p.Val)); bad != api.OK {
					break
				}
			}
			if bad == api.OK && alloc.Free(wood.Alloc) == 0 {
				return laid(t, wood, s.Super.Map), w
			}
		}
	}
	t.Fatal("a block is always free")
	return api.Device{}, api.World{}
}

// laid is a device that has a wood.
func laid(t *testing.T, w api.Wood, bitmap int) api.Device {
	t.Helper()
	bytes, bad := page.Put(api.Page{Kind: api.PMap, Gen: w.Gen, Body: bits.Pack(w.Now)})
	first, why := super.Put(api.Super{Gen: w.Gen, Root: w.Root, Map: bitmap, Size: len(w.Now)})
	if bad != api.OK || why != api.OK {
		t.Fatal(bad, why)
	}
	blocks := slices.Clone(w.Pages)
	for block := range api.Reserved {
		blocks[block] = ""
	}
	blocks[0], blocks[bitmap] = first, bytes
	return api.Device{Blocks: blocks}
}

func TestNoRoomForTheCheckpoint(t *testing.T) {
	d, w := stuffed(t)
	if h := holdSound(t, "stuffed", d, w); h.Blocks != 13 || h.Height < 2 || h.Records != 0 {
		t.Errorf("%v", h)
	}
	if told := holdOpen(t, "stuffed", d); told != api.ErrSpace {
		t.Errorf("Open tells %d", told)
	}
	d = withRecords(t, d, body(t))
	holdSound(t, "stuffed, with a record", d, w)
	if told := holdOpen(t, "stuffed, with a record", d); told != api.ErrSpace {
		t.Errorf("Open tells %d", told)
	}
	later := w
	later.Now = 5
	d = withRecords(t, d, body(t, puts("m", times(5, 0))))
	holdSound(t, "stuffed, with a time", d, later)
	if told := holdOpen(t, "stuffed, with a time", d); told != api.ErrCorrupt {
		t.Errorf("Open tells %d", told)
	}
}

func TestGenerationsAreUsedUp(t *testing.T) {
	e := marked(t, made(t, 40, beginning()...))
	for _, c := range []struct {
		gen         int
		check, open api.Errno
	}{
		{end - 3, api.OK, api.OK}, {end - 2, api.OK, api.OK}, {end - 1, api.OK, api.ErrLong}, {end, api.ErrCorrupt, api.ErrCorrupt},
	} {
		for _, d := range []api.Device{e.Device, formatted(t, 24)} {
			d = aged(t, d, c.gen)
			name := fmt.Sprint("generation ", c.gen)
			h, _, bad := hold(t, name, d)
			told := holdOpen(t, name, d)
			if bad != c.check || told != c.open || bad == api.OK && h.Super.Gen != c.gen {
				t.Errorf("%s: %v, %d; Open: %d", name, h, bad, told)
			}
		}
	}
	d := withRecords(t, aged(t, e.Device, end-1), body(t, puts("m", times(10, 3))))
	if _, w, bad := hold(t, "the last record", d); bad != api.OK || w.Now != 10 {
		t.Errorf("the last record: %v, %d", w, bad)
	}
	// An engine's last checkpoint is checked, too.
	last := marked(t, told(t, opened(t, aged(t, formatted(t, 24), end-3)), tick(5)))
	if h := holdSound(t, "the last checkpoint", last.Device, last.World); h.Super.Gen != end-1 {
		t.Errorf("%v", h)
	}
	if told := holdOpen(t, "the last checkpoint", last.Device); told != api.ErrLong {
		t.Errorf("Open tells %d", told)
	}
}

// What a mount finds, of pages of the generation that is begun: the tree may have been made ahead of its superblock.
func TestPagesOfTheGenerationThatIsBegun(t *testing.T) {
	e := marked(t, made(t, 40, beginning()...))
	f := found(t, e.Device)
	p, bad := page.Get(e.Blocks[f.Super.Root])
	if bad != api.OK {
		t.Fatal(bad)
	}
	for gen, want := range map[int]api.Errno{1: api.OK, f.Super.Gen: api.OK, f.Super.Gen + 1: api.OK, f.Super.Gen + 2: api.ErrCorrupt} {
		p.Gen = gen
		bytes, bad := page.Put(p)
		if bad != api.OK {
			t.Fatal(bad)
		}
		d := withBlock(e.Device, f.Super.Root, bytes)
		name := fmt.Sprint("generation ", gen, " of ", f.Super.Gen)
		if _, _, bad := hold(t, name, d); bad != want {
			t.Errorf("%s: %d", name, bad)
		}
		if told := holdOpen(t, name, d); told != want {
			t.Errorf("%s: Open tells %d", name, told)
		}
		if want != api.OK {
			continue
		}
		d = withRecords(t, d, body(t, puts("m", times(10, 3))))
		for left := range 6 {
			at, bad := engine.Open(api.Power{Device: d, Left: left})
			if bad != api.OK && bad != api.ErrDown {
				t.Fatalf("%s: Open: %d", name, bad)
			}
			for _, masks := range [][]int{nil, {255}, {255, 255}, {0, 255}, {1, 254}, {255, 255, 255}} {
				if _, w, bad := hold(t, name, crashed(t, at, masks...)); bad != api.OK || w.Now != 10 {
					t.Errorf("%s, power for %d: %v, %d", name, left, w, bad)
				}
			}
		}
	}
}

// A block that nothing holds, or that is not used, is not right.
func TestBlocksThatAreNotHeld(t *testing.T) {
	e := marked(t, made(t, 40, beginning()...))
	f := found(t, e.Device)
	for block := range 40 {
		places := slices.Clone(f.Wood.Now)
		places[block] = !places[block]
		bytes, bad := page.Put(api.Page{Kind: api.PMap, Gen: f.Super.Gen, Body: bits.Pack(places)})
		if bad != api.OK {
			t.Fatal(bad)
		}
		name := fmt.Sprint("block ", block)
		if _, _, bad := hold(t, name, withBlock(e.Device, f.Super.Map, bytes)); bad != api.ErrCorrupt {
			t.Errorf("%s: %d", name, bad)
		}
	}
}

// Each byte of what counts is looked at; of a record and of the elder superblock one byte that is turned has it not count.
func TestTurnedBytes(t *testing.T) {
	e := told(t, marked(t, made(t, 24, beginning()...)), tick(30), sync())
	d := crashed(t, e)
	for block, s := range d.Blocks {
		for at := range len(s) {
			b := []byte(s)
			b[at] ^= 0x55
			if b[len(b)-1] == 0 {
				continue
			}
			name := fmt.Sprint("block ", block, ", byte ", at)
			turned := withBlock(d, block, string(b))
			_, w, bad := hold(t, name, turned)
			switch {
			case block == 2 && (bad != api.OK || w.Now != 9):
				t.Fatalf("%s: %v, %d", name, w, bad)
			case (block == e.Super.Map || block == e.Super.Root) && bad != api.ErrCorrupt:
				t.Fatalf("%s: %d", name, bad)
			case block == 1-e.Slot && (bad != api.OK || w.Now != 30):
				t.Fatalf("%s: %v, %d", name, w, bad)
			}
			if at%7 == 0 {
				holdOpen(t, name, turned)
			}
		}
	}
}

// Mount and Check tell the same: whatever is found is what Check tells of.
func TestCheckTellsWhatIsFound(t *testing.T) {
	for i, c := range beginning() {
		e := told(t, made(t, 40, beginning()[:i]...), c, sync())
		f, bad := pager.Mount(e.Device)
		h, why := Check(e.Device)
		if bad != api.OK || why != api.OK || h.Super != f.Super || h.Records != len(f.Ring) {
			t.Errorf("%v: %v, %d; %v, %d", c, f, bad, h, why)
		}
		if changes, bad := ring.Unpack(f.Ring[0]); bad != api.OK || len(changes) == 0 {
			t.Errorf("%v: %v, %d", c, changes, bad)
		}
	}
}
