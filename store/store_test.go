package store

import (
	"fmt"
	"math"
	"slices"
	"strings"
	"testing"

	"penelope/api"
	"penelope/check"
	"penelope/device"
	"penelope/look"
	"penelope/pager"
	"penelope/prune"
)

// storeIs holds what a call tells against what it is to tell, and what it was handed against what that was (R4).
func storeIs(t *testing.T, what string, handed api.Store, call func(api.Store) (api.Store, api.Errno), want api.Store, e api.Errno) {
	t.Helper()
	was := twinStore(handed)
	got, f := call(handed)
	if f != e || !sameStore(got, want) {
		t.Fatalf("%s with power for %d:\n%s, %d; want\n%s, %d", what, handed.Left, showStore(got), f, showStore(want), e)
	}
	if !sameStore(handed, was) {
		t.Fatalf("%s changed what it was handed", what)
	}
}

// asWritten holds a call against the chapter's words, with power for each number of calls up to all of them, for more, and for any.
func asWritten(t *testing.T, what string, s api.Store, call func(api.Store) (api.Store, api.Errno), c *course) {
	t.Helper()
	lefts := append(upTo(0, c.calls()+2), c.calls()+100, math.MaxInt, -1, -2, math.MinInt)
	for _, left := range lefts {
		want, e := c.told(left)
		storeIs(t, what, powered(s, left), call, want, e)
	}
}

func openAsWritten(t *testing.T, what string, d api.Device) {
	t.Helper()
	call := func(s api.Store) (api.Store, api.Errno) { return Open(s.Power) }
	asWritten(t, what+": Open", api.Store{Power: withPower(d, 0)}, call, openOf(d))
}

func doAsWritten(t *testing.T, what string, s api.Store, changes ...api.Change) {
	t.Helper()
	was := slices.Clone(changes)
	call := func(s api.Store) (api.Store, api.Errno) { return Do(s, changes...) }
	asWritten(t, fmt.Sprintf("%s: Do(%d changes)", what, len(changes)), s, call, doOf(s, changes))
	if !slices.Equal(changes, was) {
		t.Fatalf("%s: Do changed the changes", what)
	}
}

func syncAsWritten(t *testing.T, what string, s api.Store) {
	t.Helper()
	asWritten(t, what+": Sync", s, Sync, syncOf(s))
}

func checkpointAsWritten(t *testing.T, what string, s api.Store) {
	t.Helper()
	asWritten(t, what+": Checkpoint", s, Checkpoint, checkpointOf(s))
}

func openFails(t *testing.T, what string, d api.Device, e api.Errno) {
	t.Helper()
	for _, left := range []int{0, 1, 2, 3, 4, 5, 9, -1} {
		call := func(s api.Store) (api.Store, api.Errno) { return Open(s.Power) }
		storeIs(t, what+": Open", api.Store{Power: withPower(d, left)}, call, api.Store{}, e)
	}
}

// doFails has a Do tell an error and the zero store; the caller has the store that was handed in.
func doFails(t *testing.T, what string, s api.Store, e api.Errno, changes ...api.Change) {
	t.Helper()
	call := func(s api.Store) (api.Store, api.Errno) { return Do(s, changes...) }
	storeIs(t, what+": Do", s, call, api.Store{}, e)
}

// allFail has each call that asks whether the store may be tell ErrArg, however much power there is.
func allFail(t *testing.T, what string, s api.Store) {
	t.Helper()
	if Right(s) {
		t.Fatalf("%s: Right", what)
	}
	for _, left := range []int{0, 1, 5, -1} {
		at := powered(s, left)
		doFails(t, what, at, api.ErrArg)
		doFails(t, what, at, api.ErrArg, put("a", "1"))
		doFails(t, what+", changes that may not be", at, api.ErrArg, put("", ""))
		doFails(t, what+", too many changes", at, api.ErrArg, puts(200, 1, 2, 3)...)
		storeIs(t, what+": Sync", at, Sync, api.Store{}, api.ErrArg)
		storeIs(t, what+": Checkpoint", at, Checkpoint, api.Store{}, api.ErrArg)
	}
}

// valueOf is what a key tells.
func valueOf(t *testing.T, s api.Store, key string) (string, api.Errno) {
	t.Helper()
	return look.Get(s.Wood, key)
}

func wantPairs(t *testing.T, what string, s api.Store, pairs ...api.Pair) {
	t.Helper()
	if got := pairsOf(t, s.Wood); !slices.Equal(got, pairs) {
		t.Fatalf("%s: pairs %v; want %v", what, got, pairs)
	}
}

// The chapter's examples.
func TestExamples(t *testing.T) {
	s := made(t, 24)
	if s.Super.Gen != 2 {
		t.Errorf("Gen %d counts", s.Super.Gen)
	}
	wantPairs(t, "New(24)", s)
	s = done(t, s, put("a", "1"))
	wantPairs(t, "Do, Crash, Open", opened(t, crashed(t, s)))
	wantPairs(t, "Do, Sync, Crash, Open", opened(t, crashed(t, synced(t, s))), api.Pair{Key: "a", Val: "1"})
}

// P15.1

func TestNewWrittenOut(t *testing.T) {
	s := made(t, 24)
	blocks := make([]string, 24)
	blocks[0], blocks[10] = superOf(1, 0, 10, 24), mapOf(1, used(24, 10))
	blocks[1], blocks[11] = superOf(2, 0, 11, 24), mapOf(2, used(24, 11))
	if !sameDevice(s.Device, api.Device{Blocks: blocks}) || s.Left != -1 {
		t.Errorf("%s left %d; want %s", showDevice(s.Device), s.Left, showTexts(blocks))
	}
	if s.Super != (api.Super{Gen: 2, Map: 11, Size: 24}) || s.Slot != 1 || s.Seq != 0 || s.Synced != 0 {
		t.Error(showStore(s))
	}
	w := s.Wood
	if !slices.Equal(w.Base, used(24, 11)) || !slices.Equal(w.Now, used(24, 11)) || w.Root != 0 || w.Gen != 3 || w.Pages[11] != blocks[11] {
		t.Error(showStore(s))
	}
}

func TestNew(t *testing.T) {
	for _, n := range []int{24, 25, 31, 32, 33, 100, 2047, 2048} {
		s, e := New(n)
		d, _ := pager.Format(n)
		want, _ := openOf(d).told(-1)
		if e != api.OK || !sameStore(s, want) || s.Left != -1 || len(s.Blocks) != n {
			t.Errorf("New(%d): %s, %d", n, showStore(s), e)
		}
		if !Right(s) {
			t.Errorf("New(%d) may not be", n)
		}
		wantPairs(t, "New", s)
	}
	for _, n := range []int{23, 2049, 0, 1, 10, -1, -24, math.MinInt, math.MaxInt, 1<<16 + 24, 1<<32 + 24} {
		if s, e := New(n); e != api.ErrArg || !sameStore(s, api.Store{}) {
			t.Errorf("New(%d): %s, %d", n, showStore(s), e)
		}
	}
}

func rightIs(t *testing.T, what string, s api.Store, want bool) {
	t.Helper()
	was := twinStore(s)
	if is := Right(s); is != want || rightOf(s) != want {
		t.Errorf("%s: Right: %v, as written: %v", what, is, rightOf(s))
	}
	if !sameStore(s, was) {
		t.Errorf("%s: Right changed the store", what)
	}
}

func TestRight(t *testing.T) {
	for _, s := range stages(t) {
		rightIs(t, s.name, s.store, true)
		for _, left := range []int{0, 1, 9, -2, math.MinInt, math.MaxInt} {
			rightIs(t, s.name+" with other power", powered(s.store, left), true)
		}
		rightIs(t, s.name+", its power alone", api.Store{Power: s.store.Power}, false)
		bare := s.store
		bare.Power = api.Power{}
		rightIs(t, s.name+", all but its power", bare, false)
	}
	rightIs(t, "the zero store", api.Store{}, false)
	s := made(t, 24)
	s.Pending = slices.Repeat([]api.Write{{Block: 3, Bytes: "x"}}, 2048)
	rightIs(t, "many writes on their way", s, true)
}

func TestRightOfRecords(t *testing.T) {
	s := made(t, 24)
	for seq := -2; seq <= 10; seq++ {
		for n := -2; n <= 10; n++ {
			s.Seq, s.Synced = seq, n
			rightIs(t, fmt.Sprint("Seq ", seq, ", Synced ", n), s, seq <= 8 && n >= 0 && n <= seq)
		}
	}
	for _, c := range [][2]int{{math.MaxInt, 0}, {math.MinInt, 0}, {0, math.MinInt}, {8, math.MinInt}, {8, math.MaxInt}, {math.MinInt, math.MinInt}, {math.MaxInt, math.MaxInt}, {1<<32 + 3, 2}} {
		s.Seq, s.Synced = c[0], c[1]
		rightIs(t, fmt.Sprint("Seq ", c[0], ", Synced ", c[1]), s, false)
	}
}

func TestRightOfGens(t *testing.T) {
	for _, gen := range []int{1, 2, 255, 1 << 32, top - 3, top - 2} {
		s := made(t, 24)
		s.Super.Gen, s.Wood.Gen = gen, gen+1
		rightIs(t, fmt.Sprint("Gen ", gen), s, true)
	}
	s := made(t, 24)
	s.Super.Gen, s.Wood.Gen = top-1, top
	if !pager.Fits(s.Device, found(s)) {
		t.Fatal("Gen 2^40 does not fit")
	}
	rightIs(t, "Gen 2^40", s, false)
	s.Super.Gen, s.Wood.Gen = top, top+1
	rightIs(t, "Gen above 2^40", s, false)
}

func TestRightOfFreeBlocks(t *testing.T) {
	for _, s := range stages(t) {
		w := twinWood(s.store.Wood)
		last := 0
		for block := range w.Base {
			if !w.Now[block] && !w.Base[block] {
				w.Base[block], last = true, block
			}
		}
		s.store.Wood = w
		if !pager.Fits(s.store.Device, found(s.store)) {
			t.Fatal(s.name)
		}
		rightIs(t, s.name+", no block free", s.store, false)
		w.Base[last] = false
		rightIs(t, s.name+", one block free", s.store, true)
	}
}

// wrongStores are stores that may not be, each by one thing alone.
func wrongStores(t *testing.T) map[string]api.Store {
	t.Helper()
	good := done(t, filled(t, made(t, 24), puts(9, upTo(0, 12)...)...), put("a", "1"))
	all := map[string]api.Store{"the zero store": {}, "its power alone": {Power: good.Power}}
	add := func(what string, change func(s *api.Store)) {
		s := twinStore(good)
		change(&s)
		all[what] = s
	}
	bitmap, root := good.Super.Map, good.Wood.Root
	add("no device", func(s *api.Store) { s.Device = api.Device{} })
	add("a device of another size", func(s *api.Store) { s.Blocks = append(s.Blocks, "") })
	add("a device that may not be", func(s *api.Store) { s.Blocks[20] = "a\x00" })
	add("a write that may not be", func(s *api.Store) { s.Pending = append(s.Pending, api.Write{Block: 24}) })
	add("too many writes", func(s *api.Store) { s.Pending = make([]api.Write, 2049) })
	add("Slot 2", func(s *api.Store) { s.Slot = 2 })
	add("Slot -1", func(s *api.Store) { s.Slot = -1 })
	add("a superblock of another Gen", func(s *api.Store) { s.Super.Gen++ })
	add("a superblock of another Size", func(s *api.Store) { s.Super.Size++ })
	add("a Root that may not be", func(s *api.Store) { s.Super.Root = 3 })
	add("a map that is not used", func(s *api.Store) { s.Super.Map = 23 })
	add("the root as map", func(s *api.Store) { s.Super.Map, s.Super.Root = root, bitmap })
	add("a wood of another Gen", func(s *api.Store) { s.Wood.Gen-- })
	add("no wood", func(s *api.Store) { s.Wood = api.Wood{} })
	add("no pages", func(s *api.Store) { s.Wood.Pages = nil })
	add("no tree", func(s *api.Store) { s.Wood.Pages[root] = "" })
	add("a root that is a map", func(s *api.Store) { s.Wood.Pages[root] = s.Wood.Pages[bitmap] })
	add("no root", func(s *api.Store) { s.Wood.Root = 0 })
	add("a block that nothing holds", func(s *api.Store) { s.Wood.Now[23] = true })
	add("the map stands in the tree", func(s *api.Store) {
		_, blocks := blocksOf(t, s.Wood)
		s.Super.Map = blocks[0]
		s.Super.Root = 0
	})
	add("Gen 2^40", func(s *api.Store) { s.Super.Gen, s.Wood.Gen = top-1, top })
	add("no free block", func(s *api.Store) {
		for block := range s.Wood.Base {
			s.Wood.Base[block] = true
		}
	})
	add("Synced below 0", func(s *api.Store) { s.Synced = -1 })
	add("Synced above Seq", func(s *api.Store) { s.Synced = 2 })
	add("Seq below 0", func(s *api.Store) { s.Seq = -1 })
	add("Seq 9", func(s *api.Store) { s.Seq = 9 })
	add("Seq 9, Synced 9", func(s *api.Store) { s.Seq, s.Synced = 9, 9 })
	return all
}

// blocksOf are the blocks of a tree, the root and those below it.
func blocksOf(t *testing.T, w api.Wood) (int, []int) {
	t.Helper()
	blocks, e := check.Blocks(w)
	if e != api.OK {
		t.Fatalf("Blocks: %d", e)
	}
	return w.Root, slices.DeleteFunc(blocks, func(block int) bool { return block == w.Root })
}

func TestStoresThatMayNotBe(t *testing.T) {
	for what, s := range wrongStores(t) {
		rightIs(t, what, s, false)
		allFail(t, what, s)
		// One whose ring is full tells it ahead of the Checkpoint that would come first.
		if s.Seq == 1 && s.Synced == 0 {
			s.Seq = 8
			allFail(t, what+", Seq 8", s)
		}
	}
}

// P15.2

func TestOpenOfWhatMountRefuses(t *testing.T) {
	d, _ := pager.Format(24)
	blank, _ := device.New(24)
	small, _ := device.New(1)
	for what, at := range map[string]api.Device{
		"no blocks": {}, "a block with a zero at its end": withBlock(d, 20, "a\x00"), "a write on its way": withPending(d, api.Write{Block: 20, Bytes: "x"}),
		"a write to no block": withPending(d, api.Write{Block: 24, Bytes: "x"}), "too many blocks": {Blocks: make([]string, 2049)},
		"a record on its way": done(t, made(t, 24), put("a", "1")).Device,
	} {
		openFails(t, what, at, api.ErrArg)
		openAsWritten(t, what, at)
	}
	for what, at := range map[string]api.Device{
		"nothing": blank, "one block": small, "no superblock": withBlock(d, 0, ""), "a superblock that is none": withBlock(d, 0, "x"), "another size": withBlock(d, 0, superOf(1, 0, 10, 25)),
		"Gen 2^40": withBlock(d, 0, superOf(top, 0, 10, 24)), "no map": withBlock(d, 10, ""), "a map of a Gen above": withBlock(d, 10, mapOf(2, used(24, 10))), "a block that nothing holds": withBlock(d, 10, mapOf(1, used(24, 10, 11))),
		"no root": withBlock(withBlock(d, 10, mapOf(1, used(24, 10, 11))), 0, superOf(1, 11, 10, 24)),
	} {
		openFails(t, what, at, api.ErrCorrupt)
		openAsWritten(t, what, at)
	}
}

// withRecords is a device with records of a generation, from number 0 on.
func withRecords(d api.Device, gen int, bodies ...string) api.Device {
	for no, body := range bodies {
		d = withBlock(d, 2+no, recordOf(gen, no, body))
	}
	return d
}

func TestOpenWrittenOut(t *testing.T) {
	d, _ := pager.Format(24)
	d = withRecords(d, 1, bodyOf(put("a", "1"), put("b", "2")), bodyOf(take("a")), bodyOf())
	s := opened(t, d)
	leaf := laid(1, 2, "\x01\x00\x01b\x00\x012")
	want := twinDevice(d)
	want.Blocks[11], want.Blocks[12], want.Blocks[1] = leaf, mapOf(2, used(24, 11, 12)), superOf(2, 11, 12, 24)
	if !sameDevice(s.Device, want) || s.Left != -1 {
		t.Fatalf("%s; want %s", showDevice(s.Device), showDevice(want))
	}
	if s.Super != (api.Super{Gen: 2, Root: 11, Map: 12, Size: 24}) || s.Slot != 1 || s.Seq != 0 || s.Synced != 0 || s.Wood.Root != 11 || s.Wood.Gen != 3 {
		t.Fatal(showStore(s))
	}
	if !slices.Equal(s.Wood.Now, used(24, 11, 12)) || !slices.Equal(s.Wood.Base, used(24, 11, 12)) || s.Wood.Pages[11] != leaf {
		t.Fatal(showStore(s))
	}
	wantPairs(t, "Open", s, api.Pair{Key: "b", Val: "2"})
	openAsWritten(t, "written out", d)
}

func TestOpenOfRecords(t *testing.T) {
	d, _ := pager.Format(40)
	var bodies []string
	var pairs []api.Pair
	for n := range 9 {
		at := withRecords(d, 1, bodies...)
		s := opened(t, at)
		wantPairs(t, fmt.Sprint(n, " records"), s, pairs...)
		if s.Super.Gen != 2 || s.Seq != 0 || s.Synced != 0 || !Right(s) {
			t.Error(showStore(s))
		}
		openAsWritten(t, fmt.Sprint(n, " records"), at)
		// What lies there is done once: the next opening finds no records.
		wantPairs(t, fmt.Sprint(n, " records, opened twice"), opened(t, s.Device), pairs...)
		if n < 8 {
			bodies = append(bodies, bodyOf(puts(140, 3*n, 3*n+1, 3*n+2)...))
			for _, c := range puts(140, 3*n, 3*n+1, 3*n+2) {
				pairs = append(pairs, api.Pair{Key: c.Key, Val: c.Val})
			}
		}
	}
}

// Records are done in their order, each upon what the one ahead of it left.
func TestOpenDoesRecordsInOrder(t *testing.T) {
	d, _ := pager.Format(24)
	for _, c := range []struct {
		bodies []string
		want   []api.Pair
	}{
		{[]string{bodyOf(put("a", "1")), bodyOf(put("a", "2"))}, []api.Pair{{Key: "a", Val: "2"}}},
		{[]string{bodyOf(put("a", "2")), bodyOf(put("a", "1"))}, []api.Pair{{Key: "a", Val: "1"}}},
		{[]string{bodyOf(put("a", "1")), bodyOf(take("a"))}, nil},
		{[]string{bodyOf(take("a")), bodyOf(put("a", "1"))}, []api.Pair{{Key: "a", Val: "1"}}},
		{[]string{bodyOf(put("a", "1"), take("a"), put("b", "")), bodyOf(take("z"))}, []api.Pair{{Key: "b"}}},
		{[]string{bodyOf(), bodyOf(), bodyOf(put("c", "3"))}, []api.Pair{{Key: "c", Val: "3"}}},
	} {
		at := withRecords(d, 1, c.bodies...)
		wantPairs(t, fmt.Sprintf("%q", c.bodies), opened(t, at), c.want...)
		openAsWritten(t, fmt.Sprintf("%q", c.bodies), at)
	}
}

func TestOpenOfRecordsThatDoNotCount(t *testing.T) {
	s := checkpointed(t, done(t, made(t, 24), put("a", "1")))
	one := api.Pair{Key: "a", Val: "1"}
	two := api.Pair{Key: "b", Val: "2"}
	body := bodyOf(put("b", "2"))
	gen := s.Super.Gen
	d := s.Device
	for what, c := range map[string]struct {
		d    api.Device
		want []api.Pair
	}{
		"an elder generation":            {withBlock(d, 2, recordOf(gen-1, 0, body)), []api.Pair{one}},
		"a newer generation":             {withBlock(d, 2, recordOf(gen+1, 0, body)), []api.Pair{one}},
		"this one":                       {withBlock(d, 2, recordOf(gen, 0, body)), []api.Pair{one, two}},
		"another number":                 {withBlock(d, 2, recordOf(gen, 1, body)), []api.Pair{one}},
		"not the first block":            {withBlock(d, 3, recordOf(gen, 1, body)), []api.Pair{one}},
		"bytes that are no record":       {withBlock(d, 2, "x"), []api.Pair{one}},
		"a refused one that is an elder": {withBlock(d, 2, recordOf(gen-1, 0, "\x01")), []api.Pair{one}},
		"an elder one behind":            {withBlock(withBlock(d, 2, recordOf(gen, 0, body)), 3, recordOf(gen-1, 1, bodyOf(take("a")))), []api.Pair{one, two}},
		"a refused one behind an elder":  {withBlock(withBlock(d, 2, recordOf(gen-1, 0, body)), 3, recordOf(gen, 1, "\x01")), []api.Pair{one}},
	} {
		back := opened(t, c.d)
		wantPairs(t, what, back, c.want...)
		if back.Super.Gen != gen+1 {
			t.Error(what, back.Super)
		}
		openAsWritten(t, what, c.d)
	}
}

func TestOpenOfRecordsThatUnpackRefuses(t *testing.T) {
	d, _ := pager.Format(24)
	good := bodyOf(put("a", "1"))
	for _, bad := range []string{
		"", "\x01", "\x01\x00", "\x01\x02\x00\x01a", "\x01\x00\x00\x01a", "\x01\x00\x00\x01a\x00\x02x", good + "x", good + "\x00x", bodyOf(put("", "1")), bodyOf(put(strings.Repeat("k", 33), "1")),
		bodyOf(put("a", strings.Repeat("v", 201))), "\xff", "\x02" + good[1:], "\x00x",
	} {
		openFails(t, fmt.Sprintf("%q", bad), withRecords(d, 1, bad), api.ErrCorrupt)
		openFails(t, fmt.Sprintf("%q behind one", bad), withRecords(d, 1, good, bad), api.ErrCorrupt)
		openFails(t, fmt.Sprintf("%q ahead of one", bad), withRecords(d, 1, bad, good), api.ErrCorrupt)
		openFails(t, fmt.Sprintf("%q as the last one", bad), withRecords(d, 1, good, good, good, good, good, good, good, bad), api.ErrCorrupt)
	}
}

// Changes for which there is no room, though each record may be.
func TestOpenOfChangesThatChangeRefuses(t *testing.T) {
	s := tight(t)
	gen, d := s.Super.Gen, s.Device
	// Two leaves and their root have room; a third leaf has not.
	two := bodyOf(put(keyOf(0), "x"), put(keyOf(20), "x"))
	three := bodyOf(put(keyOf(0), "x"), put(keyOf(20), "x"), put(keyOf(39), "x"))
	openFails(t, "one record", withRecords(d, gen, three), api.ErrCorrupt)
	openFails(t, "the second record", withRecords(d, gen, two, bodyOf(put(keyOf(39), "x"))), api.ErrCorrupt)
	openFails(t, "a record ahead of one without changes", withRecords(d, gen, three, bodyOf()), api.ErrCorrupt)
	openAsWritten(t, "no room", withRecords(d, gen, three))
	// Where the changes have room and a new map has none, it is Commit that refuses.
	openFails(t, "no block for the map", withRecords(d, gen, two), api.ErrSpace)
	openAsWritten(t, "no block for the map", withRecords(d, gen, two))
	one := opened(t, withRecords(d, gen, bodyOf(put(keyOf(0), "x"))))
	if v, e := valueOf(t, one, keyOf(0)); v != "x" || e != api.OK {
		t.Error(v, e)
	}
	openAsWritten(t, "room", withRecords(d, gen, bodyOf(put(keyOf(0), "x"))))
}

func TestOpenOfTheLastGens(t *testing.T) {
	d, _ := pager.Format(24)
	for _, gen := range []int{top - 3, top - 2} {
		at := withRecords(withBlock(d, 0, superOf(gen, 0, 10, 24)), gen, bodyOf(put("a", "1")))
		s := opened(t, at)
		if s.Super.Gen != gen+1 || s.Wood.Gen != gen+2 {
			t.Error(showStore(s))
		}
		rightIs(t, fmt.Sprint("opened of Gen ", gen), s, gen < top-2)
		openAsWritten(t, fmt.Sprint("Gen ", gen), at)
	}
	at := withRecords(withBlock(d, 0, superOf(top-1, 0, 10, 24)), top-1, bodyOf(put("a", "1")))
	openFails(t, "generations are used up", at, api.ErrLong)
	// An error of a record comes ahead of it.
	openFails(t, "a record that is none", withRecords(at, top-1, "\x01"), api.ErrCorrupt)
}

func TestOpenAsWritten(t *testing.T) {
	for _, s := range stages(t) {
		seed := noise(len(s.name))
		for _, l := range masksOf(len(s.store.Pending), &seed) {
			openAsWritten(t, s.name, crashed(t, s.store, l...))
		}
	}
}

// Power for so many calls: ErrDown, and the store has its Power as it is then and nothing else.
func TestOpenPower(t *testing.T) {
	d, _ := pager.Format(24)
	d = withRecords(d, 1, bodyOf(put("a", "1")))
	leaf, bitmap, super := laid(1, 2, "\x01\x00\x01a\x00\x011"), mapOf(2, used(24, 11, 12)), superOf(2, 11, 12, 24)
	one, two := api.Write{Block: 11, Bytes: leaf}, api.Write{Block: 12, Bytes: bitmap}
	both := withBlock(withBlock(d, 11, leaf), 12, bitmap)
	states := []api.Device{d, withPending(d, one), withPending(d, one, two), both, withPending(both, api.Write{Block: 1, Bytes: super})}
	for left, want := range states {
		s, e := Open(withPower(d, left))
		if e != api.ErrDown || !sameStore(s, api.Store{Power: withPower(want, 0)}) {
			t.Errorf("with power for %d: %s, %d", left, showStore(s), e)
		}
	}
	for _, left := range []int{5, 6, 100, -1, -7} {
		s, e := Open(withPower(d, left))
		want := left
		if left > 0 {
			want -= 5
		}
		if e != api.OK || s.Left != want || !sameDevice(s.Device, withBlock(both, 1, super)) {
			t.Errorf("with power for %d: %s, %d", left, showStore(s), e)
		}
	}
}

// P15.3

func TestSync(t *testing.T) {
	s := made(t, 24)
	for no := range 8 {
		s = done(t, s, put("a", fmt.Sprint(no)))
		if len(s.Pending) == 0 || s.Synced != no/2*2 {
			t.Fatal(showStore(s))
		}
		if no%2 == 0 {
			continue
		}
		next := synced(t, s)
		want := twinStore(s)
		want.Device, _ = device.Flush(s.Device)
		want.Synced = no + 1
		if !sameStore(next, want) || len(next.Pending) != 0 {
			t.Fatalf("%s; want %s", showStore(next), showStore(want))
		}
		s = next
	}
	for _, s := range stages(t) {
		syncAsWritten(t, s.name, s.store)
	}
}

func TestSyncPower(t *testing.T) {
	s := done(t, made(t, 24), put("a", "1"))
	storeIs(t, "Sync", powered(s, 0), Sync, api.Store{Power: withPower(s.Device, 0)}, api.ErrDown)
	for _, left := range []int{1, 2, 9, -1, -5, math.MinInt, math.MaxInt} {
		want := synced(t, s)
		want.Left = left
		if left > 0 {
			want.Left--
		}
		storeIs(t, "Sync", powered(s, left), Sync, want, api.OK)
		if want.Synced != 1 || want.Seq != 1 {
			t.Error(showStore(want))
		}
	}
}

func TestCheckpointWrittenOut(t *testing.T) {
	s := done(t, done(t, made(t, 24), put("a", "1")), put("b", "2"))
	next := checkpointed(t, s)
	leaf := laid(1, 3, "\x02\x00\x01a\x00\x011\x00\x01b\x00\x012")
	want := made(t, 24).Device
	want.Blocks[2], want.Blocks[3] = recordOf(2, 0, bodyOf(put("a", "1"))), recordOf(2, 1, bodyOf(put("b", "2")))
	want.Blocks[10], want.Blocks[12], want.Blocks[0] = leaf, mapOf(3, used(24, 10, 12)), superOf(3, 10, 12, 24)
	if !sameDevice(next.Device, want) {
		t.Fatalf("%s; want %s", showDevice(next.Device), showDevice(want))
	}
	if next.Super != (api.Super{Gen: 3, Root: 10, Map: 12, Size: 24}) || next.Slot != 0 || next.Seq != 0 || next.Synced != 0 || next.Left != -1 {
		t.Fatal(showStore(next))
	}
	w := next.Wood
	if w.Gen != 4 || w.Root != 10 || !slices.Equal(w.Base, used(24, 10, 12)) || !slices.Equal(w.Now, used(24, 10, 12)) || w.Pages[10] != leaf {
		t.Fatal(showStore(next))
	}
}

func TestCheckpoint(t *testing.T) {
	for _, s := range stages(t) {
		p, f, e := pager.Commit(s.store.Power, found(s.store))
		next := checkpointed(t, s.store)
		want := api.Store{Power: p, Super: f.Super, Slot: f.Slot, Wood: f.Wood}
		if e != api.OK || !sameStore(next, want) {
			t.Errorf("%s: %s; want %s", s.name, showStore(next), showStore(want))
		}
		if !Right(next) || !slices.Equal(pairsOf(t, next.Wood), pairsOf(t, s.store.Wood)) {
			t.Errorf("%s: behind a Checkpoint: %s", s.name, showStore(next))
		}
		checkpointAsWritten(t, s.name, s.store)
		// What counts lies there for sure, and no record is done again.
		back := opened(t, crashed(t, next))
		if !slices.Equal(pairsOf(t, back.Wood), pairsOf(t, s.store.Wood)) || back.Super.Gen != next.Super.Gen+1 {
			t.Errorf("%s: opened behind a Checkpoint: %s", s.name, showStore(back))
		}
	}
}

func TestCheckpointOfTheLastGen(t *testing.T) {
	s := made(t, 24)
	s.Super.Gen, s.Wood.Gen = top-2, top-1
	s = done(t, s, put("a", "1"))
	next := checkpointed(t, s)
	if next.Super.Gen != top-1 || next.Wood.Gen != top {
		t.Error(showStore(next))
	}
	checkpointAsWritten(t, "Gen 2^40 - 1", s)
	allFail(t, "generations are used up", next)
	// The ninth record, too, lies in the last generation.
	s = emptyDos(t, s, 7)
	doAsWritten(t, "Gen 2^40 - 1", s, put("b", "2"))
	last := done(t, s, put("b", "2"))
	if last.Super.Gen != top-1 || last.Seq != 1 {
		t.Error(showStore(last))
	}
	allFail(t, "generations are used up behind a Do", last)
}

// Writes of others that are on their way: there may be no room for more.
func TestManyWritesOnTheirWay(t *testing.T) {
	s := made(t, 24)
	for n := 2045; n <= 2048; n++ {
		s.Pending = slices.Repeat([]api.Write{{Block: 23, Bytes: "x"}}, n)
		for _, seq := range []int{0, 8} {
			s.Seq = seq
			doAsWritten(t, fmt.Sprint(n, " writes"), s, put("a", "1"))
			syncAsWritten(t, fmt.Sprint(n, " writes"), s)
			checkpointAsWritten(t, fmt.Sprint(n, " writes"), s)
		}
	}
	s.Seq = 0
	doFails(t, "2048 writes", s, api.ErrLong, put("a", "1"))
	storeIs(t, "2048 writes: Checkpoint", s, Checkpoint, api.Store{}, api.ErrLong)
	storeIs(t, "2048 writes: Checkpoint", powered(s, 0), Checkpoint, api.Store{Power: withPower(s.Device, 0)}, api.ErrDown)
	synced(t, s)
}

// A store whose power has gone may not be.
func TestStoresWhosePowerHasGone(t *testing.T) {
	for _, s := range stages(t) {
		for _, call := range []func(api.Store) (api.Store, api.Errno){Sync, Checkpoint, func(s api.Store) (api.Store, api.Errno) { return Do(s) }} {
			gone, e := call(powered(s.store, 0))
			if e != api.ErrDown || !sameStore(gone, api.Store{Power: withPower(s.store.Device, 0)}) {
				t.Fatalf("%s: %s, %d", s.name, showStore(gone), e)
			}
			allFail(t, s.name+", its power gone", gone)
			// What is left of it is a device, that may be opened.
			opened(t, crashed(t, gone))
		}
	}
}

// P15.4

func TestDoWrittenOut(t *testing.T) {
	s := made(t, 24)
	next := done(t, s, put("a", "1"), take("z"))
	want := twinStore(s)
	want.Pending = []api.Write{{Block: 2, Bytes: recordOf(2, 0, "\x02\x00\x00\x01a\x00\x011\x01\x00\x01z")}}
	want.Wood.Now = used(24, 10, 11)
	want.Wood.Pages[10] = laid(1, 3, "\x01\x00\x01a\x00\x011")
	want.Wood.Root = 10
	want.Seq = 1
	if !sameStore(next, want) {
		t.Errorf("%s; want %s", showStore(next), showStore(want))
	}
}

func TestDoOfEachRecord(t *testing.T) {
	s := made(t, 24)
	for no := range 8 {
		changes := []api.Change{put("n", fmt.Sprint(no)), put(keyOf(no), "x")}
		doAsWritten(t, fmt.Sprint("record ", no), s, changes...)
		next := done(t, s, changes...)
		w, _ := prune.Change(s.Wood, changes...)
		if next.Seq != no+1 || next.Super != s.Super || next.Slot != s.Slot || !sameWood(next.Wood, w) || next.Synced != 0 {
			t.Fatal(showStore(next))
		}
		want := withPending(s.Device, api.Write{Block: 2 + no, Bytes: recordOf(2, no, bodyOf(changes...))})
		if !sameDevice(next.Device, want) {
			t.Fatalf("%s; want %s", showDevice(next.Device), showDevice(want))
		}
		s = next
	}
	// The ninth one has a Checkpoint come first, and is the first record of the next generation.
	ninth := []api.Change{put("n", "8")}
	doAsWritten(t, "record 8", s, ninth...)
	want := done(t, checkpointed(t, s), ninth...)
	got := done(t, s, ninth...)
	if !sameStore(got, want) || got.Seq != 1 || got.Synced != 0 || got.Super.Gen != 3 || got.Slot != 0 {
		t.Fatalf("%s; want %s", showStore(got), showStore(want))
	}
	if len(got.Pending) != 1 || got.Pending[0] != (api.Write{Block: 2, Bytes: recordOf(3, 0, bodyOf(ninth...))}) {
		t.Fatal(showStore(got))
	}
}

func TestDoAsWritten(t *testing.T) {
	for _, s := range stages(t) {
		for _, changes := range [][]api.Change{
			nil, {}, {put("a", "1")}, {put("a", "")}, {take("a")}, {take("none")}, {put("a", "1"), take("a")}, {take("a"), put("a", "2"), put("a", "3")},
			{put(keyOf(3), strings.Repeat("v", 200)), put(keyOf(4), "")}, {put(strings.Repeat("k", 32), "1")}, {put("\x00", "\x00\x00")},
			puts(9, upTo(0, 20)...), puts(150, 3, 33, 63), {take(keyOf(0)), take(keyOf(1)), take(keyOf(2)), take(keyOf(3)), take(keyOf(4))},
			puts(1, 40), puts(1, 39), puts(1, 0, 39), puts(1, 0, 20, 39), puts(1, 0, 10, 20, 30, 39),
		} {
			doAsWritten(t, s.name, s.store, changes...)
		}
	}
}

func TestDoOfChangesThatPackRefuses(t *testing.T) {
	s := done(t, made(t, 24), put("a", "1"))
	full := emptyDos(t, s, 7)
	for what, changes := range map[string][]api.Change{
		"no key": {put("", "1")}, "a key too long": {put(strings.Repeat("k", 33), "1")}, "a value too long": {put("k", strings.Repeat("v", 201))},
		"gone with a value": {{Key: "k", Val: "v", Gone: true}}, "gone without a key": {take("")}, "one among others": {put("b", "1"), take(""), put("c", "1")},
		"the last one": {put("b", "1"), put("c", strings.Repeat("v", 201))}, "too long as a whole, too": append(puts(200, 1, 2, 3), put("", "")),
	} {
		for _, left := range []int{-1, 0, 1, 9} {
			doFails(t, what, powered(s, left), api.ErrArg, changes...)
			doFails(t, what+", Seq 8", powered(full, left), api.ErrArg, changes...)
		}
	}
	// A body of 480 bytes has room, one of 481 has not: 1 and 2 * (1 + 2 + 32 + 2 + 200) bytes and what is left.
	long := []api.Change{put(strings.Repeat("a", 32), strings.Repeat("v", 200)), put(strings.Repeat("b", 32), strings.Repeat("v", 200))}
	fits := append(slices.Clone(long), take("xx"))
	if n := len(bodyOf(fits...)); n != 480 {
		t.Fatal(n)
	}
	doAsWritten(t, "480 bytes", s, fits...)
	done(t, s, fits...)
	for _, left := range []int{-1, 0, 1, 9} {
		doFails(t, "481 bytes", powered(s, left), api.ErrLong, append(slices.Clone(long), take("xxx"))...)
		doFails(t, "481 bytes, Seq 8", powered(full, left), api.ErrLong, append(slices.Clone(long), take("xxx"))...)
		doFails(t, "256 changes", powered(s, left), api.ErrLong, slices.Repeat([]api.Change{take("x")}, 256)...)
		doFails(t, "120 changes", powered(s, left), api.ErrLong, slices.Repeat([]api.Change{take("x")}, 120)...)
	}
	doAsWritten(t, "119 changes", s, slices.Repeat([]api.Change{take("x")}, 119)...)
	if got := done(t, s, slices.Repeat([]api.Change{take("x")}, 119)...); got.Seq != 2 {
		t.Error(got.Seq)
	}
}

func TestDoOfNoChanges(t *testing.T) {
	s := done(t, made(t, 24), put("a", "1"))
	next := done(t, s)
	want := twinStore(s)
	want.Device = withPending(s.Device, api.Write{Block: 3, Bytes: recordOf(2, 1, "\x00")})
	want.Seq = 2
	if !sameStore(next, want) {
		t.Errorf("%s; want %s", showStore(next), showStore(want))
	}
	wantPairs(t, "no changes", opened(t, crashed(t, synced(t, next))), api.Pair{Key: "a", Val: "1"})
}

// No block free: behind the changes, or already on the way through them. The caller has the store that was handed in.
func TestDoWithoutRoom(t *testing.T) {
	s := tight(t)
	behind, ahead := puts(2, 0, 20), puts(2, 0, 20, 39)
	if w, e := prune.Change(s.Wood, behind...); e != api.OK || freeOf(w.Alloc) != 0 {
		t.Fatal(e, "blocks are free:", freeOf(w.Alloc))
	}
	if _, e := prune.Change(s.Wood, ahead...); e != api.ErrSpace {
		t.Fatal(e)
	}
	full := emptyDos(t, s, 8)
	for _, at := range []api.Store{s, full} {
		for _, changes := range [][]api.Change{behind, ahead} {
			doFails(t, "no room", at, api.ErrSpace, changes...)
			doAsWritten(t, "no room", at, changes...)
		}
	}
	// Ahead of a Write: without power, too.
	doFails(t, "no room and no power", powered(s, 0), api.ErrSpace, behind...)
	doFails(t, "no room and no power", powered(s, 0), api.ErrSpace, ahead...)
	// Behind a Checkpoint: with power for that, ErrSpace; with less, ErrDown.
	calls := checkpointOf(full).calls()
	for left := range calls + 3 {
		got, e := Do(powered(full, left), behind...)
		if left < calls && (e != api.ErrDown || got.Left != 0 || got.Seq != 0 || got.Super != (api.Super{})) {
			t.Errorf("with power for %d: %s, %d", left, showStore(got), e)
		}
		if left >= calls && (e != api.ErrSpace || !sameStore(got, api.Store{})) {
			t.Errorf("with power for %d: %s, %d", left, showStore(got), e)
		}
	}
	// Smaller changes have room in the same store.
	if next := done(t, full, put(keyOf(0), "x")); next.Seq != 1 || freeOf(next.Wood.Alloc) != 1 {
		t.Error(showStore(next))
	}
	done(t, s, put(keyOf(0), "x"))
}

// A Checkpoint that comes first gives room that there was not.
func TestDoWithRoomBehindACheckpoint(t *testing.T) {
	s := done(t, tight(t), put(keyOf(39), "x"))
	doFails(t, "another leaf", s, api.ErrSpace, put(keyOf(0), "y"))
	s = emptyDos(t, s, 6)
	doFails(t, "Seq 7", s, api.ErrSpace, put(keyOf(0), "y"))
	s = emptyDos(t, s, 1)
	next := done(t, s, put(keyOf(0), "y"))
	if next.Seq != 1 || next.Super.Gen != s.Super.Gen+1 {
		t.Error(showStore(next))
	}
	doAsWritten(t, "Seq 8", s, put(keyOf(0), "y"))
}

// Power for so many calls of a Do that has a Checkpoint come first.
func TestDoPower(t *testing.T) {
	s := done(t, made(t, 24), put("a", "1"))
	storeIs(t, "Do", powered(s, 0), func(s api.Store) (api.Store, api.Errno) { return Do(s, put("b", "2")) }, api.Store{Power: withPower(s.Device, 0)}, api.ErrDown)
	one, e := Do(powered(s, 1), put("b", "2"))
	if e != api.OK || one.Left != 0 || one.Seq != 2 {
		t.Error(showStore(one), e)
	}
	s = emptyDos(t, s, 7)
	// A leaf, the map, a flush, the superblock, a flush; then the record.
	for left := range 6 {
		gone, e := Do(powered(s, left), put("b", "2"))
		if e != api.ErrDown {
			t.Fatalf("with power for %d: %d", left, e)
		}
		want, f, _ := pager.Commit(withPower(s.Device, left), found(s))
		if f.Super.Gen != 0 && left < 5 || !sameStore(gone, api.Store{Power: want}) || gone.Left != 0 {
			t.Errorf("with power for %d: %s", left, showStore(gone))
		}
	}
	all, e := Do(powered(s, 6), put("b", "2"))
	if e != api.OK || all.Left != 0 || all.Seq != 1 || all.Super.Gen != 3 {
		t.Error(showStore(all), e)
	}
	if next, e := Do(powered(s, 7), put("b", "2")); e != api.OK || next.Left != 1 {
		t.Error(showStore(next), e)
	}
}

// P15.5

func TestCrash(t *testing.T) {
	for _, s := range stages(t) {
		gone, _ := Sync(powered(s.store, 0))
		seed := noise(7)
		for _, l := range append(masksOf(len(s.store.Pending), &seed), nil, []int{255}, []int{-1, 256, math.MinInt, math.MaxInt}, slices.Repeat([]int{255}, 20)) {
			want, e := device.Crash(s.store.Device, l...)
			for _, at := range []api.Store{s.store, gone, powered(s.store, 0), {Power: s.store.Power}} {
				was, masks := twinStore(at), slices.Clone(l)
				d, f := Crash(at, l...)
				if f != e || e != api.OK || !sameDevice(d, want) || len(d.Pending) != 0 {
					t.Fatalf("%s: Crash(%v): %s, %d; want %s", s.name, l, showDevice(d), f, showDevice(want))
				}
				if !sameStore(at, was) || !slices.Equal(l, masks) {
					t.Fatalf("%s: Crash changed what it was handed", s.name)
				}
			}
		}
	}
}

func TestCrashOfADeviceThatMayNotBe(t *testing.T) {
	good := done(t, made(t, 24), put("a", "1"))
	for what, change := range map[string]func(s *api.Store){
		"the zero store":          func(s *api.Store) { *s = api.Store{} },
		"no device":               func(s *api.Store) { s.Device = api.Device{} },
		"a zero at a block's end": func(s *api.Store) { s.Blocks[3] = "a\x00" },
		"a write to no block":     func(s *api.Store) { s.Pending[0].Block = 24 },
		"too many blocks":         func(s *api.Store) { s.Blocks = make([]string, 2049) },
	} {
		s := twinStore(good)
		change(&s)
		for _, l := range [][]int{nil, {255}, {0, 1}} {
			if d, e := Crash(s, l...); e != api.ErrArg || !sameDevice(d, api.Device{}) {
				t.Errorf("%s: %s, %d", what, showDevice(d), e)
			}
		}
	}
	// A store that may not be, though its device may.
	for what, s := range wrongStores(t) {
		want, e := device.Crash(s.Device, 255)
		if d, f := Crash(s, 255); f != e || !sameDevice(d, want) {
			t.Errorf("%s: %s, %d", what, showDevice(d), f)
		}
	}
}
