package store

import (
	"math"
	"slices"
	"testing"

	"penelope/api"
	"penelope/device"
	"penelope/pager"
)

// The rules, and P1

// calls are the calls of a store that tell a store.
func calls() map[string]func(api.Store) (api.Store, api.Errno) {
	return map[string]func(api.Store) (api.Store, api.Errno){
		"Do":           func(s api.Store) (api.Store, api.Errno) { return Do(s, put("a", "2"), take("b")) },
		"Do of none":   func(s api.Store) (api.Store, api.Errno) { return Do(s) },
		"Do of wrongs": func(s api.Store) (api.Store, api.Errno) { return Do(s, put("", "")) },
		"Sync":         Sync,
		"Checkpoint":   Checkpoint,
		"Open":         func(s api.Store) (api.Store, api.Errno) { return Open(s.Power) },
		"Crash": func(s api.Store) (api.Store, api.Errno) {
			d, e := Crash(s, 255, 1)
			return api.Store{Power: withPower(d, 0)}, e
		},
	}
}

func TestAnswersAreNewMemory(t *testing.T) {
	all := stages(t)
	for _, s := range stages(t) {
		d, _ := device.Flush(s.store.Device)
		flushed := s.store
		flushed.Device = d
		all = append(all, stage{s.name + ", flushed", flushed})
	}
	for _, s := range all {
		for what, call := range calls() {
			for _, left := range []int{0, 1, 2, 3, 4, 5, 6, -1} {
				handed := powered(s.store, left)
				was := twinStore(handed)
				answer, _ := call(handed)
				apart(t, s.name+": "+what, answer)
				if !sameStore(handed, was) {
					t.Fatalf("%s: %s with power for %d: the answer shares a list with what was handed in", s.name, what, left)
				}
			}
		}
	}
	apart(t, "New", made(t, 24))
}

// apart writes over all lists of an answer, one behind the other, and holds those that are still to come against what they were.
func apart(t *testing.T, what string, s api.Store) {
	t.Helper()
	whole := twinStore(s)
	over := func(l []string) {
		for i := range l {
			l[i] = "over"
		}
	}
	turn := func(l []bool) {
		for i := range l {
			l[i] = !l[i]
		}
	}
	over(s.Blocks)
	for i := range s.Pending {
		s.Pending[i] = api.Write{Block: -1, Bytes: "over"}
	}
	if !sameWood(s.Wood, whole.Wood) {
		t.Fatalf("%s: a device and its wood share a list", what)
	}
	turn(s.Wood.Base)
	if !slices.Equal(s.Wood.Now, whole.Wood.Now) {
		t.Fatalf("%s: Base and Now are one list", what)
	}
	turn(s.Wood.Now)
	if !slices.Equal(s.Wood.Pages, whole.Wood.Pages) {
		t.Fatalf("%s: Pages share a list", what)
	}
	over(s.Wood.Pages)
}

// Lists with room behind their ends: nothing is written there.
func TestRoomBehindListsStays(t *testing.T) {
	for _, s := range stages(t) {
		n := len(s.store.Blocks)
		at := twinStore(s.store)
		pending := len(at.Pending)
		at.Pending = append(make([]api.Write, 0, 20), at.Pending...)
		at.Blocks = append(make([]string, 0, 60), at.Blocks...)
		at.Wood.Pages = append(make([]string, 0, 60), at.Wood.Pages...)
		at.Wood.Now = append(make([]bool, 0, 60), at.Wood.Now...)
		at.Wood.Base = append(make([]bool, 0, 60), at.Wood.Base...)
		changes := append(make([]api.Change, 0, 4), put("a", "1"))
		for _, call := range calls() {
			for _, left := range []int{0, 1, 5, -1} {
				call(powered(at, left))
				Do(powered(at, left), changes...)
			}
		}
		clean := func(l []string) bool { return !slices.ContainsFunc(l, func(s string) bool { return s != "" }) }
		if at.Pending[:pending+1][pending] != (api.Write{}) || !clean(at.Blocks[:60][n:]) || !clean(at.Wood.Pages[:60][n:]) || changes[:2][1] != (api.Change{}) {
			t.Fatal(s.name, "something is written behind a list's end")
		}
		if slices.Contains(at.Wood.Now[:60][n:], true) || slices.Contains(at.Wood.Base[:60][n:], true) {
			t.Fatal(s.name, "a place is set behind a list's end")
		}
	}
}

// Two stores go on from one, without a trace of one in the other.
func TestTwoGoOnFromOne(t *testing.T) {
	s := done(t, made(t, 24), put("a", "1"))
	one := done(t, s, put("b", "2"))
	two := done(t, s, put("c", "3"))
	three := checkpointed(t, s)
	four := done(t, s)
	wantPairs(t, "one", opened(t, crashed(t, synced(t, one))), api.Pair{Key: "a", Val: "1"}, api.Pair{Key: "b", Val: "2"})
	wantPairs(t, "two", opened(t, crashed(t, synced(t, two))), api.Pair{Key: "a", Val: "1"}, api.Pair{Key: "c", Val: "3"})
	wantPairs(t, "three", opened(t, crashed(t, three)), api.Pair{Key: "a", Val: "1"})
	wantPairs(t, "four", opened(t, crashed(t, synced(t, four))), api.Pair{Key: "a", Val: "1"})
	wantPairs(t, "the one that they went on from", s, api.Pair{Key: "a", Val: "1"})
}

// One list may stand for several that are handed in.
func TestOneListAsMany(t *testing.T) {
	s := checkpointed(t, done(t, made(t, 24), put("a", "1")))
	s.Wood.Base = s.Wood.Now
	s.Wood.Pages = s.Blocks
	for what, call := range calls() {
		want, e := call(twinStore(s))
		storeIs(t, what, s, call, want, e)
	}
	doAsWritten(t, "one list", s, put("a", "2"))
	checkpointAsWritten(t, "one list", s)
}

func TestNilIsEmpty(t *testing.T) {
	s, f := made(t, 24), made(t, 24)
	s.Pending, f.Pending = nil, []api.Write{}
	for what, call := range calls() {
		a, e := call(s)
		b, g := call(f)
		if e != g || !sameStore(a, b) {
			t.Errorf("%s: %d, %d", what, e, g)
		}
	}
	a, e := Do(s, []api.Change{}...)
	b, g := Do(s)
	if e != api.OK || g != api.OK || !sameStore(a, b) {
		t.Error(e, g)
	}
	d, e := Crash(a, []int{}...)
	c, g := Crash(a)
	if e != api.OK || g != api.OK || !sameDevice(c, d) {
		t.Error(e, g)
	}
	rightIs(t, "empty lists", api.Store{
		Power: withPower(api.Device{Blocks: []string{}, Pending: []api.Write{}}, 0),
		Wood:  api.Wood{Alloc: api.Alloc{Base: []bool{}, Now: []bool{}}, Pages: []string{}},
	}, false)
}

func TestCallsKeepNothing(t *testing.T) {
	all := stages(t)
	type told struct {
		s api.Store
		e api.Errno
	}
	var first []told
	for round := range 2 {
		i := 0
		for _, s := range all {
			for _, what := range []string{"Do", "Do of none", "Sync", "Checkpoint", "Open", "Crash"} {
				got, e := calls()[what](s.store)
				if round == 0 {
					first = append(first, told{twinStore(got), e})
				} else if e != first[i].e || !sameStore(got, first[i].s) {
					t.Fatalf("%s: %s tells something else the second time", s.name, what)
				}
				i++
			}
		}
	}
}

// Whatever the arguments, calls end, none panics, and what is told is what the chapter says.
func TestNoCallPanics(t *testing.T) {
	t.Parallel()
	numbers := []int{0, 1, -1, 2, 7, 8, 9, 10, 11, 23, 24, 25, 2048, top - 1, top, top + 1, math.MinInt, math.MaxInt}
	seed := noise(3)
	pick := func() int { return numbers[seed.below(len(numbers))] }
	var stores []api.Store
	for _, s := range stages(t) {
		stores = append(stores, s.store)
	}
	for _, s := range wrongStores(t) {
		stores = append(stores, s)
	}
	// A map's order is none: so that the plays stay the same, they are laid in one.
	slices.SortFunc(stores, func(a, b api.Store) int { return compare(showStore(a), showStore(b)) })
	devices := []api.Device{{}, {Blocks: make([]string, 1)}, {Blocks: make([]string, 24)}, {Blocks: make([]string, 2049)}}
	changes := []api.Change{put("a", "1"), take("a"), put("", ""), put("b", string(make([]byte, 201))), take(keyOf(3)), put(keyOf(4), "x"), {Key: "c", Val: "d", Gone: true}}
	for range 700 {
		s := twinStore(stores[seed.below(len(stores))])
		for range seed.below(3) {
			for i, place := range []*int{&s.Super.Gen, &s.Super.Root, &s.Super.Map, &s.Super.Size, &s.Slot, &s.Wood.Root, &s.Wood.Gen, &s.Seq, &s.Synced} {
				if seed.below(9) == i {
					*place = pick()
				}
			}
		}
		switch seed.below(12) {
		case 0:
			s.Wood.Now = nil
		case 1:
			s.Wood.Base = s.Wood.Base[:len(s.Wood.Base)/2]
		case 2:
			s.Wood.Pages = nil
		case 3:
			s.Device = devices[seed.below(len(devices))]
		}
		var l []api.Change
		for range seed.below(3) {
			l = append(l, changes[seed.below(len(changes))])
		}
		rightIs(t, "strewn", s, rightOf(s))
		doAsWritten(t, "strewn", s, l...)
		syncAsWritten(t, "strewn", s)
		checkpointAsWritten(t, "strewn", s)
		openAsWritten(t, "strewn", s.Device)
		Crash(s, pick(), pick())
		New(pick() % 4096)
		if _, e := Crash(api.Store{}, pick()); e != api.ErrArg {
			t.Fatal(e)
		}
	}
}

func compare(a, b string) int {
	if a < b {
		return -1
	}
	if a > b {
		return 1
	}
	return 0
}

// What lies on a device is any bytes: an opening ends, and what it tells may be, unless generations are used up.
func TestOpenOfAnything(t *testing.T) {
	t.Parallel()
	s := synced(t, done(t, done(t, filled(t, made(t, 24), puts(50, upTo(0, 12)...)...), put("a", "1")), take(keyOf(4))))
	seed := noise(11)
	good := 0
	for range 600 {
		d := twinDevice(s.Device)
		for range 1 + seed.below(2) {
			block := seed.below(24)
			bytes := []byte(d.Blocks[block])
			switch {
			case len(bytes) == 0:
				bytes = []byte(d.Blocks[seed.below(24)])
			case seed.below(2) == 0:
				bytes[seed.below(len(bytes))] ^= 1 << seed.below(8)
			default:
				bytes = bytes[:seed.below(len(bytes))]
			}
			for len(bytes) > 0 && bytes[len(bytes)-1] == 0 {
				bytes = bytes[:len(bytes)-1]
			}
			d.Blocks[block] = string(bytes)
		}
		openAsWritten(t, "any bytes", d)
		if back, e := Open(withPower(d, -1)); e == api.OK {
			good++
			if f, e := pager.Mount(back.Device); !Right(back) || e != api.OK || f.Super != back.Super {
				t.Fatal(showStore(back), e)
			}
		}
	}
	if good == 0 {
		t.Error("none was opened")
	}
}
