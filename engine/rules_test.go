package engine

import (
	"fmt"
	"slices"
	"testing"

	"penelope/api"
	"penelope/pager"
	"penelope/store"
)

// call is a call of an engine, or of its power.
type call struct {
	name string
	of   func(api.Engine) (api.Engine, api.Answer)
}

func calls() []call {
	do := func(c api.Command) func(api.Engine) (api.Engine, api.Answer) {
		return func(e api.Engine) (api.Engine, api.Answer) { return Do(e, c) }
	}
	return []call{
		{"a new time", do(tick(30))},
		{"an old time", do(tick(0))},
		{"a graph", do(dagOf(row("y")))},
		{"the same graph", do(dagOf(row("g")))},
		{"a run", do(start("y", "g"))},
		{"a run that needs much room", do(start("y", "x"))},
		{"a poll", do(poll())},
		{"a beat", do(beat(3))},
		{"a result", do(done(3, "x"))},
		{"a cancel", do(cancel("k"))},
		{"a state", do(state("k"))},
		{"a sync", do(sync())},
		{"no command", do(api.Command{Kind: 11})},
		{"Checkpoint", func(e api.Engine) (api.Engine, api.Answer) {
			next, bad := Checkpoint(e)
			return next, api.Answer{Why: bad}
		}},
		{"Open", func(e api.Engine) (api.Engine, api.Answer) {
			next, bad := Open(e.Power)
			return next, api.Answer{Why: bad}
		}},
		{"Open behind a crash", func(e api.Engine) (api.Engine, api.Answer) {
			next, bad := Open(api.Power{Device: api.Device{Blocks: e.Blocks}, Left: e.Left})
			return next, api.Answer{Why: bad}
		}},
		{"Right", func(e api.Engine) (api.Engine, api.Answer) {
			Right(e)
			return api.Engine{}, api.Answer{}
		}},
	}
}

// R4, and no answer shares a list with what was handed in.

// spoil writes over all lists of an engine, one behind the other, and holds those that are still to come against what they were.
func spoil(t *testing.T, what string, e api.Engine) {
	t.Helper()
	whole := copiedEngine(e)
	hold := func(list string) {
		t.Helper()
		if !sameEngine(e, whole) {
			t.Fatalf("%s: %s is not a list of its own", what, list)
		}
	}
	over := func(list string, l, twin []string) {
		t.Helper()
		for i := range l {
			l[i], twin[i] = "over", "over"
		}
		hold(list)
	}
	turn := func(list string, l, twin []bool) {
		t.Helper()
		for i := range l {
			l[i], twin[i] = !l[i], !twin[i]
		}
		hold(list)
	}
	over("Blocks", e.Blocks, whole.Blocks)
	over("Pages", e.Wood.Pages, whole.Wood.Pages)
	turn("Base", e.Wood.Base, whole.Wood.Base)
	turn("Now", e.Wood.Now, whole.Wood.Now)
	for i := range e.Pending {
		e.Pending[i], whole.Pending[i] = api.Write{Block: -1}, api.Write{Block: -1}
	}
	hold("Pending")
	spoilDag := func(list string, d, twin api.Dag) {
		t.Helper()
		for i := range d.Tasks {
			for j := range d.Tasks[i].Needs {
				d.Tasks[i].Needs[j], twin.Tasks[i].Needs[j] = -7, -7
				hold(list)
			}
			d.Tasks[i], twin.Tasks[i] = api.Task{Tries: -7}, api.Task{Tries: -7}
		}
		hold(list)
	}
	for i := range e.World.Dags {
		spoilDag(fmt.Sprint("graph ", i), e.World.Dags[i], whole.World.Dags[i])
	}
	for i := range e.World.Runs {
		spoilDag(fmt.Sprint("the graph of run ", i), e.World.Runs[i].Dag, whole.World.Runs[i].Dag)
		for j := range e.World.Runs[i].States {
			e.World.Runs[i].States[j], whole.World.Runs[i].States[j] = api.State{Is: -7}, api.State{Is: -7}
		}
		hold(fmt.Sprint("run ", i))
	}
	for i := range e.World.Dags {
		e.World.Dags[i] = api.Dag{Name: "over"}
	}
	for i := range e.World.Runs {
		e.World.Runs[i] = api.Run{Key: "over"}
	}
}

func TestAnswersAreNewMemory(t *testing.T) {
	all := append(engines(t), wrongs(t)...)
	for _, e := range all {
		for _, c := range calls() {
			for _, left := range []int{0, 1, 3, 6, -1} {
				handed := powered(e.engine, left)
				was := copiedEngine(handed)
				what := fmt.Sprintf("%s: %s with power for %d", e.name, c.name, left)
				next, a := c.of(handed)
				if !sameEngine(handed, was) {
					t.Fatalf("%s changed what it was handed", what)
				}
				told := copiedEngine(next)
				for i := range a.States {
					a.States[i] = api.State{Is: -7}
				}
				if !sameEngine(next, told) {
					t.Fatalf("%s: the answer shares a list with the engine that is told", what)
				}
				spoil(t, what, next)
				if !sameEngine(handed, was) {
					t.Fatalf("%s: what is told shares a list with what was handed in", what)
				}
			}
		}
	}
	spoil(t, "New", made(t, 24))
}

// A graph that is told stays the teller's.
func TestGraphsAreCopied(t *testing.T) {
	d := row("g")
	e := made(t, 24, dagOf(d))
	d.Tasks[1].Needs[0], d.Tasks[0].Tries = 7, 7
	if !Right(e) || !same(e.World, api.World{Dags: []api.Dag{row("g")}}) {
		t.Error(show(e))
	}
}

// roomy is an engine whose lists have room behind their ends, where a careless append would write.
func roomy(e api.Engine) api.Engine {
	e = copiedEngine(e)
	e.Blocks = append(make([]string, 0, 60), e.Blocks...)
	e.Pending = append(make([]api.Write, 0, 20), e.Pending...)
	e.Wood.Pages = append(make([]string, 0, 60), e.Wood.Pages...)
	e.Wood.Base = append(make([]bool, 0, 60), e.Wood.Base...)
	e.Wood.Now = append(make([]bool, 0, 60), e.Wood.Now...)
	e.World.Dags = append(make([]api.Dag, 0, 20), e.World.Dags...)
	e.World.Runs = append(make([]api.Run, 0, 20), e.World.Runs...)
	return e
}

// behind is all that lies in an engine's lists, also behind their ends.
func behind(e api.Engine) api.Engine {
	e.Blocks, e.Pending = e.Blocks[:cap(e.Blocks)], e.Pending[:cap(e.Pending)]
	e.Wood.Pages, e.Wood.Base, e.Wood.Now = e.Wood.Pages[:cap(e.Wood.Pages)], e.Wood.Base[:cap(e.Wood.Base)], e.Wood.Now[:cap(e.Wood.Now)]
	e.World.Dags, e.World.Runs = e.World.Dags[:cap(e.World.Dags)], e.World.Runs[:cap(e.World.Runs)]
	return e
}

func TestRoomBehindListsStays(t *testing.T) {
	for _, e := range append(engines(t), wrongs(t)...) {
		room := roomy(e.engine)
		was := copiedEngine(behind(room))
		for _, c := range calls() {
			want, answer := c.of(e.engine)
			got, a := c.of(room)
			if !sameEngine(got, want) || !sameAnswer(a, answer) {
				t.Fatalf("%s: %s tells something else where lists have room", e.name, c.name)
			}
			if !sameEngine(behind(room), was) {
				t.Fatalf("%s: %s writes behind a list's end", e.name, c.name)
			}
		}
	}
}

// Two engines go on from one, without a trace of one in the other.
func TestTwoGoOnFromOne(t *testing.T) {
	e := made(t, 40, dagOf(row("g")), start("k", "g"))
	one := told(t, e, poll(), done(1, "one"), sync())
	two := told(t, e, tick(7), poll(), fail(1), sync())
	three := marked(t, e)
	for _, c := range []struct {
		e    api.Engine
		now  int
		task api.State
	}{
		{one, 0, api.State{Is: api.SDone, Tried: 1, Result: "one"}},
		{two, 7, api.State{Is: api.SDue, Tried: 1, Due: 10}},
		{three, 0, api.State{Is: api.SDue}},
		{told(t, e, sync()), 0, api.State{Is: api.SDue}},
	} {
		w := opened(t, crashed(t, c.e)).World
		if !same(w, c.e.World) || w.Now != c.now || w.Runs[0].States[0] != c.task {
			t.Errorf("%v; want %v", w, c)
		}
	}
}

// One list may stand for several that are handed in.
func TestOneListAsMany(t *testing.T) {
	e := marked(t, made(t, 40, beginning()...))
	e.Wood.Base = e.Wood.Now
	e.Wood.Pages = slices.Clone(e.Wood.Pages)
	e.World.Runs[0].Dag, e.World.Runs[1].Dag = e.World.Dags[0], e.World.Dags[0]
	for _, c := range calls() {
		want, answer := c.of(copiedEngine(e))
		if got, a := c.of(e); !sameEngine(got, want) || !sameAnswer(a, answer) {
			t.Errorf("%s: %s, %v; want %s, %v", c.name, show(got), a, show(want), answer)
		}
	}
}

// R3
func TestNilIsEmpty(t *testing.T) {
	e := made(t, 24)
	empty := copiedEngine(e)
	empty.Pending, empty.World = []api.Write{}, api.World{Dags: []api.Dag{}, Runs: []api.Run{}}
	bare := made(t, 24, dagOf(row("g")), start("k", "g"))
	other := copiedEngine(bare)
	other.World.Dags[0].Tasks[0].Needs = []int{}
	other.World.Runs[0].Dag.Tasks[0].Needs = []int{}
	for _, pair := range [][2]api.Engine{{e, empty}, {bare, other}} {
		if !holdRight(t, "nil", pair[0]) || !holdRight(t, "empty", pair[1]) {
			t.Error("one of both may not be")
		}
		for _, c := range append(calls(), call{"the graph", func(e api.Engine) (api.Engine, api.Answer) {
			d := row("g")
			d.Tasks[0].Needs = []int{}
			return Do(e, dagOf(d))
		}}) {
			one, a := c.of(pair[0])
			two, b := c.of(pair[1])
			if !sameEngine(one, two) || !sameAnswer(a, b) {
				t.Errorf("%s: %s, %v and %s, %v", c.name, show(one), a, show(two), b)
			}
		}
	}
	hollow := api.Engine{Store: api.Store{Power: api.Power{Device: api.Device{Blocks: []string{}, Pending: []api.Write{}}}, Wood: api.Wood{Alloc: api.Alloc{Base: []bool{}, Now: []bool{}}, Pages: []string{}}}}
	if holdRight(t, "empty lists", hollow) {
		t.Error("empty lists may be")
	}
}

// R1
func TestNothingIsKept(t *testing.T) {
	all := engines(t)
	type answered struct {
		e api.Engine
		a api.Answer
	}
	var first []answered
	for round := range 2 {
		at := 0
		for _, e := range all {
			for _, c := range calls() {
				next, a := c.of(e.engine)
				if round == 0 {
					first = append(first, answered{next, a})
				} else if !sameEngine(next, first[at].e) || !sameAnswer(a, first[at].a) {
					t.Fatalf("%s: %s tells something else the second time", e.name, c.name)
				}
				at++
			}
		}
	}
}

// P1: whatever the arguments, calls end, none panics, and what is told is what the chapter says.
func TestEveryCallEnds(t *testing.T) {
	t.Parallel()
	seed := noise(22)
	numbers := []int{lowest, -1, 0, 1, 2, 7, 8, 9, 10, 11, 23, 24, 39, 40, 41, 2048, end - 1, end, end + 1, highest}
	all := append(engines(t), wrongs(t)...)
	orders := commands()
	may := 0
	for range 1500 {
		e := copiedEngine(pick(&seed, all).engine)
		if seed.below(4) == 0 {
			// One's store with another one's world.
			e.World = copied(pick(&seed, all).engine.World)
		}
		for range seed.below(3) {
			spoilOne(&seed, &e, pick(&seed, numbers))
		}
		e.Left = pick(&seed, []int{-1, -1, 0, 1, 2, 3, 5, lowest, highest})
		if holdRight(t, "strewn", e) {
			may++
		}
		c := pick(&seed, orders)
		next, a := Do(e, c)
		if want, answer := doOf(e, c); !sameEngine(next, want) || !sameAnswer(a, answer) {
			t.Fatalf("Do(%s, %v) = %s, %v; want %s, %v", show(e), c, show(next), a, show(want), answer)
		}
		next, bad := Checkpoint(e)
		if want, why := checkpointOf(e); !sameEngine(next, want) || bad != why {
			t.Fatalf("Checkpoint(%s) = %s, %d; want %s, %d", show(e), show(next), bad, show(want), why)
		}
		next, bad = Open(e.Power)
		if want, why := openOf(e.Power); !sameEngine(next, want) || bad != why {
			t.Fatalf("Open(%s) = %s, %d; want %s, %d", show(e), show(next), bad, show(want), why)
		}
		New(pick(&seed, numbers) % 4096)
	}
	if may < 150 || may > 1200 {
		t.Errorf("%d of them may be", may)
	}
}

func spoilOne(n *noise, e *api.Engine, number int) {
	places := []*int{&e.Super.Gen, &e.Super.Root, &e.Super.Map, &e.Super.Size, &e.Slot, &e.Wood.Root, &e.Wood.Gen, &e.Seq, &e.Synced, &e.World.Now, &e.World.Token}
	switch n.below(16) {
	case 0:
		e.Wood.Now = nil
	case 1:
		e.Wood.Base = e.Wood.Base[:len(e.Wood.Base)/2]
	case 2:
		e.Wood.Pages = nil
	case 3:
		e.Device = api.Device{}
	case 4:
		e.World.Dags = nil
	case 5:
		e.World.Runs = append(e.World.Runs, api.Run{Key: "z", Dag: graph("g", []int{number})})
	case 6:
		for i := range e.World.Runs {
			e.World.Runs[i].States = e.World.Runs[i].States[:len(e.World.Runs[i].States)/2]
		}
	default:
		*places[n.below(len(places))] = number
	}
}

// P1: what lies on a device is any bytes: an opening ends, and what it tells may be.
func TestOpenOfAnything(t *testing.T) {
	t.Parallel()
	e := told(t, marked(t, made(t, 24, beginning()...)), tick(30), start("y", "g"), poll(), sync())
	seed := noise(11)
	told := map[api.Errno]int{}
	for range 600 {
		d := crashed(t, e)
		for range 1 + seed.below(2) {
			block := seed.below(24)
			bytes := []byte(d.Blocks[block])
			switch {
			case len(bytes) == 0:
				bytes = []byte(d.Blocks[seed.below(24)])
			case seed.below(2) == 0:
				bytes[seed.below(len(bytes))] ^= 1 << seed.below(8)
			default:
				bytes = bytes[:seed.below(len(bytes))]
			}
			for len(bytes) > 0 && bytes[len(bytes)-1] == 0 {
				bytes = bytes[:len(bytes)-1]
			}
			d.Blocks[block] = string(bytes)
		}
		back, bad := Open(api.Power{Device: d, Left: -1})
		if want, why := openOf(api.Power{Device: d, Left: -1}); bad != why || !sameEngine(back, want) {
			t.Fatalf("%s, %d; want %s, %d", show(back), bad, show(want), why)
		}
		if told[bad]++; bad == api.OK && !Right(back) {
			t.Fatal(show(back))
		}
	}
	if told[api.OK] < 50 || told[api.ErrCorrupt] < 50 {
		t.Error(told)
	}
}

// A store of pairs that are any: an opening tells a world just where they are a world's.
func TestOpenOfAnyPairs(t *testing.T) {
	w := made(t, 40, beginning()...).World
	base := deviceOf(t, pairsOf(engineOf(t, 40, w).Wood)...)
	f, bad := pager.Mount(base)
	if bad != api.OK {
		t.Fatal(bad)
	}
	opened := 0
	for _, p := range append(pairsOf(f.Wood), api.Pair{Key: "m"}, api.Pair{Key: "dh"}, api.Pair{Key: "tk\x02"}) {
		for _, val := range []string{"", p.Val, p.Val + "\x00", "\x01" + p.Val, "\x03\x01", p.Val[:len(p.Val)/2]} {
			for _, gone := range []bool{false, true} {
				s, bad := store.Open(api.Power{Device: base, Left: -1})
				if bad != api.OK {
					t.Fatal(bad)
				}
				change := api.Change{Key: p.Key, Val: val, Gone: gone}
				if gone {
					change.Val = ""
				}
				if s, bad = store.Do(s, change); bad != api.OK {
					t.Fatal(bad)
				}
				if s, bad = store.Sync(s); bad != api.OK {
					t.Fatal(bad)
				}
				e, bad := Open(s.Power)
				want, why := openOf(s.Power)
				if bad != why || !sameEngine(e, want) {
					t.Fatalf("%v: %s, %d; want %s, %d", change, show(e), bad, show(want), why)
				}
				if bad == api.OK {
					opened++
				}
			}
		}
	}
	if opened < 10 {
		t.Errorf("only %d are opened", opened)
	}
}
