package frame

import (
	"fmt"
	"slices"
	"testing"

	"penelope/api"
	"penelope/engine"
	"penelope/world"
)

// P23.3

func TestWhatIsPutIsGotAgain(t *testing.T) {
	seen := map[string]api.Command{}
	for _, c := range written() {
		s := mustPut(t, c)
		if was, is := seen[s]; is && !sameCommand(was, c) {
			t.Fatalf("%s and %s are both put as %x", brief(was), brief(c), s)
		}
		seen[s] = c
		if g, e := Get(s); !sameCommand(g, c) || e != api.OK {
			t.Fatalf("%s was put, and got: %s, %d", brief(c), brief(g), e)
		}
	}
	if len(seen) < 100 {
		t.Errorf("only %d commands", len(seen))
	}
}

func TestWhatIsAnsweredIsToldAgain(t *testing.T) {
	seen := map[string]api.Answer{}
	for _, a := range told() {
		s, e := Answer(a)
		if was, is := seen[s]; is && !sameAnswer(was, a) || e != api.OK {
			t.Fatalf("%s and %s are both %x, %d", brief(was), brief(a), s, e)
		}
		seen[s] = a
		if g, e := Told(s); !sameAnswer(g, a) || e != api.OK {
			t.Fatalf("%s was answered, and told: %s, %d", brief(a), brief(g), e)
		}
	}
	if len(seen) < 100 {
		t.Errorf("only %d answers", len(seen))
	}
}

// What is got, put, is the bytes; whatever bytes these are.
func TestWhatIsGotIsPutAgain(t *testing.T) {
	n := noise(3)
	gets, tolds := 0, 0
	hold := func(body string) {
		s := sealed(body)
		if c, e := Get(s); e == api.OK {
			gets++
			if again, e := Put(c); again != s || e != api.OK {
				t.Fatalf("%x was got, and put: %x, %d", s, again, e)
			}
		}
		if a, e := Told(s); e == api.OK {
			tolds++
			if again, e := Answer(a); again != s || e != api.OK {
				t.Fatalf("%x was told, and answered: %x, %d", s, again, e)
			}
		}
	}
	commands, answers := written(), told()
	for range 40000 {
		body, _ := commandBody(pick(&n, commands))
		if n.below(2) == 0 {
			body, _ = answerBody(pick(&n, answers))
		}
		b := []byte(body)
		for range 1 + n.below(3) {
			b[n.below(min(len(b), 60))] = pick(&n, []byte{0, 1, 2, 3, 6, 8, 9, 16, 255, byte(n.below(256))})
		}
		hold(string(b))
	}
	if gets < 1000 || tolds < 1000 {
		t.Errorf("only %d were got, %d told", gets, tolds)
	}
}

// turned is a text of which those bits are turned that are set in pattern, from a bit on: bytes in order, each byte's bits from the lowest one on.
func turned(s string, from int, pattern uint32) string {
	b := []byte(s)
	for i := range 32 {
		if place := from + i; pattern>>i&1 == 1 && place < 8*len(b) {
			b[place/8] ^= 1 << (place % 8)
		}
	}
	return string(b)
}

// patterns are of up to 32 bits, the first of which is turned.
func patterns() []uint32 {
	all := []uint32{1}
	for i := 1; i < 32; i++ {
		all = append(all, 1|1<<i, 1<<i|(1<<i-1))
	}
	n := noise(4)
	for range 20 {
		all = append(all, 1|uint32(n.below(1<<16))<<1|uint32(n.below(1<<15))<<17)
	}
	// The sum's own polynomial: what it would turn itself.
	return append(all, 0x82f63b78, 0x82f63b79, 0x1edc6f41)
}

func TestTurnedBitsAreNoCommand(t *testing.T) {
	var all []string
	for _, c := range []api.Command{dagOf(row("g")), dagOf(wide()), start("k", "g"), start("", ""), poll(), beat(7), done(7, "ok"), fail(most), cancel("k"), tick(5), state("k"), state(long("y", 60)), sync()} {
		all = append(all, mustPut(t, c))
	}
	for _, a := range []api.Answer{{}, {Why: 65535}, {Key: "k", Task: 3, Token: 7}, {Key: "k", Is: 1, States: states()[:4]}} {
		s, _ := Answer(a)
		all = append(all, s)
	}
	for _, s := range all {
		for from := range 8 * len(s) {
			for _, pattern := range patterns() {
				other := turned(s, from, pattern)
				if other == s {
					continue
				}
				if c, e := Get(other); e != api.ErrFrame || !sameCommand(c, api.Command{}) {
					t.Fatalf("%x, turned to %x: %s, %d", s, other, brief(c), e)
				}
				if a, e := Told(other); e != api.ErrFrame || !sameAnswer(a, api.Answer{}) {
					t.Fatalf("%x, turned to %x: %s, %d", s, other, brief(a), e)
				}
			}
		}
	}
}

// P2: every frame is answered as the world answers its command; bytes that are no command change nothing.
func TestFramesAreAnsweredAsTheWorldAnswers(t *testing.T) {
	n := noise(5)
	seen := map[api.Errno]int{}
	for play := range 12 {
		e, w := mustMake(t, 200), api.World{}
		for range 150 {
			c := playCommand(&n, w)
			frame := mustPut(t, c)
			if n.below(10) == 0 {
				wrong := turned(frame, n.below(8*len(frame)), 1)
				made, a := holdServe(t, e, wrong)
				if !sameAnswer(a, api.Answer{Why: api.ErrFrame}) || !sameEngine(made, e) {
					t.Fatalf("%x: %v", wrong, a)
				}
				seen[a.Why]++
			}
			var want api.Answer
			w, want = world.Do(w, c)
			made, s := Serve(e, frame)
			a, bad := Told(s)
			if bad != api.OK || !sameAnswer(a, want) {
				t.Fatalf("play %d: %s: %s, %d; want %s", play, brief(c), brief(a), bad, brief(want))
			}
			seen[a.Why]++
			e = made
			holdWorld(t, e, w)
		}
	}
	for _, why := range []api.Errno{api.OK, api.ErrArg, api.ErrDag, api.ErrRun, api.ErrToken, api.ErrIdle, api.ErrDone, api.ErrFrame} {
		if seen[why] < 5 {
			t.Errorf("only %d answers of Why %d", seen[why], why)
		}
	}
}

// playCommand is one that mostly does something in a world.
func playCommand(n *noise, w api.World) api.Command {
	key, name := string(rune('a'+n.below(6))), string(rune('g'+n.below(3)))
	token := w.Token - n.below(4)
	if token < 0 {
		token = 0
	}
	switch n.below(14) {
	case 0:
		return dagOf(graph(name, nil))
	case 1:
		return dagOf(row(name))
	case 2, 3:
		return start(key, name)
	case 4, 5, 6:
		return poll()
	case 7:
		return beat(token)
	case 8, 9:
		return done(token, long("r", n.below(18)))
	case 10:
		return fail(token)
	case 11:
		return pick(n, []api.Command{cancel(key), cancel(""), start(long("k", 20), name)})
	case 12:
		return tick(w.Now + n.below(7) - 1 + max(0, 1-w.Now))
	}
	return pick(n, []api.Command{state(key), state("nobody"), sync()})
}

// The rules

// R4: lists that are handed in stay, also behind their ends.
func TestNoArgumentIsChanged(t *testing.T) {
	d := wide()
	tasks := append(make([]api.Task, 0, 40), d.Tasks...)
	for i := range tasks {
		tasks[i].Needs = append(make([]int, 0, 20), tasks[i].Needs...)
	}
	d.Tasks = tasks
	behind := func() api.Dag {
		all := copiedDag(api.Dag{Name: d.Name, Tasks: tasks[:cap(tasks)]})
		for i := range tasks {
			all.Tasks[i].Needs = slices.Clone(tasks[i].Needs[:cap(tasks[i].Needs)])
		}
		return all
	}
	was := behind()
	for _, c := range []api.Command{dagOf(d), {Kind: api.CPoll, Dag: d}, {Kind: api.CDag, Key: "k", Dag: d}, {Dag: d}} {
		holdPut(t, c)
		if !sameDag(behind(), was) {
			t.Fatalf("Put of kind %d changed the graph", c.Kind)
		}
	}
	room := append(make([]api.State, 0, 300), states()...)
	before := slices.Clone(room[:cap(room)])
	for _, a := range []api.Answer{{States: room}, {Key: "k", States: room[:3]}, {Why: -1, States: room}, {States: room[:cap(room)]}} {
		holdAnswer(t, a)
		if !slices.Equal(room[:cap(room)], before) {
			t.Fatalf("Answer of %s changed the States", brief(a))
		}
	}
}

// What was got is its taker's: no list of it is one of another answer's, nor shared within it.
func TestListsAreApart(t *testing.T) {
	s := mustPut(t, dagOf(wide()))
	one, _ := Get(s)
	two, _ := Get(s)
	for i := range one.Dag.Tasks {
		for j := range one.Dag.Tasks[i].Needs {
			one.Dag.Tasks[i].Needs[j] = -7
			for k := i + 1; k < 10; k++ {
				if !slices.Equal(one.Dag.Tasks[k].Needs, two.Dag.Tasks[k].Needs) {
					t.Fatalf("the Needs of %d and %d are one list", i, k)
				}
			}
		}
		one.Dag.Tasks[i] = api.Task{}
	}
	if !sameCommand(two, dagOf(wide())) {
		t.Errorf("two commands share a list: %s", brief(two))
	}
	a := api.Answer{Key: "k", States: states()}
	bytes, _ := Answer(a)
	three, _ := Told(bytes)
	four, _ := Told(bytes)
	for i := range three.States {
		three.States[i] = api.State{Is: -7}
	}
	if !sameAnswer(four, api.Answer{Key: "k", States: states()}) || !sameAnswer(a, four) {
		t.Errorf("two answers share a list: %s", brief(four))
	}
}

// spoil writes over all lists of an engine.
func spoil(e api.Engine) {
	for i := range e.Blocks {
		e.Blocks[i] = "over"
	}
	for i := range e.Wood.Pages {
		e.Wood.Pages[i] = "over"
	}
	for i := range e.Pending {
		e.Pending[i] = api.Write{Block: -7}
	}
	for i := range e.Wood.Now {
		e.Wood.Now[i] = !e.Wood.Now[i]
	}
	for i := range e.Wood.Base {
		e.Wood.Base[i] = !e.Wood.Base[i]
	}
	spoilDag := func(d api.Dag) {
		for i := range d.Tasks {
			for j := range d.Tasks[i].Needs {
				d.Tasks[i].Needs[j] = -7
			}
			d.Tasks[i] = api.Task{}
		}
	}
	for i := range e.World.Dags {
		spoilDag(e.World.Dags[i])
		e.World.Dags[i] = api.Dag{}
	}
	for i := range e.World.Runs {
		spoilDag(e.World.Runs[i].Dag)
		for j := range e.World.Runs[i].States {
			e.World.Runs[i].States[j] = api.State{Is: -7}
		}
		e.World.Runs[i] = api.Run{}
	}
}

// frames are one of each kind, and some that are none.
func frames(t *testing.T) []string {
	all := []string{"", "junk", sealed("\x00"), sealed("\x03\x00")}
	for _, c := range []api.Command{dagOf(row("h")), dagOf(row("g")), dagOf(graph("g", nil)), start("n", "g"), start("k", "g"), start("n", "x"), poll(), beat(2), beat(9), done(2, "ok"), fail(3), cancel("l"), cancel("x"), tick(30), tick(3), tick(most), state("k"), sync()} {
		all = append(all, mustPut(t, c))
	}
	return all
}

func TestServeTellsNewMemory(t *testing.T) {
	odd := full(t)
	odd.World.Now++
	for i, e := range []api.Engine{mustMake(t, 24), mustMake(t, 40, begun()...), full(t), odd} {
		for _, frame := range frames(t) {
			for _, left := range []int{0, 1, -1} {
				handed := copiedEngine(e)
				handed.Left = left
				was := copiedEngine(handed)
				made, _ := Serve(handed, frame)
				if !sameEngine(handed, was) {
					t.Fatalf("engine %d: Serve of %x changed what it was handed", i, frame)
				}
				spoil(made)
				if !sameEngine(handed, was) {
					t.Fatalf("engine %d: what Serve of %x tells shares a list with what it was handed", i, frame)
				}
			}
		}
	}
}

// R1
func TestNothingIsKept(t *testing.T) {
	calls := func() []string {
		var all []string
		for _, c := range []api.Command{dagOf(row("g")), start("k", "g"), {}, poll()} {
			s, e := Put(c)
			g, f := Get(s)
			all = append(all, fmt.Sprint(s, e, g, f))
		}
		for _, a := range []api.Answer{{Key: "k", States: states()}, {Why: -1}, {}} {
			s, e := Answer(a)
			g, f := Told(s)
			all = append(all, fmt.Sprint(s, e, g, f))
		}
		e := full(t)
		for _, frame := range frames(t) {
			_, s := Serve(e, frame)
			all = append(all, s)
		}
		return all
	}
	first := calls()
	for range 3 {
		if again := calls(); !slices.Equal(again, first) {
			t.Fatalf("%q, then %q", first, again)
		}
	}
}

// P1, R2: at all arguments every call ends and none panics; beside an error all else is zero.
func TestEveryCallEnds(t *testing.T) {
	n := noise(7)
	one := func() int { return pick(&n, append(longs(), 2, 3, 5, 8, 10, 16, 20)) }
	text := func() string { return pick(&n, shorts()) + long("z", n.below(9)*n.below(40)) }
	for range 20000 {
		c := api.Command{Kind: n.below(12), Key: text(), Name: text(), Token: one(), Time: one(), Text: text()}
		for range n.below(4) {
			c.Dag.Tasks = append(c.Dag.Tasks, api.Task{Needs: []int{one()}, Tries: one(), Wait: one(), Lease: one()})
		}
		if n.below(2) == 0 {
			c = bareOf(c)
		}
		if s, e := Put(c); e != api.OK && (s != "" || e != api.ErrArg) {
			t.Fatalf("Put(%s) = %x, %d", brief(c), s, e)
		}
		a := api.Answer{Why: api.Errno(one()), Key: text(), Task: one(), Token: one(), Is: one()}
		for range n.below(4) {
			a.States = append(a.States, api.State{Is: one(), Tried: one(), Due: one(), Token: one(), Result: text()})
		}
		if s, e := Answer(a); e != api.OK && (s != "" || e != api.ErrArg) {
			t.Fatalf("Answer(%s) = %x, %d", brief(a), s, e)
		}
	}
	e := full(t)
	for i := range 60000 {
		b := make([]byte, n.below(50))
		for i := range b {
			b[i] = pick(&n, []byte{0, 0, 0, 1, 2, 3, 5, 9, 255})
		}
		s := string(b)
		if n.below(4) > 0 {
			s = sealed(s)
		}
		holdGet(t, s)
		holdTold(t, s)
		if i%300 == 0 {
			holdServe(t, e, s)
		}
	}
}

// spoiledEngine is one of which something is as it may not be, mostly.
func spoiledEngine(n *noise, e api.Engine) api.Engine {
	e = copiedEngine(e)
	numbers := []int{lowest, -1, 0, 1, 2, 8, 9, 40, end, highest}
	switch n.below(10) {
	case 0:
		e.Wood.Root = pick(n, numbers)
	case 1:
		e.Wood.Gen = pick(n, numbers)
	case 2:
		e.Seq = pick(n, numbers)
	case 3:
		e.Synced, e.Slot = pick(n, numbers), pick(n, numbers)
	case 4:
		e.Super = api.Super{Gen: pick(n, numbers), Root: pick(n, numbers), Map: pick(n, numbers), Size: pick(n, numbers)}
	case 5:
		e.Blocks = e.Blocks[:n.below(len(e.Blocks))]
	case 6:
		e.Wood.Pages[n.below(len(e.Wood.Pages))] = "junk"
	case 7:
		e.World.Now, e.World.Token = pick(n, numbers), pick(n, numbers)
	case 8:
		e.Pending = append(e.Pending, api.Write{Block: pick(n, numbers), Bytes: long("w", n.below(5000))})
	case 9:
		e.Left = pick(n, numbers)
	}
	return e
}

func TestServeOfAnyEngineEnds(t *testing.T) {
	n := noise(8)
	all := []api.Engine{mustMake(t, 24), full(t), {}}
	for range 1500 {
		e := pick(&n, all)
		for range n.below(3) {
			if len(e.Blocks) > 0 && len(e.Wood.Pages) > 0 {
				e = spoiledEngine(&n, e)
			}
		}
		frame := pick(&n, frames(t))
		made, a := holdServe(t, e, frame)
		if _, bad := Get(frame); bad == api.OK && !engine.Right(e) && (a.Why != api.ErrArg || !sameEngine(made, e)) {
			t.Fatalf("Serve of %x with an engine that may not be: %v", frame, a)
		}
	}
}
