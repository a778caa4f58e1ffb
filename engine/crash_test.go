package engine

import (
	"fmt"
	"slices"
	"strings"
	"testing"

	"penelope/api"
	"penelope/world"
)

// masksOf are masks for so many writes: no sector, all, the first one alone, all but it, one write whole, all but one, some first ones, and any.
func masksOf(n int, seed *noise) [][]int {
	all := [][]int{nil, slices.Repeat([]int{255}, n)}
	if n == 0 {
		return all[:1]
	}
	all = append(all, slices.Repeat([]int{1}, n), slices.Repeat([]int{254}, n))
	for k := range n {
		one, others := make([]int, n), slices.Repeat([]int{255}, n)
		one[k], others[k] = 255, 0
		all = append(all, one, others, slices.Repeat([]int{255}, k))
	}
	for range 3 {
		all = append(all, strewn(n, seed))
	}
	return all
}

func strewn(n int, seed *noise) []int {
	l := make([]int, n)
	for k := range l {
		l[k] = []int{0, 255, seed.below(256)}[seed.below(3)]
	}
	return l
}

// success is a task that was answered to be done, with its result and its token.
type success struct {
	key         string
	task, token int
	result      string
}

// history is the worlds at the beginning and behind each command that was answered OK; how many of these commands came ahead of the last CSync or Checkpoint that told OK; and the successes, of which so many came ahead of it.
type history struct {
	worlds    []api.World
	sure      int
	successes []success
	kept      int
}

func historyOf(w api.World) *history { return &history{worlds: []api.World{w}} }

func (h *history) all() int { return len(h.worlds) - 1 }

func (h *history) settle() { h.sure, h.kept = h.all(), len(h.successes) }

// note writes down a command that was answered OK, and what it made.
func (h *history) note(c api.Command, was, is api.World) {
	h.worlds = append(h.worlds, is)
	switch c.Kind {
	case api.CDone:
		h.successes = append(h.successes, successOf(was, c))
	case api.CSync:
		h.settle()
	}
}

func successOf(w api.World, c api.Command) success {
	for _, r := range w.Runs {
		for task, s := range r.States {
			if s.Token == c.Token {
				return success{r.Key, task, c.Token, c.Text}
			}
		}
	}
	panic("no lease has that token")
}

// play does commands (of Kind 0: a Checkpoint) up to the first one that tells ErrDown, and tells the engine as it is then, and whether its power has gone. The world is told of each answer ahead (P22.4).
func (h *history) play(t *testing.T, e api.Engine, commands []api.Command) (api.Engine, bool) {
	t.Helper()
	for i, c := range commands {
		if c.Kind == 0 {
			next, bad := Checkpoint(e)
			if bad == api.ErrDown {
				return next, true
			}
			if bad != api.OK || !same(next.World, e.World) {
				t.Fatalf("step %d: Checkpoint: %d", i, bad)
			}
			h.settle()
			e = next
			continue
		}
		w, want := world.Do(e.World, c)
		next, a := Do(e, c)
		switch {
		case a.Why == api.ErrDown:
			return next, true
		case a.Why == api.ErrSpace && want.Why == api.OK && sameEngine(next, e):
		case !sameAnswer(a, want) || !same(next.World, w):
			t.Fatalf("step %d: %v: %v, and the world is %v; want %v, %v", i, c, a, next.World, want, w)
		case a.Why == api.OK:
			h.note(c, e.World, w)
		}
		e = next
	}
	return e, false
}

// place is behind how many commands the world was this one: some first ones of all, in which are those that are there for sure. It is -1, if there is no such place.
func (h *history) place(w api.World) int {
	for n := h.all(); n >= h.sure; n-- {
		if same(h.worlds[n], w) {
			return n
		}
	}
	return -1
}

// opens opens a device behind a crash: P22.5.
func (h *history) opens(t *testing.T, what string, d api.Device) api.Engine {
	t.Helper()
	e, bad := Open(api.Power{Device: d, Left: -1})
	if bad != api.OK || !Right(e) {
		t.Fatalf("%s: Open: %s, %d", what, show(e), bad)
	}
	if h.place(e.World) < 0 {
		t.Fatalf("%s: opened with %v; %d done, %d for sure", what, e.World, h.all(), h.sure)
	}
	h.keeps(t, what, e)
	return e
}

// keeps holds an engine behind a crash to what it told: P22.6.
func (h *history) keeps(t *testing.T, what string, e api.Engine) {
	t.Helper()
	for _, s := range h.successes[:h.kept] {
		_, a := Do(e, state(s.key))
		if a.Why != api.OK || a.States[s.task] != (api.State{Is: api.SDone, Tried: a.States[s.task].Tried, Result: s.result}) {
			t.Fatalf("%s: of %v the state is %v", what, s, a)
		}
		for _, c := range []api.Command{done(s.token, "again"), beat(s.token), fail(s.token)} {
			if _, a := Do(e, c); !sameAnswer(a, api.Answer{Why: api.ErrToken}) {
				t.Fatalf("%s: of %v, %v: %v", what, s, c, a)
			}
		}
	}
}

// drains polls until nothing is to be done any more, the time going on: no lease is of a task that is done for sure.
func (h *history) drains(t *testing.T, what string, e api.Engine) {
	t.Helper()
	if h.kept == 0 {
		return
	}
	for range 60 {
		next, a := Do(e, poll())
		switch a.Why {
		case api.OK:
			for _, s := range h.successes[:h.kept] {
				if a.Key == s.key && a.Task == s.task || a.Token == s.token {
					t.Fatalf("%s: %v was done, and is leased: %v", what, s, a)
				}
			}
			e = next
		case api.ErrIdle:
			if next, a = Do(e, tick(e.World.Now+9)); a.Why != api.OK {
				return
			}
			if !slices.ContainsFunc(next.World.Runs, func(r api.Run) bool { return r.Is == api.RGoes }) {
				h.keeps(t, what, next)
				return
			}
			e = next
		default:
			return
		}
	}
	h.keeps(t, what, e)
}

// opensWithoutPower has the power go behind each call of an opening, too, and opens what is left.
func (h *history) opensWithoutPower(t *testing.T, what string, d api.Device, seed *noise) {
	t.Helper()
	for left := 0; ; left++ {
		where := fmt.Sprint(what, ", opened with power for ", left)
		e, bad := Open(api.Power{Device: d, Left: left})
		if bad == api.OK {
			h.opens(t, where, crashed(t, e))
			return
		}
		if bad != api.ErrDown || e.Left != 0 || !sameEngine(e, gone(e.Power)) {
			t.Fatalf("%s: %s, %d", where, show(e), bad)
		}
		for _, l := range [][]int{nil, slices.Repeat([]int{255}, len(e.Pending)), strewn(len(e.Pending), seed)} {
			h.opens(t, fmt.Sprint(where, ", masks ", l), crashed(t, e, l...))
		}
	}
}

// powerGoes has the power go behind each call of a play, with many sectors staying, and opens what is left; at some places also with power for some calls.
func powerGoes(t *testing.T, what string, e api.Engine, commands []api.Command) {
	t.Helper()
	seed := noise(len(what))
	for left := 0; ; left++ {
		h := historyOf(e.World)
		at, down := h.play(t, powered(e, left), commands)
		where := fmt.Sprint(what, ", power for ", left)
		if down && (at.Left != 0 || !sameEngine(at, gone(at.Power))) {
			t.Fatalf("%s: %s", where, show(at))
		}
		for i, l := range masksOf(len(at.Pending), &seed) {
			d := crashed(t, at, l...)
			back := h.opens(t, fmt.Sprint(where, ", masks ", l), d)
			if i < 2 {
				h.drains(t, where, back)
				h.opensWithoutPower(t, fmt.Sprint(where, ", masks ", l), d, &seed)
			}
		}
		if !down {
			return
		}
	}
}

func mark() api.Command { return api.Command{} }

// P22.5 and P22.6

func TestPowerGoes(t *testing.T) {
	g := row("g")
	for name, commands := range map[string][]api.Command{
		"a tick":          {tick(5)},
		"ticks":           append(ticks(1, 9), ticks(10, 20)...),
		"synced ticks":    {tick(1), sync(), tick(2), tick(3), sync(), tick(4)},
		"ticks that stay": {tick(5), tick(4), tick(5), sync(), tick(5), tick(6)},
		"checkpoints":     {mark(), tick(5), mark(), mark(), tick(6)},
		"a run":           {dagOf(g), start("k", "g"), poll(), done(1, "x"), sync(), poll(), done(2, "y"), sync(), poll()},
		"a run, no sync":  {dagOf(g), start("k", "g"), poll(), done(1, "x"), poll(), done(2, "y")},
		"a run, marked":   {dagOf(g), start("k", "g"), mark(), poll(), done(1, "x"), mark(), poll(), fail(2), tick(9), poll(), done(3, "z"), mark()},
		"refused":         {start("k", "g"), poll(), done(1, "x"), tick(-1), sync(), {Kind: 11}, dagOf(g), start("k", "h"), tick(3)},
		"ten at once":     {dagOf(ten("x")), start("k", "x"), poll(), poll(), poll(), done(2, "b"), sync(), cancel("k"), poll(), sync()},
	} {
		t.Run(name, func(t *testing.T) {
			t.Parallel()
			powerGoes(t, name, made(t, 24), commands)
			powerGoes(t, name+", of 40", marked(t, made(t, 40, beginning()...)), commands)
		})
	}
}

func TestPowerGoesWithLittleRoom(t *testing.T) {
	t.Parallel()
	commands := []api.Command{start("y", "x"), poll(), start("z", "x"), done(1, "a"), sync(), cancel("a"), dagOf(row("y")), poll(), mark(), tick(9), tick(10), tick(11), tick(12), start("y", "x"), tick(13), done(2, "b"), sync(), poll()}
	powerGoes(t, "little room", marked(t, tight(t)), commands)
}

// strewnCommand is a command of any kind, most often one that is answered OK.
func strewnCommand(n *noise, w api.World) api.Command {
	names, keys := []string{"a", "g\x00", long("g"), "\xff"}, []string{"a", "a\x00", "a\x00\x01", "a\x01", long("\xff"), long("k")}
	switch n.below(15) {
	case 0:
		return dagOf(strewnGraph(n, pick(n, names)))
	case 1, 2:
		return start(pick(n, keys), pick(n, names))
	case 3, 4, 5, 6:
		return poll()
	case 7:
		return beat(w.Token - n.below(4))
	case 8, 9:
		return done(w.Token-n.below(4), strings.Repeat("r", n.below(17)))
	case 10:
		return fail(w.Token - n.below(4))
	case 11:
		if n.below(6) == 0 {
			return cancel(pick(n, keys))
		}
		return state(pick(n, keys))
	case 12:
		return tick(w.Now + n.below(9) - 1)
	case 13:
		return mark()
	}
	return sync()
}

// strewnGraph is a graph of tasks that need some of those ahead.
func strewnGraph(n *noise, name string) api.Dag {
	d := api.Dag{Name: name}
	for i := range 1 + n.below(6) {
		task := api.Task{Tries: 1 + n.below(8), Wait: n.below(4), Lease: 1 + n.below(9)}
		for j := range i {
			if n.below(3) == 0 {
				task.Needs = append(task.Needs, j)
			}
		}
		d.Tasks = append(d.Tasks, task)
	}
	return d
}

// Long plays: commands with power for some calls, crashes, and openings whose power goes, too. What was done for sure stays done behind all of them.
func TestPlays(t *testing.T) {
	for seed := range noise(8) {
		t.Run(fmt.Sprint(seed), func(t *testing.T) {
			t.Parallel()
			n := seed
			longPlay(t, &n, []int{24, 26, 30, 40, 60, 80, 120, 200}[seed])
		})
	}
}

func longPlay(t *testing.T, n *noise, size int) {
	t.Helper()
	e := made(t, size)
	h := historyOf(e.World)
	crashes, kept := 0, 0
	for round := range 100 {
		down := false
		e = powered(e, n.below(40))
		for range n.below(25) {
			var gone bool
			if e, gone = h.play(t, e, []api.Command{strewnCommand(n, e.World)}); gone {
				down = true
				break
			}
		}
		if !down && n.below(3) > 0 {
			e = powered(e, -1)
			continue
		}
		d := crashed(t, e, strewn(len(e.Pending), n)...)
		for n.below(2) == 0 {
			half, bad := Open(api.Power{Device: d, Left: n.below(6)})
			if bad != api.OK && bad != api.ErrDown {
				t.Fatalf("round %d: Open: %d", round, bad)
			}
			d = crashed(t, half, strewn(len(half.Pending), n)...)
		}
		e = h.opens(t, fmt.Sprint("round ", round), d)
		crashes++
		// What was opened is there for sure; successes count from there on, and the last ones that were kept.
		kept += h.kept
		h.worlds, h.sure, h.successes = []api.World{e.World}, 0, h.successes[max(0, h.kept-6):h.kept]
		h.kept = len(h.successes)
	}
	h.drains(t, "at last", e)
	if crashes < 20 || kept == 0 && size > 24 {
		t.Errorf("%d crashes, %d done for sure", crashes, kept)
	}
}

// P22.4: without crashes all commands are answered as the world answers them, where there is room.
func TestAnswersAreTheWorlds(t *testing.T) {
	n := noise(224)
	refused := 0
	for _, size := range []int{24, 26, 200} {
		for range 12 {
			e, w := made(t, size), api.World{}
			for range 120 {
				c := strewnCommand(&n, w)
				if c.Kind == 0 {
					e = marked(t, e)
					continue
				}
				made, want := world.Do(w, c)
				next, a := Do(e, c)
				if a.Why == api.ErrSpace && want.Why == api.OK && size < 200 {
					refused++
					if !sameEngine(next, e) {
						t.Fatalf("%v: ErrSpace, and %s", c, show(next))
					}
					continue
				}
				if !sameAnswer(a, want) || !same(next.World, made) || !Right(next) {
					t.Fatalf("%v: %v, %s; want %v, %v", c, a, show(next), want, made)
				}
				e, w = next, made
			}
		}
	}
	if refused < 8 {
		t.Errorf("only %d times there was no room", refused)
	}
}

// P4: once a success and a CSync were answered, wherever the power goes then, that task is done.
func TestOnce(t *testing.T) {
	d := api.Dag{Name: "g", Tasks: []api.Task{{Tries: 8, Lease: 1}, {Needs: []int{0}, Tries: 8, Lease: 1}}}
	e := made(t, 40, dagOf(d), start("k", "g"), poll(), done(1, "once"), sync())
	h := historyOf(e.World)
	h.successes, h.kept = []success{{"k", 0, 1, "once"}}, 1
	for left := range 12 {
		at, _ := h.play(t, powered(e, left), []api.Command{poll(), tick(2), poll(), tick(4), mark(), poll()})
		seed := noise(left)
		for _, l := range masksOf(len(at.Pending), &seed) {
			h.drains(t, fmt.Sprint("power for ", left), h.opens(t, fmt.Sprint("power for ", left), crashed(t, at, l...)))
		}
		h.worlds, h.sure = h.worlds[:1], 0
	}
	// Without a CSync it may be lost; then it is leased again, with the token that was told before.
	lost := opened(t, crashed(t, told(t, made(t, 40, dagOf(d), start("k", "g"), sync()), poll(), done(1, "lost"))))
	if next, a := Do(lost, poll()); !sameAnswer(a, api.Answer{Key: "k", Token: 1}) {
		t.Errorf("%v, %s", a, show(next))
	}
}

// P5: a run whose due tasks are leased, and whose leases are over at some time, ends behind at most as many leases as its tasks may be tried, also if the power goes behind each that was synced.
func TestRunsEnd(t *testing.T) {
	e := made(t, 40, dagOf(row("g")), start("k", "g"), sync())
	leases := 0
	for e.World.Runs[0].Is == api.RGoes {
		next, a := Do(e, poll())
		switch {
		case a.Why == api.OK && leases%2 == 0:
			next, leases = told(t, next, sync(), fail(a.Token), sync()), leases+1
		case a.Why == api.OK:
			next, leases = told(t, next, sync(), done(a.Token, "x"), sync()), leases+1
		case a.Why == api.ErrIdle:
			next = told(t, e, tick(e.World.Now+1), sync())
		default:
			t.Fatal(a)
		}
		if e = opened(t, crashed(t, next)); leases > 4 {
			t.Fatalf("%d leases", leases)
		}
	}
	if e.World.Runs[0].Is != api.RDone || leases != 4 {
		t.Errorf("%v behind %d leases", e.World.Runs[0], leases)
	}
}
