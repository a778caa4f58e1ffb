package world

import (
	"slices"
	"strings"
	"testing"

	"penelope/api"
	"penelope/run"
)

// mustDo does commands, each of which is answered OK, and tells the last answer.
func mustDo(t *testing.T, w api.World, commands ...api.Command) (api.World, api.Answer) {
	t.Helper()
	var a api.Answer
	for _, c := range commands {
		if w, a = Do(w, c); a.Why != api.OK {
			t.Fatalf("%v: %v", c, a)
		}
	}
	return w, a
}

// step is a command at a world that may be, its answer, and what it makes; without one the world stays.
type step struct {
	name   string
	w      api.World
	c      api.Command
	answer api.Answer
	made   *api.World
}

func holdSteps(t *testing.T, steps []step) {
	t.Helper()
	for _, s := range steps {
		if !Right(s.w) {
			t.Errorf("%s: the world may not be: %v", s.name, s.w)
		}
		want := s.w
		if s.made != nil {
			want = *s.made
		}
		if w, a := Do(s.w, s.c); !same(w, want) || !sameAnswer(a, s.answer) {
			t.Errorf("%s: %v, %v; want %v, %v", s.name, w, a, want, s.answer)
		}
	}
}

// begun is a run of row that begins.
func begun(key string) api.Run { return of(key, row("g"), api.RGoes, dueAt(0, 0), waits()) }

// The chapter's examples

func TestExamples(t *testing.T) {
	w, a := mustDo(t, api.World{}, api.Command{Kind: api.CDag, Dag: row("g")}, api.Command{Kind: api.CStart, Key: "k", Name: "g"}, api.Command{Kind: api.CPoll})
	if !sameAnswer(a, api.Answer{Key: "k", Task: 0, Token: 1}) {
		t.Errorf("the first lease: %v", a)
	}
	if made := with(0, 1, of("k", row("g"), api.RGoes, held(1, 5, 1), waits())); !same(w, api.World{Token: 1, Dags: made.Dags[:1], Runs: made.Runs}) {
		t.Errorf("it makes %v", w)
	}
	if w, a := Do(api.World{}, api.Command{Kind: api.CPoll}); !same(w, api.World{}) || !sameAnswer(a, why(api.ErrIdle)) {
		t.Errorf("CPoll in the empty world: %v, %v", w, a)
	}
	if g, a := Do(w, api.Command{Kind: api.CDone, Token: 9}); !same(g, w) || !sameAnswer(a, why(api.ErrToken)) {
		t.Errorf("CDone of Token 9: %v, %v", g, a)
	}
}

// P20.1: Right

func TestRightOfNumbers(t *testing.T) {
	for n, want := range map[int]bool{lowest: false, -1: false, 0: true, 1: true, end - 1: true, end: true, end + 1: false, highest: false} {
		if Right(api.World{Now: n}) != want {
			t.Errorf("Right of Now %d: %t", n, !want)
		}
		if Right(api.World{Token: n}) != want {
			t.Errorf("Right of Token %d: %t", n, !want)
		}
		if Right(api.World{Now: n, Token: -1}) || Right(api.World{Now: end + 1, Token: n}) {
			t.Errorf("Right of Now and Token, one of which is %d", n)
		}
	}
}

func TestRightOfCounts(t *testing.T) {
	for _, c := range []struct {
		graphs, runs int
		want         bool
	}{
		{1, 0, true}, {15, 0, true}, {16, 0, true}, {17, 0, false}, {18, 0, false},
		{1, 63, true}, {1, 64, true}, {1, 65, false}, {1, 66, false},
		{16, 64, true}, {17, 64, false}, {16, 65, false}, {17, 65, false}, {17, 1, false},
	} {
		if w := full(c.graphs, c.runs); Right(w) != c.want {
			t.Errorf("Right of %d graphs and %d runs: %t", c.graphs, c.runs, !c.want)
		}
	}
	if Right(api.World{Dags: make([]api.Dag, 1000000)}) || Right(api.World{Runs: make([]api.Run, 1000000)}) {
		t.Error("Right of a million graphs or runs")
	}
}

func TestRightOfNamesAndKeys(t *testing.T) {
	long := strings.Repeat("g", 16)
	for _, c := range []struct {
		names []string
		want  bool
	}{
		{nil, true},
		{[]string{"g"}, true},
		{[]string{"g", "h"}, true},
		{[]string{"h", "g"}, false},
		{[]string{"g", "g"}, false},
		{[]string{"f", "g", "g"}, false},
		{[]string{"g", "g", "h"}, false},
		{[]string{"g", "h", "g"}, false},
		{[]string{"g", "f", "h"}, false},
		{[]string{"f", "h", "g"}, false},
		{[]string{"g", "gg"}, true},
		{[]string{"gg", "g"}, false},
		{[]string{"g", "g\x00", "gg"}, true},
		{[]string{"g\x00", "g"}, false},
		{[]string{"\x00", "A", "B", "a", "z", "\x7f", "\x80", "\xff"}, true},
		{[]string{"\x80", "a"}, false},
		{[]string{"a", "B"}, false},
		{[]string{"10", "9"}, true},
		{[]string{"9", "10"}, false},
		{[]string{long[1:], long}, true},
		{[]string{long, long}, false},
		{[]string{long, long + "g"}, false},
		{[]string{"", "g"}, false},
	} {
		var named api.World
		keyed := api.World{Dags: []api.Dag{row("g")}}
		for _, name := range c.names {
			named.Dags = append(named.Dags, one(name))
			keyed.Runs = append(keyed.Runs, begun(name))
		}
		if Right(named) != c.want {
			t.Errorf("Right of the Names %q: %t", c.names, !c.want)
		}
		if Right(keyed) != c.want {
			t.Errorf("Right of the Keys %q: %t", c.names, !c.want)
		}
	}
}

func TestRightOfGraphsAndRuns(t *testing.T) {
	many := graph("g", make([][]int, 11)...)
	other := row("g")
	other.Tasks[1].Wait = 4
	for _, c := range []struct {
		name string
		dags []api.Dag
		runs []api.Run
		want bool
	}{
		{"a graph and its run", []api.Dag{row("g")}, []api.Run{begun("k")}, true},
		{"a graph without tasks", []api.Dag{{Name: "g"}}, nil, false},
		{"a graph of 11 tasks", []api.Dag{many}, nil, false},
		{"a graph that waits for itself", []api.Dag{graph("g", []int{0})}, nil, false},
		{"a second graph that may not be", []api.Dag{row("g"), graph("h", []int{0})}, nil, false},
		{"a first graph that may not be", []api.Dag{graph("f", []int{0}), row("g")}, []api.Run{begun("k")}, false},
		{"a run that may not be", []api.Dag{row("g")}, []api.Run{of("k", row("g"), api.RGoes, waits(), waits())}, false},
		{"a run of another Is", []api.Dag{row("g")}, []api.Run{of("k", row("g"), api.RDone, dueAt(0, 0), waits())}, false},
		{"a second run that may not be", []api.Dag{row("g")}, []api.Run{begun("k"), of("l", row("g"), api.RGoes)}, false},
		{"a run without a graph", nil, []api.Run{begun("k")}, false},
		{"a run of a Name that no graph has", []api.Dag{row("f"), row("h")}, []api.Run{begun("k")}, false},
		{"a run of a Name behind all graphs", []api.Dag{row("f")}, []api.Run{begun("k")}, false},
		{"a second run of a Name that no graph has", []api.Dag{row("g")}, []api.Run{begun("k"), of("l", one("h"), api.RGoes, dueAt(0, 0))}, false},
		{"a run of a graph with a task more", []api.Dag{one("g")}, []api.Run{begun("k")}, false},
		{"a run of a graph with a task less", []api.Dag{row("g")}, []api.Run{of("k", one("g"), api.RGoes, dueAt(0, 0))}, false},
		{"a run of a graph with other Needs", []api.Dag{graph("g", nil, nil)}, []api.Run{begun("k")}, false},
		{"a run of a graph with another Wait", []api.Dag{other}, []api.Run{begun("k")}, false},
		{"a run of the graph of another Name", []api.Dag{other, row("h")}, []api.Run{begun("k")}, false},
		{"runs of both graphs", []api.Dag{row("g"), one("h")}, []api.Run{begun("k"), of("l", one("h"), api.RGoes, dueAt(0, 0))}, true},
	} {
		if Right(api.World{Dags: c.dags, Runs: c.runs}) != c.want {
			t.Errorf("Right of %s: %t", c.name, !c.want)
		}
	}
	for _, change := range []func(*api.Task){
		func(t *api.Task) { t.Needs = nil },
		func(t *api.Task) { t.Tries = 3 },
		func(t *api.Task) { t.Wait = 0 },
		func(t *api.Task) { t.Lease = 4 },
	} {
		w := api.World{Dags: []api.Dag{row("g")}, Runs: []api.Run{of("k", row("g"), api.RGoes, ok(), dueAt(1, 3))}}
		if change(&w.Dags[0].Tasks[1]); Right(w) {
			t.Errorf("Right of %v", w)
		}
		if change(&w.Runs[0].Dag.Tasks[1]); !Right(w) {
			t.Errorf("%v may not be", w)
		}
	}
}

func TestRightOfTokens(t *testing.T) {
	two := graph("p", nil, nil)
	leased := func(key string, first, second int) api.Run {
		return of(key, two, api.RGoes, held(1, 5, first), held(1, 5, second))
	}
	for _, c := range []struct {
		name  string
		token int
		runs  []api.Run
		want  bool
	}{
		{"at the world's", 7, []api.Run{leased("k", 6, 7)}, true},
		{"above the world's", 6, []api.Run{leased("k", 6, 7)}, false},
		{"above the world's, the first task's", 6, []api.Run{leased("k", 7, 6)}, false},
		{"above the world's, in the second run", 8, []api.Run{leased("k", 7, 8), leased("l", 2, 9)}, false},
		{"of a world without one", 0, []api.Run{leased("k", 1, 2)}, false},
		{"far below the world's", end, []api.Run{leased("k", 1, 2)}, true},
		{"the last one", end, []api.Run{leased("k", 1, end)}, true},
		{"the last one, above the world's", end - 1, []api.Run{leased("k", 1, end)}, false},
		{"twice in one run", 9, []api.Run{leased("k", 7, 7)}, false},
		{"in two runs", 9, []api.Run{leased("k", 7, 8), leased("l", 7, 9)}, false},
		{"in two runs, at other places", 9, []api.Run{leased("k", 7, 8), leased("l", 9, 7)}, false},
		{"in the first and the last run", 9, []api.Run{leased("k", 1, 7), leased("l", 2, 3), leased("m", 4, 7)}, false},
		{"apart", 9, []api.Run{leased("k", 1, 7), leased("l", 2, 3), leased("m", 4, 9)}, true},
		{"0 in two runs", 0, []api.Run{of("k", two, api.RGoes, dueAt(0, 0), dueAt(0, 0)), of("l", two, api.RGoes, dueAt(0, 0), ok())}, true},
	} {
		if Right(api.World{Token: c.token, Dags: []api.Dag{two}, Runs: c.runs}) != c.want {
			t.Errorf("Right of tokens %s: %t", c.name, !c.want)
		}
	}
}

// P20.1: Do

func TestKinds(t *testing.T) {
	w := with(3, 2, begun("k"))
	for _, kind := range kinds() {
		g, a := Do(w, api.Command{Kind: kind, Key: "k", Name: "g", Token: 1, Time: 3, Dag: row("g")})
		if wrong := kind < 1 || kind > 10; wrong != (a.Why == api.ErrFrame) {
			t.Errorf("kind %d: %v", kind, a)
		} else if wrong && (!same(g, w) || !sameAnswer(a, why(api.ErrFrame))) {
			t.Errorf("kind %d: %v, %v", kind, g, a)
		}
		// Both errors: that of the world comes first, whatever the command.
		bad := with(3, 2, begun("l"), begun("k"))
		if g, a := Do(bad, api.Command{Kind: kind, Key: "none", Token: 9, Time: -1}); !same(g, bad) || !sameAnswer(a, why(api.ErrArg)) {
			t.Errorf("kind %d at a world that may not be: %v, %v", kind, g, a)
		}
	}
}

func TestDag(t *testing.T) {
	tell := func(d api.Dag) api.Command { return api.Command{Kind: api.CDag, Dag: d} }
	// among is a world of these graphs.
	among := func(names ...string) *api.World {
		w := api.World{Now: 4, Token: 5}
		for _, name := range names {
			w.Dags = append(w.Dags, row(name))
		}
		return &w
	}
	many := graph("g", make([][]int, 11)...)
	round := graph("g", []int{1}, []int{0})
	far := row("g")
	far.Tasks[1].Tries = 9
	other := row("g")
	other.Tasks[1].Lease = 4
	full := full(16, 64)
	another := row("g03")
	another.Tasks[0].Wait = 4
	holdSteps(t, []step{
		{"the first", *among(), tell(row("g")), api.Answer{}, among("g")},
		{"ahead of all", *among("g", "h"), tell(row("f")), api.Answer{}, among("f", "g", "h")},
		{"among them", *among("f", "h"), tell(row("g")), api.Answer{}, among("f", "g", "h")},
		{"behind all", *among("f", "g"), tell(row("h")), api.Answer{}, among("f", "g", "h")},
		{"of a Name that begins as another", *among("g", "h"), tell(row("g\x00")), api.Answer{}, among("g", "g\x00", "h")},
		{"of bytes above all", *among("g", "z"), tell(row("\xff")), api.Answer{}, among("g", "z", "\xff")},
		{"of a Name of 16 bytes", *among("a"), tell(row(strings.Repeat("g", 16))), api.Answer{}, among("a", strings.Repeat("g", 16))},

		{"no tasks", *among("f"), tell(api.Dag{Name: "g"}), why(api.ErrArg), nil},
		{"no Name", *among("f"), tell(row("")), why(api.ErrArg), nil},
		{"a Name of 17 bytes", *among("f"), tell(row(strings.Repeat("g", 17))), why(api.ErrArg), nil},
		{"11 tasks", *among("f"), tell(many), why(api.ErrLong), nil},
		{"a round", *among("f"), tell(round), why(api.ErrCycle), nil},
		{"too many Tries", *among("f"), tell(far), why(api.ErrArg), nil},

		{"one that is there", *among("f", "g", "h"), tell(row("g")), api.Answer{}, nil},
		{"another one of its Name", *among("f", "g", "h"), tell(other), why(api.ErrDag), nil},
		{"one of its Name with a task less", *among("g"), tell(one("g")), why(api.ErrDag), nil},
		{"one of its Name with other Needs", *among("g"), tell(graph("g", nil, nil)), why(api.ErrDag), nil},

		{"a 17th", full, tell(row("h")), why(api.ErrLong), nil},
		{"a 17th ahead of all", full, tell(row("f")), why(api.ErrLong), nil},
		// More than one error, or none, where there are 16.
		{"the 16th again", full, tell(row("g15")), api.Answer{}, nil},
		{"another one of a Name, where there are 16", full, tell(another), why(api.ErrDag), nil},
		{"a round, where there are 16", full, tell(round), why(api.ErrCycle), nil},
		{"no Name, where there are 16", full, tell(one("")), why(api.ErrArg), nil},
		{"a round of a Name that is there", *among("g"), tell(round), why(api.ErrCycle), nil},
		{"11 tasks of a Name that is there", *among("g"), tell(many), why(api.ErrLong), nil},
		{"too many Tries of a Name that is there", *among("g"), tell(far), why(api.ErrArg), nil},
		{"11 tasks and no Name", *among("g"), tell(graph("", make([][]int, 11)...)), why(api.ErrLong), nil},
	})
	if w, a := Do(full, tell(row("h"))); len(w.Dags) != 16 || a.Why != api.ErrLong {
		t.Errorf("a 17th: %d, %v", len(w.Dags), a)
	}
	fifteen := api.World{Dags: full.Dags[:15]}
	if w, a := Do(fifteen, tell(full.Dags[15])); !same(w, api.World{Dags: full.Dags}) || a.Why != api.OK {
		t.Errorf("a 16th: %v, %v", w, a)
	}
}

func TestStart(t *testing.T) {
	tell := func(key, name string) api.Command { return api.Command{Kind: api.CStart, Key: key, Name: name} }
	// among is a world of runs of row by these keys.
	among := func(keys ...string) *api.World {
		w := with(4, 5)
		for _, key := range keys {
			w.Runs = append(w.Runs, begun(key))
		}
		return &w
	}
	full := full(16, 64)
	short := full
	short.Runs = full.Runs[:63]
	sixteen, seventeen := strings.Repeat("k", 16), strings.Repeat("k", 17)
	half := with(4, 5, of("k", row("g"), api.RGoes, held(1, 9, 5), waits()))
	over := with(4, 5, of("k", row("g"), api.RLost, lost(), gone(0)))
	single := with(4, 5, of("k", one("h"), api.RGoes, dueAt(0, 0)))
	holdSteps(t, []step{
		{"the first", *among(), tell("k", "g"), api.Answer{}, among("k")},
		{"of another graph", *among(), tell("k", "h"), api.Answer{}, &single},
		{"ahead of all", *among("k", "l"), tell("j", "g"), api.Answer{}, among("j", "k", "l")},
		{"among them", *among("j", "l"), tell("k", "g"), api.Answer{}, among("j", "k", "l")},
		{"behind all", *among("j", "k"), tell("l", "g"), api.Answer{}, among("j", "k", "l")},
		{"of bytes above all", *among("k", "z"), tell("\xff\x00", "g"), api.Answer{}, among("k", "z", "\xff\x00")},
		{"a Key of 1 byte", *among(), tell("\x00", "g"), api.Answer{}, among("\x00")},
		{"a Key of 16 bytes", *among("k"), tell(sixteen, "g"), api.Answer{}, among("k", sixteen)},

		{"a Key of 0 bytes", *among("k"), tell("", "g"), why(api.ErrArg), nil},
		{"a Key of 17 bytes", *among("k"), tell(seventeen, "g"), why(api.ErrArg), nil},
		{"a Name that no graph has", *among("k"), tell("l", "x"), why(api.ErrDag), nil},
		{"a Name that begins as a graph's", *among("k"), tell("l", "ggg"), why(api.ErrDag), nil},
		{"no Name", *among("k"), tell("l", ""), why(api.ErrDag), nil},
		{"a Name, where no graph is", api.World{}, tell("k", "g"), why(api.ErrDag), nil},

		{"a Key that is there, with the same Name", *among("j", "k"), tell("k", "g"), api.Answer{}, nil},
		{"the same, leased", half, tell("k", "g"), api.Answer{}, nil},
		{"the same, over", over, tell("k", "g"), api.Answer{}, nil},
		{"a Key that is there, with another Name", *among("j", "k"), tell("k", "h"), why(api.ErrRun), nil},
		{"a 65th", full, tell("l", "g00"), why(api.ErrLong), nil},
		{"a 65th ahead of all", full, tell("a", "g00"), why(api.ErrLong), nil},

		// More than one error, or none, where there are 64.
		{"no Key and no such Name", *among("k"), tell("", "x"), why(api.ErrArg), nil},
		{"a Key of 17 bytes, where there are 64", full, tell(seventeen, "g00"), why(api.ErrArg), nil},
		{"a Key that is there, of no such Name", *among("k"), tell("k", "x"), why(api.ErrDag), nil},
		{"no such Name, where there are 64", full, tell("l", "x"), why(api.ErrDag), nil},
		{"another Name, where there are 64", full, tell("k17", "g00"), why(api.ErrRun), nil},
		{"the same Name, where there are 64", full, tell("k17", "g01"), api.Answer{}, nil},
		{"a 64th", short, tell("k63", "g15"), api.Answer{}, &full},
	})
}

func TestPoll(t *testing.T) {
	poll := api.Command{Kind: api.CPoll}
	at := func(now, token int, all ...api.Run) *api.World {
		w := with(now, token, all...)
		return &w
	}
	leased := func(key string, due, token int) api.Run {
		return of(key, row("g"), api.RGoes, held(1, due, token), waits())
	}
	later := of("a", one("h"), api.RGoes, dueAt(1, 11))
	last := of("a", one("h"), api.RGoes, held(2, 10, 3))
	again := of("a", one("h"), api.RGoes, held(1, 7, 3))
	two := graph("p", nil, nil)
	both := func(first, second api.State) []api.Run { return []api.Run{of("k", two, api.RGoes, first, second)} }
	holdSteps(t, []step{
		{"no run", *at(10, 7), poll, why(api.ErrIdle), nil},
		{"one that is due", *at(10, 7, begun("k")), poll, api.Answer{Key: "k", Token: 8}, at(10, 8, leased("k", 15, 8))},
		{"two that are due", *at(10, 7, begun("k"), begun("l")), poll, api.Answer{Key: "k", Token: 8}, at(10, 8, leased("k", 15, 8), begun("l"))},
		{"the first is leased", *at(10, 7, leased("k", 15, 7), begun("l")), poll, api.Answer{Key: "l", Token: 8}, at(10, 8, leased("k", 15, 7), leased("l", 15, 8))},
		{"the first is due later", *at(10, 7, later, begun("l")), poll, api.Answer{Key: "l", Token: 8}, at(10, 8, later, leased("l", 15, 8))},
		{"the first is due by now", *at(11, 7, later, begun("l")), poll, api.Answer{Key: "a", Token: 8}, at(11, 8, of("a", one("h"), api.RGoes, held(2, 16, 8)), begun("l"))},
		{"those that are over are left out", *at(10, 7, of("a", row("g"), api.RDone, ok(), ok()), of("b", row("g"), api.RLost, lost(), gone(0)), of("c", one("h"), api.RGone, gone(0)), begun("l")), poll, api.Answer{Key: "l", Token: 8},
			at(10, 8, of("a", row("g"), api.RDone, ok(), ok()), of("b", row("g"), api.RLost, lost(), gone(0)), of("c", one("h"), api.RGone, gone(0)), leased("l", 15, 8))},
		{"all are due later", *at(10, 7, later, leased("l", 15, 7)), poll, why(api.ErrIdle), nil},
		{"the second task", *at(10, 7, of("k", row("g"), api.RGoes, ok(), dueAt(0, 0))), poll, api.Answer{Key: "k", Task: 1, Token: 8}, at(10, 8, of("k", row("g"), api.RGoes, ok(), held(1, 15, 8)))},
		// A lease that is over is one that failed when it was: settled, its task may be due again.
		{"a lease that is over, due again", *at(10, 7, again, begun("l")), poll, api.Answer{Key: "a", Token: 8}, at(10, 8, of("a", one("h"), api.RGoes, held(2, 15, 8)), begun("l"))},
		{"a lease that is over, due later", *at(9, 7, again, begun("l")), poll, api.Answer{Key: "l", Token: 8}, at(9, 8, again, leased("l", 14, 8))},
		// Whatever settling makes of a run that is not leased is not kept.
		{"the last lease is over", *at(10, 7, last, begun("l")), poll, api.Answer{Key: "l", Token: 8}, at(10, 8, last, leased("l", 15, 8))},
		{"the last lease is over, and nothing else", *at(10, 7, last), poll, why(api.ErrIdle), nil},

		{"one below the last token", *at(10, end-1, begun("k")), poll, api.Answer{Key: "k", Token: end}, at(10, end, leased("k", 15, end))},
		{"at the last token", *at(10, end, begun("k")), poll, why(api.ErrIdle), nil},
		{"at the last token, without a run", *at(10, end), poll, why(api.ErrIdle), nil},
		{"at the last time", *at(end, 0, begun("k")), poll, api.Answer{Key: "k", Token: 1}, at(end, 1, leased("k", end, 1))},
	})
	w, a := Do(api.World{Token: 7, Dags: []api.Dag{two}, Runs: both(dueAt(1, 3), dueAt(0, 0))}, poll)
	if want := (api.World{Token: 8, Dags: []api.Dag{two}, Runs: both(dueAt(1, 3), held(1, 5, 8))}); !same(w, want) || !sameAnswer(a, api.Answer{Key: "k", Task: 1, Token: 8}) {
		t.Errorf("the first task is due later: %v, %v", w, a)
	}
}

func TestBeatDoneAndFail(t *testing.T) {
	tell := func(kind, token int, text string) api.Command {
		return api.Command{Kind: kind, Token: token, Text: text}
	}
	at := func(now int, all ...api.Run) *api.World {
		w := with(now, 9, all...)
		return &w
	}
	leased := func(key string, tried, due, token int) api.Run {
		return of(key, row("g"), api.RGoes, held(tried, due, token), waits())
	}
	done := func(result string) api.Run {
		return of("l", row("g"), api.RGoes, api.State{Is: api.SDone, Tried: 1, Result: result}, dueAt(0, 0))
	}
	k, l := leased("k", 1, 15, 7), leased("l", 1, 15, 8)
	w := *at(12, k, l)
	told := api.Answer{Key: "l"}
	r16, r17 := strings.Repeat("r", 16), strings.Repeat("r", 17)
	steps := []step{
		{"a beat", w, tell(api.CBeat, 8, ""), told, at(12, k, leased("l", 1, 17, 8))},
		{"a beat of the first", w, tell(api.CBeat, 7, ""), api.Answer{Key: "k"}, at(12, leased("k", 1, 17, 7), l)},
		{"a beat with a Text of 17 bytes", w, tell(api.CBeat, 8, r17), told, at(12, k, leased("l", 1, 17, 8))},
		{"done", w, tell(api.CDone, 8, "x"), told, at(12, k, done("x"))},
		{"done of 0 bytes", w, tell(api.CDone, 8, ""), told, at(12, k, done(""))},
		{"done of 16 bytes", w, tell(api.CDone, 8, r16), told, at(12, k, done(r16))},
		{"done of 17 bytes", w, tell(api.CDone, 8, r17), why(api.ErrArg), nil},
		{"done, the last one", *at(12, of("l", row("g"), api.RGoes, ok(), held(1, 15, 8))), tell(api.CDone, 8, "ok"), told, at(12, of("l", row("g"), api.RDone, ok(), ok()))},
		{"a failure", w, tell(api.CFail, 8, ""), told, at(12, k, of("l", row("g"), api.RGoes, dueAt(1, 15), waits()))},
		{"a failure with a Text of 17 bytes", w, tell(api.CFail, 8, r17), told, at(12, k, of("l", row("g"), api.RGoes, dueAt(1, 15), waits()))},
		{"the last failure", *at(12, k, leased("l", 2, 15, 8)), tell(api.CFail, 8, ""), told, at(12, k, of("l", row("g"), api.RLost, lost(), gone(0)))},
		// More than one error: that of the token comes first.
		{"done of 17 bytes with no such token", w, tell(api.CDone, 3, r17), why(api.ErrToken), nil},
		{"done of 17 bytes, the lease is over", *at(15, k, l), tell(api.CDone, 8, r17), why(api.ErrToken), nil},
	}
	for _, kind := range []int{api.CBeat, api.CDone, api.CFail} {
		for _, token := range []int{lowest, -1, 0, 1, 6, 9, 10, end, highest} {
			steps = append(steps, step{"a token that none has", w, tell(kind, token, "x"), why(api.ErrToken), nil})
		}
		steps = append(steps,
			step{"no run", *at(12), tell(kind, 8, "x"), why(api.ErrToken), nil},
			step{"no lease", *at(12, begun("k"), of("l", row("g"), api.RDone, ok(), ok())), tell(kind, 0, "x"), why(api.ErrToken), nil},
			step{"a lease that is just over", *at(15, k, l), tell(kind, 8, "x"), why(api.ErrToken), nil},
			step{"a lease that is over", *at(30, k, l), tell(kind, 8, "x"), why(api.ErrToken), nil},
			step{"a last lease that is over", *at(30, k, leased("l", 2, 15, 8)), tell(kind, 8, "x"), why(api.ErrToken), nil},
		)
		// At the last time ahead of Due it still counts, and what others have is not settled.
		if g, a := Do(*at(14, leased("k", 2, 14, 7), l), tell(kind, 8, "x")); !sameAnswer(a, told) || !sameRun(g.Runs[0], leased("k", 2, 14, 7)) {
			t.Errorf("kind %d ahead of Due: %v, %v", kind, g, a)
		}
	}
	holdSteps(t, steps)
}

// A token counts until a task of the same run, whose lease is over for good, has the run be lost.
func TestATokenOfARunThatIsLostByNow(t *testing.T) {
	p := graph("p", nil, nil)
	w := api.World{Now: 10, Token: 9, Dags: []api.Dag{p}, Runs: []api.Run{of("k", p, api.RGoes, held(2, 10, 8), held(1, 15, 9))}}
	for _, kind := range []int{api.CBeat, api.CDone, api.CFail} {
		if g, a := Do(w, api.Command{Kind: kind, Token: 9}); !same(g, w) || !sameAnswer(a, why(api.ErrToken)) {
			t.Errorf("kind %d: %v, %v", kind, g, a)
		}
	}
}

func TestCancel(t *testing.T) {
	cancel := func(key string) api.Command { return api.Command{Kind: api.CCancel, Key: key} }
	at := func(now int, all ...api.Run) *api.World {
		w := with(now, 9, all...)
		return &w
	}
	half := of("l", row("g"), api.RGoes, ok(), held(1, 15, 7))
	last := of("l", row("g"), api.RGoes, held(2, 15, 7), waits())
	k := begun("k")
	holdSteps(t, []step{
		{"a run that begins", *at(3, k, half), cancel("k"), api.Answer{}, at(3, of("k", row("g"), api.RGone, gone(0), gone(0)), half)},
		{"a run half done", *at(3, k, half), cancel("l"), api.Answer{}, at(3, k, of("l", row("g"), api.RGone, ok(), gone(1)))},
		{"a lease that is over, but not the last", *at(15, half), cancel("l"), api.Answer{}, at(15, of("l", row("g"), api.RGone, ok(), gone(1)))},
		{"a Key that none has", *at(3, k, half), cancel("m"), why(api.ErrRun), nil},
		{"a Key between two", *at(3, k, half), cancel("kk"), why(api.ErrRun), nil},
		{"no Key", *at(3, k, half), cancel(""), why(api.ErrRun), nil},
		{"a Key of 17 bytes", *at(3, k, half), cancel(strings.Repeat("k", 17)), why(api.ErrRun), nil},
		{"no run", *at(3), cancel("k"), why(api.ErrRun), nil},
		{"a graph's Name", *at(3, k), cancel("g"), why(api.ErrRun), nil},
		{"a run that is done", *at(3, of("k", row("g"), api.RDone, ok(), ok())), cancel("k"), why(api.ErrDone), nil},
		{"a run that is lost", *at(3, of("k", row("g"), api.RLost, lost(), gone(0))), cancel("k"), why(api.ErrDone), nil},
		{"a run that is cancelled", *at(3, of("k", row("g"), api.RGone, gone(0), gone(0))), cancel("k"), why(api.ErrDone), nil},
		{"the last lease, ahead of Due", *at(14, last), cancel("l"), api.Answer{}, at(14, of("l", row("g"), api.RGone, gone(2), gone(0)))},
		{"the last lease, at Due", *at(15, last), cancel("l"), why(api.ErrDone), nil},
	})
}

func TestTick(t *testing.T) {
	tick := func(now int) api.Command { return api.Command{Kind: api.CTick, Time: now} }
	all := odds(7, 8, 9)
	at := func(now int) *api.World {
		w := with(now, 9, all...)
		return &w
	}
	holdSteps(t, []step{
		{"far below 0", *at(5), tick(lowest), why(api.ErrArg), nil},
		{"below 0", *at(5), tick(-1), why(api.ErrArg), nil},
		{"0 at 0", *at(0), tick(0), api.Answer{}, nil},
		{"0", *at(5), tick(0), api.Answer{}, nil},
		{"below Now", *at(5), tick(4), api.Answer{}, nil},
		{"at Now", *at(5), tick(5), api.Answer{}, nil},
		{"above Now", *at(5), tick(6), api.Answer{}, at(6)},
		// Leases that are over stay until someone asks.
		{"far above Now", *at(5), tick(1 << 30), api.Answer{}, at(1 << 30)},
		{"one below the last time", *at(5), tick(end - 1), api.Answer{}, at(end - 1)},
		{"the last time", *at(5), tick(end), api.Answer{}, at(end)},
		{"the last time, there", *at(end), tick(end), api.Answer{}, nil},
		{"beyond the last time", *at(5), tick(end + 1), why(api.ErrArg), nil},
		{"beyond the last time, there", *at(end), tick(end + 1), why(api.ErrArg), nil},
		{"far beyond", *at(5), tick(highest), why(api.ErrArg), nil},
	})
}

func TestState(t *testing.T) {
	ask := func(key string) api.Command { return api.Command{Kind: api.CState, Key: key} }
	told := func(key string, is int, states ...api.State) api.Answer {
		return api.Answer{Key: key, Is: is, States: states}
	}
	begins := with(3, 9, begun("k"), begun("l"))
	at := func(now int) api.World {
		return with(now, 9, begun("k"), of("l", row("g"), api.RGoes, held(1, 15, 7), waits()), of("m", row("g"), api.RGoes, held(2, 15, 8), waits()))
	}
	over := with(3, 9, of("d", row("g"), api.RDone, ok(), ok()), of("g", row("g"), api.RGone, ok(), gone(1)), of("l", row("g"), api.RLost, lost(), gone(0)))
	holdSteps(t, []step{
		{"a run that begins", begins, ask("k"), told("k", api.RGoes, dueAt(0, 0), waits()), nil},
		{"the second run", begins, ask("l"), told("l", api.RGoes, dueAt(0, 0), waits()), nil},
		{"a lease, ahead of Due", at(14), ask("l"), told("l", api.RGoes, held(1, 15, 7), waits()), nil},
		{"a lease, at Due", at(15), ask("l"), told("l", api.RGoes, dueAt(1, 18), waits()), nil},
		{"a lease, long over", at(end), ask("l"), told("l", api.RGoes, dueAt(1, 18), waits()), nil},
		{"the last lease, ahead of Due", at(14), ask("m"), told("m", api.RGoes, held(2, 15, 8), waits()), nil},
		{"the last lease, at Due", at(15), ask("m"), told("m", api.RLost, lost(), gone(0)), nil},
		{"a run that is done", over, ask("d"), told("d", api.RDone, ok(), ok()), nil},
		{"a run that is cancelled", over, ask("g"), told("g", api.RGone, ok(), gone(1)), nil},
		{"a run that is lost", over, ask("l"), told("l", api.RLost, lost(), gone(0)), nil},
		{"a Key that none has", begins, ask("m"), why(api.ErrRun), nil},
		{"a Key ahead of all", begins, ask("a"), why(api.ErrRun), nil},
		{"a Key of 17 bytes", begins, ask(strings.Repeat("k", 17)), why(api.ErrRun), nil},
		{"no Key", begins, ask(""), why(api.ErrRun), nil},
		{"no run", with(3, 9), ask("k"), why(api.ErrRun), nil},
	})
	// What is told is what run.Settle makes, of each run at each time.
	for _, now := range times() {
		if now < 0 || now > end {
			continue
		}
		w := with(now, 9, odds(7, 8, 9)...)
		for _, r := range w.Runs {
			g, e := run.Settle(r, now)
			if made, a := Do(w, ask(r.Key)); e != api.OK || !same(made, w) || !sameAnswer(a, told(r.Key, g.Is, g.States...)) {
				t.Errorf("CState of %v at %d: %v", r, now, a)
			}
		}
	}
}

func TestSync(t *testing.T) {
	for _, w := range sound() {
		if g, a := Do(w, api.Command{Kind: api.CSync}); !same(g, w) || !sameAnswer(a, api.Answer{}) {
			t.Errorf("CSync of %v: %v, %v", w, g, a)
		}
	}
}

// Fields that a kind does not name may hold whatever they like.
func TestFieldsThatAreNotNamed(t *testing.T) {
	n := noise(201)
	kept := map[int]func(from, to *api.Command){
		api.CDag:    func(from, to *api.Command) { to.Dag = from.Dag },
		api.CStart:  func(from, to *api.Command) { to.Key, to.Name = from.Key, from.Name },
		api.CPoll:   func(from, to *api.Command) {},
		api.CBeat:   func(from, to *api.Command) { to.Token = from.Token },
		api.CDone:   func(from, to *api.Command) { to.Token, to.Text = from.Token, from.Text },
		api.CFail:   func(from, to *api.Command) { to.Token = from.Token },
		api.CCancel: func(from, to *api.Command) { to.Key = from.Key },
		api.CTick:   func(from, to *api.Command) { to.Time = from.Time },
		api.CState:  func(from, to *api.Command) { to.Key = from.Key },
		api.CSync:   func(from, to *api.Command) {},
		11:          func(from, to *api.Command) {},
	}
	all := sound()
	for i, c := range commands() {
		keep, has := kept[c.Kind]
		if !has {
			continue
		}
		w := all[i%len(all)]
		bare := api.Command{Kind: c.Kind}
		keep(&c, &bare)
		want, answer := Do(w, bare)
		for range 20 {
			other := asked(&n, c.Kind)
			keep(&c, &other)
			if g, a := Do(w, other); !same(g, want) || !sameAnswer(a, answer) {
				t.Fatalf("Do(%v, %v) = %v, %v; without the other fields %v, %v", w, other, g, a, want, answer)
			}
		}
	}
}

// P20.2

func TestFold(t *testing.T) {
	for _, none := range [][]api.Command{nil, {}} {
		if w, as := Fold(none...); !same(w, api.World{}) || len(as) != 0 {
			t.Errorf("Fold of no command: %v, %v", w, as)
		}
	}
	if w, as := Fold(api.Command{}); !same(w, api.World{}) || !slices.EqualFunc(as, []api.Answer{why(api.ErrFrame)}, sameAnswer) {
		t.Errorf("Fold of one that is none: %v, %v", w, as)
	}
	w, as := Fold(
		api.Command{Kind: api.CStart, Key: "k", Name: "g"},
		api.Command{Kind: api.CDag, Dag: row("g")},
		api.Command{Kind: api.CStart, Key: "k", Name: "g"},
		api.Command{Kind: api.CTick, Time: 4},
		api.Command{Kind: api.CPoll},
		api.Command{Kind: 12},
		api.Command{Kind: api.CDone, Token: 1, Text: "ok"},
		api.Command{Kind: api.CDone, Token: 1, Text: "no"},
		api.Command{Kind: api.CPoll},
		api.Command{Kind: api.CState, Key: "k"},
		api.Command{Kind: api.CTick, Time: 9},
		api.Command{Kind: api.CState, Key: "k"},
		api.Command{Kind: api.CSync},
	)
	answers := []api.Answer{
		why(api.ErrDag), {}, {}, {}, {Key: "k", Token: 1}, why(api.ErrFrame), {Key: "k"}, why(api.ErrToken), {Key: "k", Task: 1, Token: 2},
		{Key: "k", States: []api.State{ok(), held(1, 9, 2)}}, {}, {Key: "k", States: []api.State{ok(), dueAt(1, 12)}}, {},
	}
	made := api.World{Now: 9, Token: 2, Dags: []api.Dag{row("g")}, Runs: []api.Run{of("k", row("g"), api.RGoes, ok(), held(1, 9, 2))}}
	if !same(w, made) || !slices.EqualFunc(as, answers, sameAnswer) {
		t.Errorf("Fold: %v, %v; want %v, %v", w, as, made, answers)
	}
}

// Many commands: a world is filled to its bounds, and no further.
func TestFoldOfMany(t *testing.T) {
	var all []api.Command
	for i := range 20 {
		all = append(all, api.Command{Kind: api.CDag, Dag: row(number("g", 19-i))})
	}
	for i := range 70 {
		all = append(all, api.Command{Kind: api.CStart, Key: number("k", (i*37)%70), Name: "g19"})
	}
	for range 70 {
		all = append(all, api.Command{Kind: api.CPoll})
	}
	w, as := Fold(all...)
	if len(w.Dags) != 16 || len(w.Runs) != 64 || w.Token != 64 || !Right(w) {
		t.Errorf("%d graphs, %d runs, token %d", len(w.Dags), len(w.Runs), w.Token)
	}
	for i, a := range as {
		want := api.OK
		switch {
		case i >= 16 && i < 20, i >= 84 && i < 90:
			want = api.ErrLong
		case i >= 154:
			want = api.ErrIdle
		}
		if a.Why != want {
			t.Errorf("answer %d: %v; want %d", i, a, want)
		}
		if i >= 90 && i < 154 && (a.Token != i-89 || a.Key != w.Runs[i-90].Key) {
			t.Errorf("lease %d: %v", i-89, a)
		}
	}
}
