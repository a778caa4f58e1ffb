package run

import (
	"slices"
	"strings"
	"testing"

	"penelope/api"
	"penelope/dag"
)

// row is a graph of two tasks, of which the second needs the first.
func row() api.Dag { return graph(nil, []int{0}) }

// diamond is one of four: two tasks need the first, the last one needs these two.
func diamond() api.Dag { return graph(nil, []int{0}, []int{0}, []int{1, 2}) }

func mustNew(t *testing.T, key string, d api.Dag) api.Run {
	t.Helper()
	r, e := New(key, d)
	if e != api.OK {
		t.Fatalf("New of %v: %d", d, e)
	}
	return r
}

// mustLease leases the task that is expected.
func mustLease(t *testing.T, r api.Run, now, token, want int) api.Run {
	t.Helper()
	g, i, e := Lease(r, now, token)
	if e != api.OK || i != want {
		t.Fatalf("Lease(%v, %d, %d): %d, %d; want task %d", r, now, token, i, e, want)
	}
	return g
}

func mustDone(t *testing.T, r api.Run, now, token int, result string) api.Run {
	t.Helper()
	g, e := Done(r, now, token, result)
	if e != api.OK {
		t.Fatalf("Done(%v, %d, %d): %d", r, now, token, e)
	}
	return g
}

// want holds a run against how it and its States should be.
func want(t *testing.T, name string, r api.Run, e api.Errno, is int, states ...api.State) {
	t.Helper()
	if e != api.OK || r.Is != is || !slices.Equal(r.States, states) {
		t.Errorf("%s: %d, %#v, %d; want %d, %#v", name, r.Is, r.States, e, is, states)
	}
}

// The chapter's examples

func TestExamples(t *testing.T) {
	r, e := New("k", row())
	want(t, "New", r, e, api.RGoes, dueAt(0, 0), waits())
	r = mustDone(t, mustLease(t, r, 0, 1, 0), 0, 1, "")
	want(t, "Lease at 0 with 1, Done 1", r, e, api.RGoes, api.State{Is: api.SDone, Tried: 1}, dueAt(0, 0))
	r = mustDone(t, mustLease(t, r, 0, 2, 1), 0, 2, "")
	want(t, "Lease with 2, Done 2", r, e, api.RDone, api.State{Is: api.SDone, Tried: 1}, api.State{Is: api.SDone, Tried: 1})
}

// P19.1

func TestRightOfKeys(t *testing.T) {
	for _, c := range []struct {
		name string
		key  string
		want bool
	}{
		{"0 bytes", "", false},
		{"1 byte", "k", true},
		{"16 bytes", strings.Repeat("k", 16), true},
		{"17 bytes", strings.Repeat("k", 17), false},
		{"65536 bytes", strings.Repeat("k", 65536), false},
		{"8 characters in 16 bytes", strings.Repeat("ü", 8), true},
		{"9 characters in 18 bytes", strings.Repeat("ü", 9), false},
		{"zero bytes", "\x00", true},
		{"bytes that are no characters", "\xff\xc0", true},
	} {
		r := of(row(), api.RGoes, dueAt(0, 0), waits())
		r.Key = c.key
		if Right(r) != c.want {
			t.Errorf("Right of a key of %s: %t", c.name, !c.want)
		}
		made, e := New(c.key, row())
		if c.want && (e != api.OK || !same(made, r)) || !c.want && (e != api.ErrArg || !isZero(made)) {
			t.Errorf("New of a key of %s: %v, %d", c.name, made, e)
		}
	}
}

// wrongDags are graphs that may not be, each with States that would fit it.
func wrongDags() []api.Dag {
	named := func(name string) api.Dag {
		d := row()
		d.Name = name
		return d
	}
	with := func(change func(*api.Task)) api.Dag {
		d := row()
		change(&d.Tasks[1])
		return d
	}
	return []api.Dag{
		named(""),
		named(strings.Repeat("g", 17)),
		loose(0),
		loose(11),
		graph([]int{0}),
		graph([]int{1}, []int{0}),
		graph(nil, []int{2}),
		graph(nil, []int{-1}),
		graph(nil, []int{0, 0}),
		with(func(t *api.Task) { t.Tries = 0 }),
		with(func(t *api.Task) { t.Tries = 9 }),
		with(func(t *api.Task) { t.Wait = -1 }),
		with(func(t *api.Task) { t.Wait = 1<<20 + 1 }),
		with(func(t *api.Task) { t.Lease = 0 }),
		with(func(t *api.Task) { t.Lease = highest }),
	}
}

func TestWrongGraphs(t *testing.T) {
	told := map[api.Errno]int{}
	for _, d := range wrongDags() {
		states := make([]api.State, len(d.Tasks))
		for i := range states {
			if len(d.Tasks[i].Needs) == 0 {
				states[i].Is = api.SDue
			}
		}
		for is := range 4 {
			if r := of(d, is, states...); Right(r) {
				t.Errorf("Right(%v)", r)
			}
		}
		r, e := New("k", d)
		if e == api.OK || e != dag.Right(d) || !isZero(r) {
			t.Errorf("New of %v: %v, %d; want %d", d, r, e, dag.Right(d))
		}
		told[e]++
		// Both errors: that of the key comes first.
		for _, key := range []string{"", strings.Repeat("k", 17)} {
			if r, e := New(key, d); e != api.ErrArg || !isZero(r) {
				t.Errorf("New of %v with a key of %d bytes: %v, %d", d, len(key), r, e)
			}
		}
	}
	for _, e := range []api.Errno{api.ErrArg, api.ErrLong, api.ErrCycle} {
		if told[e] == 0 {
			t.Errorf("no graph tells %d", e)
		}
	}
}

func TestRightOfStates(t *testing.T) {
	d, two, four := row(), loose(2), diamond()
	done := api.State{Is: api.SDone, Tried: 2}
	for _, c := range []struct {
		name string
		r    api.Run
		want bool
	}{
		{"as it begins", of(d, api.RGoes, dueAt(0, 0), waits()), true},
		{"no States", of(d, api.RGoes), false},
		{"one State too few", of(d, api.RGoes, dueAt(0, 0)), false},
		{"one State too many", of(d, api.RGoes, dueAt(0, 0), waits(), waits()), false},
		{"many States too many", of(d, api.RGoes, make([]api.State, 1000)...), false},
		{"all done, one State too few", of(d, api.RDone, ok()), false},
		{"all done, one State too many", of(d, api.RDone, ok(), ok(), ok()), false},

		{"a State that waits with a Due", of(d, api.RGoes, dueAt(0, 0), api.State{Due: 1}), false},
		{"a State that was tried too often", of(d, api.RGoes, dueAt(2, 0), waits()), false},
		{"a State that was tried once less", of(d, api.RGoes, dueAt(1, 0), waits()), true},
		{"a State of no kind", of(d, api.RGoes, dueAt(0, 0), api.State{Is: 6}), false},
		{"a State of a kind below", of(d, api.RGoes, api.State{Is: -1}, waits()), false},
		{"a State that is held without a Token", of(d, api.RGoes, held(1, 5, 0), waits()), false},
		{"a State that is due with a Token", of(d, api.RGoes, api.State{Is: api.SDue, Token: 1}, waits()), false},
		{"the last State may not be", of(four, api.RGoes, ok(), ok(), dueAt(0, 0), api.State{Tried: 1}), false},
		{"the last State may be", of(four, api.RGoes, ok(), ok(), dueAt(0, 0), waits()), true},

		{"two with one Token", of(two, api.RGoes, held(1, 5, 7), held(1, 5, 7)), false},
		{"two with one Token, otherwise apart", of(two, api.RGoes, held(1, 5, 7), held(2, 9, 7)), false},
		{"the first and the last with one Token", of(loose(3), api.RGoes, held(1, 5, 7), held(1, 5, 8), held(1, 5, 7)), false},
		{"two with the last Token", of(two, api.RGoes, held(1, 5, end), held(1, 5, end)), false},
		{"two with Tokens apart", of(two, api.RGoes, held(1, 5, 7), held(1, 5, 8)), true},
		{"two with Token 0", of(two, api.RGoes, dueAt(0, 0), dueAt(0, 0)), true},
		{"two with Token 0, one without", of(loose(3), api.RGoes, dueAt(0, 0), held(1, 5, 7), ok()), true},

		{"SWait though it is free", of(d, api.RGoes, waits(), waits()), false},
		{"SWait though what it needs is done", of(d, api.RGoes, ok(), waits()), false},
		{"SWait though all that it needs is done", of(four, api.RGoes, ok(), ok(), ok(), waits()), false},
		{"SWait, some that it needs not done", of(four, api.RGoes, ok(), held(1, 5, 7), ok(), waits()), true},
		{"SDue, what it needs not done", of(d, api.RGoes, dueAt(0, 0), dueAt(0, 0)), false},
		{"SDue, some that it needs not done", of(four, api.RGoes, ok(), ok(), dueAt(0, 0), dueAt(0, 0)), false},
		{"SHeld, what it needs not done", of(d, api.RGoes, dueAt(0, 0), held(1, 5, 7)), false},
		{"SHeld, what it needs held", of(d, api.RGoes, held(1, 5, 8), held(1, 5, 7)), false},
		{"SDone, what it needs not done", of(d, api.RGoes, dueAt(0, 0), ok()), false},
		{"SDone, what it needs cancelled", of(d, api.RGone, gone(0), ok()), false},
		{"SDone, what it needs lost", of(d, api.RLost, lost(), ok()), false},
		{"SLost, what it needs cancelled", of(d, api.RLost, gone(0), lost()), false},
		{"SLost, what it needs lost", of(d, api.RLost, lost(), lost()), false},
		{"SLost, what it needs done", of(d, api.RLost, ok(), lost()), true},
		{"SGone, what it needs done", of(d, api.RGone, ok(), gone(1)), true},
		{"SGone, what it needs cancelled", of(d, api.RGone, gone(1), gone(0)), true},
		{"SGone, what it needs lost", of(d, api.RLost, lost(), gone(0)), true},

		{"two are lost", of(two, api.RLost, lost(), lost()), true},
		{"done at the last try", of(two, api.RDone, done, done), true},
	} {
		if Right(c.r) != c.want {
			t.Errorf("%s: %t", c.name, !c.want)
		}
	}
}

// Each way a run can be, with States of which only one fits.
func TestRightOfHowARunIs(t *testing.T) {
	const none = -9
	for _, c := range []struct {
		name   string
		states []api.State
		is     int
	}{
		{"none begun", []api.State{dueAt(0, 0), dueAt(0, 0), waits()}, api.RGoes},
		{"one held", []api.State{held(1, 5, 7), dueAt(0, 0), waits()}, api.RGoes},
		{"all held", []api.State{held(1, 5, 7), held(1, 5, 8), waits()}, api.RGoes},
		{"one done", []api.State{ok(), held(1, 5, 8), dueAt(0, 0)}, api.RGoes},
		{"all but the last done", []api.State{ok(), ok(), dueAt(1, 9)}, api.RGoes},
		{"all but the last done, which is held", []api.State{ok(), ok(), held(2, 9, 1)}, api.RGoes},
		{"all done", []api.State{ok(), ok(), ok()}, api.RDone},
		{"one lost", []api.State{lost(), gone(0), gone(0)}, api.RLost},
		{"one lost, others done", []api.State{ok(), ok(), lost()}, api.RLost},
		{"one lost, others done and cancelled", []api.State{ok(), gone(1), lost()}, api.RLost},
		{"two lost", []api.State{lost(), lost(), gone(0)}, api.RLost},
		{"all cancelled", []api.State{gone(0), gone(2), gone(0)}, api.RGone},
		{"one cancelled, others done", []api.State{ok(), ok(), gone(1)}, api.RGone},
		{"one done, others cancelled", []api.State{ok(), gone(0), gone(0)}, api.RGone},
		{"one lost, one waits", []api.State{lost(), gone(0), waits()}, none},
		{"one lost, one due", []api.State{lost(), dueAt(0, 0), gone(0)}, none},
		{"one lost, one held", []api.State{lost(), held(1, 5, 7), gone(0)}, none},
		{"one cancelled, one waits", []api.State{gone(0), ok(), waits()}, none},
		{"one cancelled, one due", []api.State{ok(), gone(0), dueAt(0, 0)}, none},
		{"one cancelled, one held", []api.State{held(1, 5, 7), gone(0), gone(0)}, none},
	} {
		d := graph(nil, nil, []int{0})
		for _, is := range []int{lowest, -1, 0, 1, 2, 3, 4, 256, highest} {
			if got := Right(of(d, is, c.states...)); got != (is == c.is) {
				t.Errorf("%s, Is %d: %t", c.name, is, got)
			}
		}
	}
}

func TestNew(t *testing.T) {
	for _, c := range []struct {
		name string
		d    api.Dag
		want []api.State
	}{
		{"one task", loose(1), []api.State{dueAt(0, 0)}},
		{"ten tasks", loose(10), slices.Repeat([]api.State{dueAt(0, 0)}, 10)},
		{"a row", row(), []api.State{dueAt(0, 0), waits()}},
		{"a row from behind", graph([]int{1}, []int{2}, nil), []api.State{waits(), waits(), dueAt(0, 0)}},
		{"two ways", diamond(), []api.State{dueAt(0, 0), waits(), waits(), waits()}},
		{"two beginnings", graph(nil, []int{0}, nil, []int{2}), []api.State{dueAt(0, 0), waits(), dueAt(0, 0), waits()}},
	} {
		r, e := New("k", c.d)
		want(t, c.name, r, e, api.RGoes, c.want...)
		if !Right(r) || r.Key != "k" || !sameDag(r.Dag, c.d) {
			t.Errorf("%s: %v", c.name, r)
		}
	}
}

func TestSettleAtEdgesOfTime(t *testing.T) {
	at := func(due int) api.State { return held(1, due, 7) }
	for _, c := range []struct {
		name string
		s    api.State
		now  int
		want api.State
	}{
		{"one ahead of Due", at(15), 14, at(15)},
		{"at Due", at(15), 15, dueAt(1, 18)},
		{"one behind Due", at(15), 16, dueAt(1, 18)},
		{"long behind Due", at(15), 1 << 30, dueAt(1, 18)},
		{"at 0", at(15), 0, at(15)},
		{"ahead of all time", at(15), -1, at(15)},
		{"at the lowest number", at(15), lowest, at(15)},
		{"at the end of time", at(15), end, dueAt(1, 18)},
		{"at the greatest number", at(15), highest, dueAt(1, 18)},
		{"held until 0, at 0", at(0), 0, dueAt(1, 3)},
		{"held until 0, ahead of all time", at(0), -1, dueAt(1, 3)},
		{"held until 0, at the lowest number", at(0), lowest, dueAt(1, 3)},
		{"held until 1, ahead of all time", at(1), -1, at(1)},
		{"held until the end of time, one ahead", at(end), end - 1, at(end)},
		{"held until the end of time, there", at(end), end, dueAt(1, end)},
		{"held until the end of time, one behind", at(end), end + 1, dueAt(1, end)},
		{"held until the end of time, at the greatest number", at(end), highest, dueAt(1, end)},
		{"what is due stays", dueAt(1, 3), 15, dueAt(1, 3)},
		{"what is due later stays", dueAt(1, 30), 15, dueAt(1, 30)},
	} {
		r, e := Settle(of(row(), api.RGoes, c.s, waits()), c.now)
		want(t, c.name, r, e, api.RGoes, c.want, waits())
	}
}

func TestSettleOfSeveralLeases(t *testing.T) {
	three := loose(3)
	for _, c := range []struct {
		name   string
		now    int
		before []api.State
		is     int
		after  []api.State
	}{
		{"all over", 20, []api.State{held(1, 12, 7), held(1, 10, 8), held(1, 11, 9)}, api.RGoes,
			[]api.State{dueAt(1, 15), dueAt(1, 13), dueAt(1, 14)}},
		{"some over", 11, []api.State{held(1, 12, 7), held(1, 10, 8), held(1, 11, 9)}, api.RGoes,
			[]api.State{held(1, 12, 7), dueAt(1, 13), dueAt(1, 14)}},
		{"none over", 9, []api.State{held(1, 12, 7), held(1, 10, 8), held(1, 11, 9)}, api.RGoes,
			[]api.State{held(1, 12, 7), held(1, 10, 8), held(1, 11, 9)}},
		{"the least Due is lost", 20, []api.State{held(2, 12, 7), held(2, 10, 8), held(2, 11, 9)}, api.RLost,
			[]api.State{gone(2), lost(), gone(2)}},
		{"the least Due, at its time", 10, []api.State{held(2, 12, 7), held(2, 10, 8), held(2, 11, 9)}, api.RLost,
			[]api.State{gone(2), lost(), gone(2)}},
		{"the last one has the least Due", 20, []api.State{held(2, 12, 9), held(2, 11, 8), held(2, 10, 7)}, api.RLost,
			[]api.State{gone(2), gone(2), lost()}},
		{"one Due: the first one is lost", 20, []api.State{held(2, 10, 9), held(2, 10, 8), held(2, 10, 7)}, api.RLost,
			[]api.State{lost(), gone(2), gone(2)}},
		{"one Due of two: the first of them", 20, []api.State{held(2, 11, 9), held(2, 10, 8), held(2, 10, 7)}, api.RLost,
			[]api.State{gone(2), lost(), gone(2)}},
		{"one goes on, then one is lost", 20, []api.State{held(2, 12, 7), held(1, 10, 8), held(1, 11, 9)}, api.RLost,
			[]api.State{lost(), gone(1), gone(1)}},
		{"one is lost ahead of others that are over", 20, []api.State{held(1, 12, 7), held(2, 10, 8), held(1, 11, 9)}, api.RLost,
			[]api.State{gone(1), lost(), gone(1)}},
		{"one is lost while others are held", 10, []api.State{held(1, 12, 7), held(2, 10, 8), held(1, 30, 9)}, api.RLost,
			[]api.State{gone(1), lost(), gone(1)}},
		{"one is lost while others are due", 10, []api.State{dueAt(0, 0), held(2, 10, 8), dueAt(1, 30)}, api.RLost,
			[]api.State{gone(0), lost(), gone(1)}},
		{"what is done stays when one is lost", 10, []api.State{ok(), held(2, 10, 8), {Is: api.SDone, Tried: 2}}, api.RLost,
			[]api.State{ok(), lost(), {Is: api.SDone, Tried: 2}}},
	} {
		r, e := Settle(of(three, api.RGoes, c.before...), c.now)
		want(t, c.name, r, e, c.is, c.after...)
		if !Right(r) {
			t.Errorf("%s: %v", c.name, r)
		}
	}
	r, e := Settle(of(diamond(), api.RGoes, ok(), held(2, 10, 8), held(1, 9, 7), waits()), 10)
	want(t, "what waits is cancelled", r, e, api.RLost, ok(), lost(), gone(1), gone(0))
}

// P19.2

func TestLease(t *testing.T) {
	for _, c := range []struct {
		name       string
		r          api.Run
		now, token int
		task       int
		want       []api.State
	}{
		{"at 0", of(row(), 0, dueAt(0, 0), waits()), 0, 1, 0, []api.State{held(1, 5, 1), waits()}},
		{"ahead of all time", of(row(), 0, dueAt(0, 0), waits()), lowest, 1, 0, []api.State{held(1, 5, 1), waits()}},
		{"at the greatest number", of(row(), 0, dueAt(0, 0), waits()), highest, 1, 0, []api.State{held(1, end, 1), waits()}},
		{"the last token", of(row(), 0, dueAt(0, 0), waits()), 0, end, 0, []api.State{held(1, 5, end), waits()}},
		{"at Due", of(row(), 0, dueAt(1, 18), waits()), 18, 1, 0, []api.State{held(2, 23, 1), waits()}},
		{"one behind Due", of(row(), 0, dueAt(1, 18), waits()), 19, 1, 0, []api.State{held(2, 24, 1), waits()}},
		{"due at the end of time", of(row(), 0, dueAt(1, end), waits()), end + 1, 1, 0, []api.State{held(2, end, 1), waits()}},
		{"the first of three", of(loose(3), 0, dueAt(0, 0), dueAt(0, 0), dueAt(0, 0)), 3, 1, 0, []api.State{held(1, 8, 1), dueAt(0, 0), dueAt(0, 0)}},
		{"the first, though others are due longer", of(loose(3), 0, dueAt(1, 3), dueAt(1, 2), dueAt(0, 0)), 3, 1, 0, []api.State{held(2, 8, 1), dueAt(1, 2), dueAt(0, 0)}},
		{"the second, as the first is due later", of(loose(3), 0, dueAt(1, 4), dueAt(1, 3), dueAt(0, 0)), 3, 1, 1, []api.State{dueAt(1, 4), held(2, 8, 1), dueAt(0, 0)}},
		{"the third, as others are held or done", of(loose(3), 0, held(1, 4, 9), ok(), dueAt(0, 0)), 3, 1, 2, []api.State{held(1, 4, 9), ok(), held(1, 8, 1)}},
		{"the last of four", of(diamond(), 0, ok(), ok(), ok(), dueAt(1, 3)), 3, 1, 3, []api.State{ok(), ok(), ok(), held(2, 8, 1)}},
		{"a lease was over, and waits", of(loose(2), 0, held(1, 5, 9), dueAt(0, 0)), 7, 1, 1, []api.State{dueAt(1, 8), held(1, 12, 1)}},
		{"a lease was over, and is due again", of(loose(2), 0, held(1, 5, 9), dueAt(0, 0)), 8, 1, 0, []api.State{held(2, 13, 1), dueAt(0, 0)}},
		{"the token of a lease that is over", of(loose(2), 0, held(1, 5, 9), dueAt(0, 0)), 5, 9, 1, []api.State{dueAt(1, 8), held(1, 10, 9)}},
	} {
		r, i, e := Lease(c.r, c.now, c.token)
		want(t, c.name, r, e, api.RGoes, c.want...)
		if i != c.task || !Right(r) {
			t.Errorf("%s: task %d of %v; want %d", c.name, i, r, c.task)
		}
	}
}

func TestWhyNoLease(t *testing.T) {
	wrong := of(row(), api.RDone, dueAt(0, 0), waits())
	for _, c := range []struct {
		name       string
		r          api.Run
		now, token int
		why        api.Errno
	}{
		{"token 0", of(row(), 0, dueAt(0, 0), waits()), 0, 0, api.ErrArg},
		{"token below 0", of(row(), 0, dueAt(0, 0), waits()), 0, -1, api.ErrArg},
		{"the lowest token", of(row(), 0, dueAt(0, 0), waits()), 0, lowest, api.ErrArg},
		{"a token behind the last one", of(row(), 0, dueAt(0, 0), waits()), 0, end + 1, api.ErrArg},
		{"the greatest token", of(row(), 0, dueAt(0, 0), waits()), 0, highest, api.ErrArg},
		{"a token that a State has", of(loose(2), 0, held(1, 5, 9), dueAt(0, 0)), 4, 9, api.ErrArg},
		{"a token that the last State has", of(loose(3), 0, dueAt(0, 0), held(1, 5, 9), held(1, 5, 8)), 4, 8, api.ErrArg},
		{"one ahead of Due", of(row(), 0, dueAt(1, 18), waits()), 17, 1, api.ErrIdle},
		{"due at 1, ahead of all time", of(row(), 0, dueAt(1, 1), waits()), -1, 1, api.ErrIdle},
		{"due at the end of time, one ahead", of(row(), 0, dueAt(1, end), waits()), end - 1, 1, api.ErrIdle},
		{"all held", of(row(), 0, held(1, 5, 9), waits()), 4, 1, api.ErrIdle},
		{"a lease is over, and waits", of(row(), 0, held(1, 5, 9), waits()), 5, 1, api.ErrIdle},
		{"a lease is over, and was the last", of(loose(2), 0, held(2, 5, 9), dueAt(0, 0)), 5, 1, api.ErrIdle},
		{"done", of(row(), api.RDone, ok(), ok()), 5, 1, api.ErrIdle},
		{"lost", of(row(), api.RLost, lost(), gone(0)), 5, 1, api.ErrIdle},
		{"cancelled", of(row(), api.RGone, gone(0), gone(0)), 5, 1, api.ErrIdle},
		{"a run that may not be", wrong, 0, 1, api.ErrArg},
		{"the zero run", api.Run{}, 0, 1, api.ErrArg},

		// Several errors: that of the token comes ahead of none that is due.
		{"done, token 0", of(row(), api.RDone, ok(), ok()), 5, 0, api.ErrArg},
		{"lost, a token behind the last one", of(row(), api.RLost, lost(), gone(0)), 5, end + 1, api.ErrArg},
		{"cancelled, token below 0", of(row(), api.RGone, gone(0), gone(0)), 5, -1, api.ErrArg},
		{"ahead of Due, token 0", of(row(), 0, dueAt(1, 18), waits()), 17, 0, api.ErrArg},
		{"all held, a token that a State has", of(row(), 0, held(1, 5, 9), waits()), 4, 9, api.ErrArg},
		{"all held, the token of a lease that is over", of(row(), 0, held(1, 5, 9), waits()), 5, 9, api.ErrIdle},
		{"a lease was the last, a token that was cancelled with it", of(loose(2), 0, held(2, 5, 9), held(1, 7, 8)), 5, 8, api.ErrIdle},
		{"a run that may not be, token 0", wrong, 0, 0, api.ErrArg},
	} {
		if r, i, e := Lease(c.r, c.now, c.token); !isZero(r) || i != 0 || e != c.why {
			t.Errorf("%s: %v, %d, %d; want %d", c.name, r, i, e, c.why)
		}
	}
}

// P19.3

func TestBeat(t *testing.T) {
	two := loose(2)
	for _, c := range []struct {
		name       string
		before     []api.State
		now, token int
		after      []api.State
	}{
		{"one ahead of Due", []api.State{held(1, 15, 7), dueAt(0, 0)}, 14, 7, []api.State{held(1, 19, 7), dueAt(0, 0)}},
		{"so that it is over sooner", []api.State{held(1, 15, 7), dueAt(0, 0)}, 2, 7, []api.State{held(1, 7, 7), dueAt(0, 0)}},
		{"ahead of all time", []api.State{held(1, 15, 7), dueAt(0, 0)}, lowest, 7, []api.State{held(1, 5, 7), dueAt(0, 0)}},
		{"the second one", []api.State{held(1, 15, 7), held(2, 15, 8)}, 14, 8, []api.State{held(1, 15, 7), held(2, 19, 8)}},
		{"the last token", []api.State{held(1, 15, 7), held(2, 15, end)}, 14, end, []api.State{held(1, 15, 7), held(2, 19, end)}},
		{"up to the end of time", []api.State{held(1, end, 7), dueAt(0, 0)}, end - 1, 7, []api.State{held(1, end, 7), dueAt(0, 0)}},
		{"another one is over", []api.State{held(1, 14, 7), held(2, 15, 8)}, 14, 8, []api.State{dueAt(1, 17), held(2, 19, 8)}},
	} {
		r, e := Beat(of(two, api.RGoes, c.before...), c.now, c.token)
		want(t, c.name, r, e, api.RGoes, c.after...)
	}
}

func TestDone(t *testing.T) {
	done := func(result string) api.State { return api.State{Is: api.SDone, Tried: 1, Result: result} }
	long := strings.Repeat("r", 16)
	for _, c := range []struct {
		name   string
		r      api.Run
		now    int
		result string
		is     int
		want   []api.State
	}{
		{"what needs it is due", of(row(), 0, held(1, 15, 7), waits()), 14, "ok", api.RGoes, []api.State{done("ok"), dueAt(0, 0)}},
		{"no result", of(row(), 0, held(1, 15, 7), waits()), 14, "", api.RGoes, []api.State{done(""), dueAt(0, 0)}},
		{"16 bytes", of(row(), 0, held(1, 15, 7), waits()), 14, long, api.RGoes, []api.State{done(long), dueAt(0, 0)}},
		{"zero bytes", of(row(), 0, held(1, 15, 7), waits()), 14, "\x00", api.RGoes, []api.State{done("\x00"), dueAt(0, 0)}},
		{"ahead of all time", of(row(), 0, held(1, 15, 7), waits()), lowest, "ok", api.RGoes, []api.State{done("ok"), dueAt(0, 0)}},
		{"at the last try", of(row(), 0, held(2, 15, 7), waits()), 14, "ok", api.RGoes, []api.State{{Is: api.SDone, Tried: 2, Result: "ok"}, dueAt(0, 0)}},
		{"the only task", of(loose(1), 0, held(1, 15, 7)), 14, "ok", api.RDone, []api.State{done("ok")}},
		{"the last one", of(row(), 0, ok(), held(1, 15, 7)), 14, "r", api.RDone, []api.State{ok(), done("r")}},
		{"the last one, that is needed by none", of(loose(2), 0, held(1, 15, 7), ok()), 14, "r", api.RDone, []api.State{done("r"), ok()}},
		{"two are due behind it", of(diamond(), 0, held(1, 15, 7), waits(), waits(), waits()), 14, "ok", api.RGoes, []api.State{ok(), dueAt(0, 0), dueAt(0, 0), waits()}},
		{"one of two that another needs", of(diamond(), 0, ok(), held(1, 15, 7), dueAt(0, 0), waits()), 14, "ok", api.RGoes, []api.State{ok(), ok(), dueAt(0, 0), waits()}},
		{"the other of two", of(diamond(), 0, ok(), ok(), held(1, 15, 7), waits()), 14, "ok", api.RGoes, []api.State{ok(), ok(), ok(), dueAt(0, 0)}},
		{"others go on", of(loose(3), 0, held(1, 20, 8), held(1, 15, 7), dueAt(1, 9)), 14, "ok", api.RGoes, []api.State{held(1, 20, 8), ok(), dueAt(1, 9)}},
		{"another lease is over", of(loose(2), 0, held(1, 14, 8), held(1, 15, 7)), 14, "ok", api.RGoes, []api.State{dueAt(1, 17), ok()}},
	} {
		r, e := Done(c.r, c.now, 7, c.result)
		want(t, c.name, r, e, c.is, c.want...)
		if !Right(r) {
			t.Errorf("%s: %v", c.name, r)
		}
	}
}

func TestFail(t *testing.T) {
	for _, c := range []struct {
		name string
		r    api.Run
		now  int
		is   int
		want []api.State
	}{
		{"the first time", of(row(), 0, held(1, 15, 7), waits()), 14, api.RGoes, []api.State{dueAt(1, 17), waits()}},
		{"ahead of all time", of(row(), 0, held(1, 15, 7), waits()), -1, api.RGoes, []api.State{dueAt(1, 3), waits()}},
		{"up to the end of time", of(row(), 0, held(1, end, 7), waits()), end - 1, api.RGoes, []api.State{dueAt(1, end), waits()}},
		{"the last time: what needs it is cancelled", of(row(), 0, held(2, 15, 7), waits()), 14, api.RLost, []api.State{lost(), gone(0)}},
		{"the last time, the only task", of(loose(1), 0, held(2, 15, 7)), 14, api.RLost, []api.State{lost()}},
		{"the last time: others are cancelled", of(loose(3), 0, held(1, 20, 8), held(2, 15, 7), dueAt(1, 9)), 14, api.RLost, []api.State{gone(1), lost(), gone(1)}},
		{"the last time: what is done stays", of(diamond(), 0, ok(), ok(), held(2, 15, 7), waits()), 14, api.RLost, []api.State{ok(), ok(), lost(), gone(0)}},
		{"the last time, of the last task", of(row(), 0, ok(), held(2, 15, 7)), 14, api.RLost, []api.State{ok(), lost()}},
		{"another lease is over", of(loose(2), 0, held(1, 14, 8), held(1, 15, 7)), 14, api.RGoes, []api.State{dueAt(1, 17), dueAt(1, 17)}},
	} {
		r, e := Fail(c.r, c.now, 7)
		want(t, c.name, r, e, c.is, c.want...)
		if !Right(r) {
			t.Errorf("%s: %v", c.name, r)
		}
	}
}

func TestWhyNoAnswerCounts(t *testing.T) {
	go1 := of(loose(2), 0, held(1, 15, 7), dueAt(0, 0))
	ends := of(loose(2), 0, held(1, 20, 7), held(2, 15, 8))
	wrong := of(loose(2), 0, held(1, 15, 7), held(1, 15, 7))
	for _, c := range []struct {
		name       string
		r          api.Run
		now, token int
		why        api.Errno
	}{
		{"a token that none has", go1, 4, 8, api.ErrToken},
		{"token 0", go1, 4, 0, api.ErrToken},
		{"token below 0", go1, 4, -7, api.ErrToken},
		{"the lowest token", go1, 4, lowest, api.ErrToken},
		{"the last token", go1, 4, end, api.ErrToken},
		{"a token behind the last one", go1, 4, end + 1, api.ErrToken},
		{"the greatest token", go1, 4, highest, api.ErrToken},
		{"at Due", go1, 15, 7, api.ErrToken},
		{"one behind Due", go1, 16, 7, api.ErrToken},
		{"at the greatest number", go1, highest, 7, api.ErrToken},
		{"held until 0, ahead of all time", of(loose(1), 0, held(1, 0, 7)), lowest, 7, api.ErrToken},
		{"another lease ended the run", ends, 15, 7, api.ErrToken},
		{"none held", of(row(), 0, dueAt(0, 0), waits()), 4, 7, api.ErrToken},
		{"done", of(row(), api.RDone, ok(), ok()), 4, 7, api.ErrToken},
		{"lost", of(row(), api.RLost, lost(), gone(0)), 4, 7, api.ErrToken},
		{"cancelled", of(row(), api.RGone, gone(1), gone(0)), 4, 7, api.ErrToken},
		{"done, token 0", of(row(), api.RDone, ok(), ok()), 4, 0, api.ErrToken},
		{"a run that may not be", wrong, 4, 7, api.ErrArg},
		{"a run that may not be, a token that none has", wrong, 4, 8, api.ErrArg},
		{"a run that is not as it says", of(loose(1), api.RGone, held(1, 15, 7)), 4, 7, api.ErrArg},
		{"the zero run", api.Run{}, 4, 7, api.ErrArg},
	} {
		hold := func(name string, r api.Run, e api.Errno) {
			t.Helper()
			if !isZero(r) || e != c.why {
				t.Errorf("%s, %s: %v, %d; want %d", name, c.name, r, e, c.why)
			}
		}
		r, e := Beat(c.r, c.now, c.token)
		hold("Beat", r, e)
		r, e = Fail(c.r, c.now, c.token)
		hold("Fail", r, e)
		r, e = Done(c.r, c.now, c.token, "ok")
		hold("Done", r, e)
		// Several errors: that of the token comes ahead of that of the result.
		r, e = Done(c.r, c.now, c.token, strings.Repeat("r", 17))
		hold("Done of 17 bytes", r, e)
	}
	for _, result := range []string{strings.Repeat("r", 17), strings.Repeat("ü", 9), strings.Repeat("r", 65536)} {
		if r, e := Done(go1, 4, 7, result); !isZero(r) || e != api.ErrArg {
			t.Errorf("Done of %d bytes: %v, %d", len(result), r, e)
		}
	}
}

func TestCancel(t *testing.T) {
	for _, c := range []struct {
		name string
		r    api.Run
		now  int
		want []api.State
	}{
		{"as it begins", of(row(), 0, dueAt(0, 0), waits()), 0, []api.State{gone(0), gone(0)}},
		{"one held", of(row(), 0, held(1, 15, 7), waits()), 14, []api.State{gone(1), gone(0)}},
		{"one done", of(diamond(), 0, ok(), held(2, 15, 7), dueAt(1, 18), waits()), 14, []api.State{ok(), gone(2), gone(1), gone(0)}},
		{"ahead of all time", of(row(), 0, held(1, 15, 7), waits()), lowest, []api.State{gone(1), gone(0)}},
		{"a lease is over", of(row(), 0, held(1, 15, 7), waits()), 15, []api.State{gone(1), gone(0)}},
		{"the last try, ahead of Due", of(row(), 0, held(2, 15, 7), waits()), 14, []api.State{gone(2), gone(0)}},
	} {
		r, e := Cancel(c.r, c.now)
		want(t, c.name, r, e, api.RGone, c.want...)
		if !Right(r) {
			t.Errorf("%s: %v", c.name, r)
		}
	}
	for _, c := range []struct {
		name string
		r    api.Run
		now  int
		why  api.Errno
	}{
		{"done", of(row(), api.RDone, ok(), ok()), 0, api.ErrDone},
		{"lost", of(row(), api.RLost, lost(), gone(0)), 0, api.ErrDone},
		{"cancelled", of(row(), api.RGone, gone(0), gone(0)), 0, api.ErrDone},
		{"the last try, at Due", of(row(), 0, held(2, 15, 7), waits()), 15, api.ErrDone},
		{"the last try, at the greatest number", of(row(), 0, held(2, end, 7), waits()), highest, api.ErrDone},
		{"a run that may not be", of(row(), api.RDone, ok(), gone(0)), 0, api.ErrArg},
		{"a run that may not be, though it goes", of(row(), api.RGoes, waits(), waits()), 0, api.ErrArg},
		{"the zero run", api.Run{}, 0, api.ErrArg},
	} {
		if r, e := Cancel(c.r, c.now); !isZero(r) || e != c.why {
			t.Errorf("%s: %v, %d; want %d", c.name, r, e, c.why)
		}
	}
}

// Of a run that may not be each call tells ErrArg, whatever else may be wrong.
func TestARunThatMayNotBe(t *testing.T) {
	key := of(row(), api.RGoes, dueAt(0, 0), waits())
	key.Key = ""
	all := []api.Run{{}, key, of(row(), api.RGoes), of(row(), 4, dueAt(0, 0), waits()), of(loose(11), api.RGoes, slices.Repeat([]api.State{dueAt(0, 0)}, 11)...)}
	for _, r := range all {
		for _, token := range []int{-1, 0, 1, end + 1} {
			hold := func(name string, g api.Run, e api.Errno) {
				t.Helper()
				if !isZero(g) || e != api.ErrArg {
					t.Errorf("%s(%v): %v, %d", name, r, g, e)
				}
			}
			g, e := Settle(r, 3)
			hold("Settle", g, e)
			g, i, e := Lease(r, 3, token)
			hold("Lease", g, e)
			if i != 0 {
				t.Errorf("Lease(%v): task %d", r, i)
			}
			g, e = Beat(r, 3, token)
			hold("Beat", g, e)
			g, e = Done(r, 3, token, strings.Repeat("r", 17))
			hold("Done", g, e)
			g, e = Fail(r, 3, token)
			hold("Fail", g, e)
			g, e = Cancel(r, 3)
			hold("Cancel", g, e)
		}
	}
}
