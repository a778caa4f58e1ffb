package rows

import (
	"slices"
	"strings"
	"testing"

	"penelope/api"
	"penelope/world"
)

func keysOf(pairs []api.Pair) []string {
	var keys []string
	for _, p := range pairs {
		keys = append(keys, p.Key)
	}
	return keys
}

// holdBoth has a world and its pairs made of one another.
func holdBoth(t *testing.T, w api.World, pairs ...api.Pair) {
	t.Helper()
	if got, e := Rows(w); e != api.OK || !slices.Equal(got, pairs) {
		t.Errorf("Rows(%v) = %q, %d; want %q", w, got, e, pairs)
	}
	if got, e := Load(pairs...); e != api.OK || !same(got, w) {
		t.Errorf("Load(%q) = %v, %d; want %v", pairs, got, e, w)
	}
}

func holdRefused(t *testing.T, pairs ...api.Pair) {
	t.Helper()
	if w, e := Load(pairs...); e != api.ErrForm || !same(w, api.World{}) {
		t.Errorf("Load(%q) = %v, %d; want ErrForm", pairs, w, e)
	}
}

// The chapter's examples.
func TestExamples(t *testing.T) {
	holdBoth(t, api.World{})
	holdBoth(t, api.World{Now: 5}, api.Pair{Key: "m", Val: "\x00\x00\x00\x00\x00\x05\x00\x00\x00\x00\x00\x00"})
}

// P21.1, P21.2: each kind of pairs, byte by byte.
func TestPairsOfAWorld(t *testing.T) {
	d := api.Dag{Name: "g", Tasks: []api.Task{{Tries: 2, Wait: 3, Lease: 5}, {Needs: []int{0}, Tries: 8, Wait: 1 << 20, Lease: 256}}}
	graphPair := api.Pair{Key: "dg", Val: "\x00\x01g\x02" + "\x00\x02\x00\x00\x03\x00\x00\x05" + "\x01\x00\x08\x10\x00\x00\x00\x01\x00"}
	holdBoth(t, api.World{Dags: []api.Dag{d}}, graphPair)
	holdBoth(t, api.World{Now: 258, Token: 9, Dags: []api.Dag{d}, Runs: []api.Run{
		{Key: "a", Dag: d, States: []api.State{held(1, 263, 7), waits()}},
		{Key: "b", Dag: d, Is: api.RDone, States: []api.State{ok(), {Is: api.SDone, Tried: 8}}},
	}},
		graphPair,
		api.Pair{Key: "m", Val: "\x00\x00\x00\x00\x01\x02\x00\x00\x00\x00\x00\x09"},
		api.Pair{Key: "ra", Val: "\x00\x00\x01g"},
		api.Pair{Key: "rb", Val: "\x01\x00\x01g"},
		api.Pair{Key: "ta\x00", Val: "\x02\x01\x00\x00\x00\x00\x01\x07\x00\x00\x00\x00\x00\x07\x00\x00"},
		api.Pair{Key: "ta\x01", Val: strings.Repeat("\x00", 16)},
		api.Pair{Key: "tb\x00", Val: "\x03\x01" + strings.Repeat("\x00", 12) + "\x00\x02ok"},
		api.Pair{Key: "tb\x01", Val: "\x03\x08" + strings.Repeat("\x00", 14)},
	)
}

// There is no `m` just where Now and Token both are 0.
func TestTimes(t *testing.T) {
	for _, now := range []int{0, 1, 1 << 39, end - 1, end} {
		for _, token := range []int{0, 1, 1 << 39, end - 1, end} {
			w := api.World{Now: now, Token: token}
			m := api.Pair{Key: "m", Val: number(now, 6) + number(token, 6)}
			if now == 0 && token == 0 {
				holdBoth(t, w)
				holdRefused(t, m)
				continue
			}
			holdBoth(t, w, m)
		}
	}
	for _, val := range []string{"", "\x00", number(5, 6), number(5, 6) + number(0, 5), number(5, 6) + number(0, 7), number(end+1, 6) + number(0, 6), number(0, 6) + number(end+1, 6), strings.Repeat("\xff", 12)} {
		holdRefused(t, api.Pair{Key: "m", Val: val})
	}
	five := number(5, 6) + number(0, 6)
	holdRefused(t, api.Pair{Key: "m\x00", Val: five})
	holdRefused(t, api.Pair{Key: "mm", Val: five})
	holdRefused(t, api.Pair{Key: "M", Val: five})
	holdRefused(t, api.Pair{Key: "", Val: five})
	holdRefused(t, api.Pair{Key: "m", Val: five}, api.Pair{Key: "m", Val: five})
}

// Keys rise, also where a run's Key begins with another one's, and a task's number is as a byte of it.
func TestKeysRise(t *testing.T) {
	d := ten("g")
	three := graph("h", nil, nil, nil)
	w := api.World{Dags: []api.Dag{d, three}, Runs: []api.Run{
		of("a", d, api.RGoes, tenOf(dueAt(0, 1))...),
		of("a\x00", three, api.RGoes, dueAt(0, 2), dueAt(0, 3), dueAt(0, 4)),
		of("a\x00\x01", three, api.RGoes, dueAt(0, 5), dueAt(0, 6), dueAt(0, 7)),
		of("a\x08", one("i"), api.RGoes, dueAt(0, 8)),
		of("a\x09", one("i"), api.RGoes, dueAt(0, 9)),
		of("a\x0a", one("i"), api.RGoes, dueAt(0, 10)),
	}}
	w.Dags = append(w.Dags, one("i"))
	pairs, e := Rows(w)
	want := []string{
		"dg", "dh", "di",
		"ra", "ra\x00", "ra\x00\x01", "ra\x08", "ra\x09", "ra\x0a",
		"ta\x00", "ta\x00\x00", "ta\x00\x01", "ta\x00\x01\x00", "ta\x00\x01\x01", "ta\x00\x01\x02", "ta\x00\x02",
		"ta\x01", "ta\x02", "ta\x03", "ta\x04", "ta\x05", "ta\x06", "ta\x07", "ta\x08", "ta\x08\x00", "ta\x09", "ta\x09\x00", "ta\x0a\x00",
	}
	if keys := keysOf(pairs); e != api.OK || !slices.Equal(keys, want) {
		t.Fatalf("%q, %d; want %q", keys, e, want)
	}
	for key, due := range map[string]int{"ta\x00": 1, "ta\x00\x00": 2, "ta\x00\x01": 3, "ta\x00\x01\x00": 5, "ta\x00\x01\x01": 6, "ta\x00\x02": 4, "ta\x08": 1, "ta\x08\x00": 8, "ta\x09": 1, "ta\x09\x00": 9, "ta\x0a\x00": 10} {
		i := slices.Index(want, key)
		if pairs[i].Val != stateBytes(dueAt(0, due)) {
			t.Errorf("%q is %q", key, pairs[i].Val)
		}
	}
	holdBoth(t, w, pairs...)
	for i := 1; i < len(pairs); i++ {
		swapped := slices.Clone(pairs)
		swapped[i-1], swapped[i] = swapped[i], swapped[i-1]
		holdRefused(t, swapped...)
	}
}

// P21.2: just these pairs, in this order.
func TestPairsOfNoWorld(t *testing.T) {
	g, h := api.Pair{Key: "dg", Val: dagBytes(row("g"))}, api.Pair{Key: "dh", Val: dagBytes(one("h"))}
	k := api.Pair{Key: "rk", Val: "\x00\x00\x01g"}
	first, second := api.Pair{Key: "tk\x00", Val: stateBytes(dueAt(0, 0))}, api.Pair{Key: "tk\x01", Val: stateBytes(waits())}
	third := api.Pair{Key: "tk\x02", Val: stateBytes(waits())}
	val := func(p api.Pair, val string) api.Pair { return api.Pair{Key: p.Key, Val: val} }
	key := func(p api.Pair, key string) api.Pair { return api.Pair{Key: key, Val: p.Val} }
	holdBoth(t, api.World{Dags: []api.Dag{row("g"), one("h")}, Runs: []api.Run{of("k", row("g"), api.RGoes, dueAt(0, 0), waits())}}, g, h, k, first, second)
	for name, pairs := range map[string][]api.Pair{
		"no graph of the run":           {h, k, first, second},
		"no run of the tasks":           {g, h, first, second},
		"no tasks":                      {g, h, k},
		"no first task":                 {g, h, k, second},
		"no second task":                {g, h, k, first},
		"a task more":                   {g, h, k, first, second, third},
		"a task missed":                 {g, h, k, first, third},
		"a pair of the empty key":       {{}, g, h, k, first, second},
		"a pair of no kind":             {g, h, {Key: "e"}, k, first, second},
		"a pair of no kind at the end":  {g, h, k, first, second, {Key: "u"}},
		"a pair of no kind, a capital":  {{Key: "Dg", Val: g.Val}, g, h, k, first, second},
		"a task of no run and number":   {g, h, k, {Key: "t", Val: first.Val}, first, second},
		"a task of the empty run":       {g, h, k, {Key: "t\x00", Val: first.Val}, first, second},
		"a run of no key":               {g, h, {Key: "r", Val: k.Val}, k, first, second},
		"a run of 17 bytes":             {g, h, key(k, "r"+long("k")+"k"), key(first, "t"+long("k")+"k\x00"), key(second, "t"+long("k")+"k\x01")},
		"graphs that fall":              {h, g, k, first, second},
		"a graph twice":                 {g, g, h, k, first, second},
		"a run twice":                   {g, h, k, k, first, second},
		"a task twice":                  {g, h, k, first, first, second},
		"tasks that fall":               {g, h, k, second, first},
		"a run behind its tasks":        {g, h, first, second, k},
		"a graph behind its run":        {h, k, first, second, g},
		"a graph of another name":       {val(g, dagBytes(row("f"))), h, k, first, second},
		"a graph at another key":        {key(g, "df"), h, k, first, second},
		"a graph of no name":            {{Key: "d", Val: "\x00\x00" + g.Val[3:]}, g, h, k, first, second},
		"a graph of a byte less":        {val(g, g.Val[:len(g.Val)-1]), h, k, first, second},
		"a graph of a byte more":        {val(g, g.Val+"\x00"), h, k, first, second},
		"a graph of no bytes":           {val(g, ""), h, k, first, second},
		"a graph that may not be":       {val(g, dagBytes(graph("g", []int{1}, []int{0}))), h, k, first, second},
		"a run of a byte less":          {g, h, val(k, k.Val[:3]), first, second},
		"a run of a byte more":          {g, h, val(k, k.Val+"\x00"), first, second},
		"a run of no bytes":             {g, h, val(k, ""), first, second},
		"a run of a graph that is not":  {g, h, val(k, "\x00\x00\x01i"), first, second},
		"a run of a graph of no name":   {g, h, val(k, "\x00\x00\x00"), first, second},
		"a run of another graph":        {g, h, val(k, "\x00\x00\x01h"), first, second},
		"a run that is otherwise":       {g, h, val(k, "\x01\x00\x01g"), first, second},
		"a run that is nothing":         {g, h, val(k, "\xff\x00\x01g"), first, second},
		"a state of a byte less":        {g, h, k, val(first, first.Val[:15]), second},
		"a state of a byte more":        {g, h, k, val(first, first.Val+"\x00"), second},
		"a state of no bytes":           {g, h, k, first, val(second, "")},
		"a state that may not stand":    {g, h, k, val(first, stateBytes(api.State{Is: 6})), second},
		"a state that may not be there": {g, h, k, val(first, stateBytes(waits())), second},
		"states of one another":         {g, h, k, val(first, second.Val), val(second, first.Val)},
		"a token above the world's":     {g, h, k, val(first, stateBytes(held(1, 5, 1))), second},
		"a token twice":                 {h, {Key: "m", Val: number(0, 6) + number(9, 6)}, key(k, "rj"), val(k, "\x00\x00\x01h"), {Key: "tj\x00", Val: stateBytes(held(1, 5, 9))}, val(first, stateBytes(held(1, 5, 9)))},
	} {
		if w, e := Load(pairs...); e != api.ErrForm || !same(w, api.World{}) {
			t.Errorf("%s: Load(%q) = %v, %d; want ErrForm", name, pairs, w, e)
		}
	}
	h9 := api.Pair{Key: "m", Val: number(0, 6) + number(9, 6)}
	holdBoth(t, api.World{Token: 9, Dags: []api.Dag{one("h")}, Runs: []api.Run{of("j", one("h"), api.RGoes, held(1, 5, 9)), of("k", one("h"), api.RGoes, held(1, 5, 8))}},
		h, h9, val(key(k, "rj"), "\x00\x00\x01h"), val(k, "\x00\x00\x01h"), api.Pair{Key: "tj\x00", Val: stateBytes(held(1, 5, 9))}, val(first, stateBytes(held(1, 5, 8))))
}

// As many graphs and runs as may be, and one more.
func TestMostPairs(t *testing.T) {
	w := full(16, 64)
	w.Now, w.Token = end, end
	pairs := holdRows(t, w)
	if len(pairs) != 16+1+64+640 {
		t.Errorf("%d pairs", len(pairs))
	}
	holdBoth(t, w, pairs...)
	if l, e := Rows(full(17, 64)); len(l) != 0 || e != api.ErrArg {
		t.Errorf("17 graphs: %q, %d", l, e)
	}
	if l, e := Rows(full(16, 65)); len(l) != 0 || e != api.ErrArg {
		t.Errorf("65 runs: %q, %d", l, e)
	}
}

// P21.1: a world that may not be has no pairs.
func TestRowsOfWhatMayNotBe(t *testing.T) {
	for _, w := range odd() {
		if l, e := Rows(w); len(l) != 0 || e != api.ErrArg {
			t.Errorf("Rows(%v) = %q, %d", w, l, e)
		}
	}
}

// P21.3
func TestDiff(t *testing.T) {
	d := row("g")
	none, begun := api.World{}, api.World{Dags: []api.Dag{d}, Runs: []api.Run{of("k", d, api.RGoes, dueAt(0, 0), waits())}}
	leased, a := world.Do(begun, api.Command{Kind: api.CPoll})
	if a.Why != api.OK {
		t.Fatal(a)
	}
	m := number(0, 6) + number(1, 6)
	put := func(key, val string) api.Change { return api.Change{Key: key, Val: val} }
	goes := func(key string) api.Change { return api.Change{Key: key, Gone: true} }
	another := api.World{Now: 5, Dags: []api.Dag{one("f"), row("h")}, Runs: []api.Run{of("l", row("h"), api.RGoes, dueAt(0, 0), waits())}}
	five := number(5, 6) + number(0, 6)
	for _, c := range []struct {
		name string
		a, b api.World
		want []api.Change
	}{
		{"nothing", none, none, nil},
		{"the same", leased, leased, nil},
		{"all is made", none, begun, []api.Change{put("dg", dagBytes(d)), put("rk", "\x00\x00\x01g"), put("tk\x00", stateBytes(dueAt(0, 0))), put("tk\x01", stateBytes(waits()))}},
		{"all goes", leased, none, []api.Change{goes("dg"), goes("m"), goes("rk"), goes("tk\x00"), goes("tk\x01")}},
		{"a lease", begun, leased, []api.Change{put("m", m), put("tk\x00", stateBytes(held(1, 5, 1)))}},
		{"a lease less", leased, begun, []api.Change{goes("m"), put("tk\x00", stateBytes(dueAt(0, 0)))}},
		{"another world", leased, another, []api.Change{
			put("df", dagBytes(one("f"))), goes("dg"), put("dh", dagBytes(row("h"))), put("m", five), goes("rk"), put("rl", "\x00\x00\x01h"),
			goes("tk\x00"), goes("tk\x01"), put("tl\x00", stateBytes(dueAt(0, 0))), put("tl\x01", stateBytes(waits())),
		}},
		{"a state that is empty", api.World{Dags: []api.Dag{d}}, begun, []api.Change{put("rk", "\x00\x00\x01g"), put("tk\x00", stateBytes(dueAt(0, 0))), put("tk\x01", stateBytes(waits()))}},
	} {
		if got, e := Diff(c.a, c.b); e != api.OK || !slices.Equal(got, c.want) {
			t.Errorf("%s: %v, %d; want %v", c.name, got, e, c.want)
		}
	}
}

// Diff tells ErrArg, whichever of both worlds may not be, also where they are one.
func TestDiffOfWhatMayNotBe(t *testing.T) {
	for _, w := range odd() {
		for _, pair := range [][2]api.World{{w, {}}, {{}, w}, {w, w}, {w, full(16, 64)}, {full(16, 64), w}} {
			if l, e := Diff(pair[0], pair[1]); len(l) != 0 || e != api.ErrArg {
				t.Errorf("Diff(%v, %v) = %v, %d", pair[0], pair[1], l, e)
			}
		}
	}
}

// A graph that is another one of its name goes nowhere: its new value is told.
func TestDiffOfAnotherGraph(t *testing.T) {
	a, b := api.World{Dags: []api.Dag{one("g")}}, api.World{Dags: []api.Dag{row("g")}}
	if got, e := Diff(a, b); e != api.OK || !slices.Equal(got, []api.Change{{Key: "dg", Val: dagBytes(row("g"))}}) {
		t.Errorf("%v, %d", got, e)
	}
}
