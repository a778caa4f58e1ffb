package rows

import (
	"math"
	"slices"
	"strings"
	"testing"

	"penelope/api"
	"penelope/dag"
	"penelope/task"
	"penelope/world"
)

const (
	lowest  = math.MinInt
	highest = math.MaxInt
	end     = 1 << 40 // the last time, and the last token
)

// noise tells numbers that look like no pattern, the same ones each time.
type noise uint32

func (n *noise) below(limit int) int {
	*n = *n*1664525 + 1013904223
	return int(uint32(*n)>>8) % limit
}

func pick[T any](n *noise, all []T) T { return all[n.below(len(all))] }

// graph is one of tasks of two tries with these needs.
func graph(name string, needs ...[]int) api.Dag {
	d := api.Dag{Name: name}
	for _, l := range needs {
		d.Tasks = append(d.Tasks, api.Task{Needs: l, Tries: 2, Wait: 3, Lease: 5})
	}
	return d
}

// one is a graph of one task, row one of two, of which the second needs the first, ten one of ten that need none.
func one(name string) api.Dag { return graph(name, nil) }

func row(name string) api.Dag { return graph(name, nil, []int{0}) }

func ten(name string) api.Dag { return graph(name, make([][]int, 10)...) }

func held(tried, due, token int) api.State {
	return api.State{Is: api.SHeld, Tried: tried, Due: due, Token: token}
}

func dueAt(tried, due int) api.State { return api.State{Is: api.SDue, Tried: tried, Due: due} }

func gone(tried int) api.State { return api.State{Is: api.SGone, Tried: tried} }

func ok() api.State { return api.State{Is: api.SDone, Tried: 1, Result: "ok"} }

func lost() api.State { return api.State{Is: api.SLost, Tried: 2} }

func waits() api.State { return api.State{} }

// of is a run of a graph.
func of(key string, d api.Dag, is int, states ...api.State) api.Run {
	return api.Run{Key: key, Dag: d, Is: is, States: states}
}

// begun is a run of ten, none of which was leased.
func begun(key string, d api.Dag) api.Run {
	return of(key, d, api.RGoes, tenOf(dueAt(0, 0))...)
}

func tenOf(s api.State) []api.State { return slices.Repeat([]api.State{s}, 10) }

// copied shares no list with the world.
func copied(w api.World) api.World {
	var dags []api.Dag
	for _, d := range w.Dags {
		dags = append(dags, copiedDag(d))
	}
	var all []api.Run
	for _, r := range w.Runs {
		r.Dag, r.States = copiedDag(r.Dag), append([]api.State(nil), r.States...)
		all = append(all, r)
	}
	w.Dags, w.Runs = dags, all
	return w
}

func copiedDag(d api.Dag) api.Dag {
	var tasks []api.Task
	for _, t := range d.Tasks {
		t.Needs = append([]int(nil), t.Needs...)
		tasks = append(tasks, t)
	}
	d.Tasks = tasks
	return d
}

func sameTask(a, b api.Task) bool {
	return slices.Equal(a.Needs, b.Needs) && a.Tries == b.Tries && a.Wait == b.Wait && a.Lease == b.Lease
}

func sameDag(a, b api.Dag) bool {
	return a.Name == b.Name && slices.EqualFunc(a.Tasks, b.Tasks, sameTask)
}

func sameRun(a, b api.Run) bool {
	return a.Key == b.Key && a.Is == b.Is && sameDag(a.Dag, b.Dag) && slices.Equal(a.States, b.States)
}

// same holds worlds against one another; a nil list is an empty one (R3).
func same(a, b api.World) bool {
	return a.Now == b.Now && a.Token == b.Token && slices.EqualFunc(a.Dags, b.Dags, sameDag) && slices.EqualFunc(a.Runs, b.Runs, sameRun)
}

// The chapter's words, said one by one.

// number is a number in so many bytes, the highest first.
func number(n, size int) string {
	s := ""
	for range size {
		s = string([]byte{byte(n)}) + s
		n >>= 8
	}
	return s
}

func sized(s string) string { return number(len(s), 2) + s }

func dagBytes(d api.Dag) string {
	s := sized(d.Name) + number(len(d.Tasks), 1)
	for _, t := range d.Tasks {
		s += number(len(t.Needs), 1)
		for _, need := range t.Needs {
			s += number(need, 1)
		}
		s += number(t.Tries, 1) + number(t.Wait, 3) + number(t.Lease, 3)
	}
	return s
}

func stateBytes(s api.State) string {
	return number(s.Is, 1) + number(s.Tried, 1) + number(s.Due, 6) + number(s.Token, 6) + sized(s.Result)
}

// rowsOf are the pairs of a world.
func rowsOf(w api.World) ([]api.Pair, api.Errno) {
	if !world.Right(w) {
		return nil, api.ErrArg
	}
	vals := map[string]string{}
	for _, d := range w.Dags {
		vals["d"+d.Name] = dagBytes(d)
	}
	if w.Now != 0 || w.Token != 0 {
		vals["m"] = number(w.Now, 6) + number(w.Token, 6)
	}
	for _, r := range w.Runs {
		vals["r"+r.Key] = number(r.Is, 1) + sized(r.Dag.Name)
		for i, s := range r.States {
			vals["t"+r.Key+number(i, 1)] = stateBytes(s)
		}
	}
	return sorted(vals), api.OK
}

// sorted are pairs by rising keys.
func sorted(vals map[string]string) []api.Pair {
	var keys []string
	for key := range vals {
		keys = append(keys, key)
	}
	slices.Sort(keys)
	var all []api.Pair
	for _, key := range keys {
		all = append(all, api.Pair{Key: key, Val: vals[key]})
	}
	return all
}

// loadOf asks of each pair by itself whether it stands where it may, and what it says.
func loadOf(pairs []api.Pair) (api.World, api.Errno) {
	w := api.World{}
	graphs, states := map[string]api.Dag{}, map[string][]api.State{}
	for i, p := range pairs {
		if i > 0 && pairs[i-1].Key >= p.Key || p.Key == "" || !readPair(&w, p, graphs, states) {
			return api.World{}, api.ErrForm
		}
	}
	for i, r := range w.Runs {
		w.Runs[i].States = states["t"+r.Key]
		delete(states, "t"+r.Key)
	}
	if len(states) > 0 || !world.Right(w) {
		return api.World{}, api.ErrForm
	}
	return w, api.OK
}

func readPair(w *api.World, p api.Pair, graphs map[string]api.Dag, states map[string][]api.State) bool {
	name := p.Key[1:]
	switch p.Key[0] {
	case 'd':
		d, e := dag.Get(p.Val)
		w.Dags, graphs[name] = append(w.Dags, d), d
		return e == api.OK && d.Name == name
	case 'm':
		if p.Key != "m" || len(p.Val) != 12 || p.Val == strings.Repeat("\x00", 12) {
			return false
		}
		w.Now, w.Token = numberOf(p.Val[:6]), numberOf(p.Val[6:])
		return true
	case 'r':
		if len(p.Val) < 3 || p.Val[1:] != sized(p.Val[3:]) {
			return false
		}
		d, has := graphs[p.Val[3:]]
		w.Runs = append(w.Runs, api.Run{Key: name, Dag: copiedDag(d), Is: int(p.Val[0])})
		return has
	case 't':
		if name == "" {
			return false
		}
		run, last := p.Key[:len(p.Key)-1], int(name[len(name)-1])
		s, e := task.Get(p.Val)
		states[run] = append(states[run], s)
		return e == api.OK && len(states[run]) == last+1
	}
	return false
}

func numberOf(s string) int {
	n := 0
	for i := range len(s) {
		n = n<<8 | int(s[i])
	}
	return n
}

// diffOf goes through all keys that one of both worlds has.
func diffOf(a, b api.World) ([]api.Change, api.Errno) {
	old, first := rowsOf(a)
	made, second := rowsOf(b)
	if first != api.OK || second != api.OK {
		return nil, api.ErrArg
	}
	keys := map[string]string{}
	for _, p := range append(slices.Clone(old), made...) {
		keys[p.Key] = ""
	}
	var all []api.Change
	for _, p := range sorted(keys) {
		has := func(q api.Pair) bool { return q.Key == p.Key }
		i, j := slices.IndexFunc(old, has), slices.IndexFunc(made, has)
		switch {
		case j < 0:
			all = append(all, api.Change{Key: p.Key, Gone: true})
		case i < 0 || old[i].Val != made[j].Val:
			all = append(all, api.Change{Key: p.Key, Val: made[j].Val})
		}
	}
	return all, api.OK
}

// Worlds that may be, and some that may not.

func long(letter string) string { return strings.Repeat(letter, 16) }

// full is a world of so many graphs and runs, each of ten tasks that wait for all the ones ahead, with the longest names and keys.
func full(graphs, count int) api.World {
	var needs [][]int
	for i := range 10 {
		var l []int
		for j := range i {
			l = append(l, j)
		}
		needs = append(needs, l)
	}
	w := api.World{}
	for i := range graphs {
		w.Dags = append(w.Dags, graph(long("g")[:15]+number('a'+i, 1), needs...))
	}
	for i := range count {
		states := tenOf(waits())
		states[0] = dueAt(0, 0)
		w.Runs = append(w.Runs, of(long("k")[:15]+number('0'+i, 1), w.Dags[i%graphs], api.RGoes, states...))
	}
	return w
}

// with is a world of the graphs g, gg, h and x, and these runs.
func with(now, token int, all ...api.Run) api.World {
	return api.World{Now: now, Token: token, Dags: []api.Dag{row("g"), one("gg"), one("h"), ten("x")}, Runs: all}
}

// odds are runs of each kind, with States of each kind, the Key of one beginning the Key of another.
func odds(first, second, third int) []api.Run {
	return []api.Run{
		of("\x00", one("h"), api.RGone, gone(1)),
		of("\x00\x00", ten("x"), api.RGoes, append(tenOf(ok())[:9], dueAt(0, 0))...),
		of("a", row("g"), api.RGoes, held(1, 15, first), waits()),
		begun("a\x00", ten("x")),
		of("a\x00\x01", row("g"), api.RGoes, ok(), held(2, 20, second)),
		of("a\x01", one("h"), api.RGoes, dueAt(1, 15)),
		of("aa", row("g"), api.RDone, ok(), api.State{Is: api.SDone, Tried: 2, Result: long("r")}),
		of("k", row("g"), api.RLost, lost(), gone(0)),
		of("z", one("h"), api.RGoes, held(1, 10, third)),
		of("\xff", one("gg"), api.RGoes, dueAt(0, end)),
		of(long("\xff"), one("gg"), api.RGoes, dueAt(0, 0)),
	}
}

func sound() []api.World {
	all := []api.World{full(1, 0), full(15, 0), full(16, 0), full(16, 63), full(16, 64), full(1, 64)}
	for _, now := range []int{0, 1, 255, 256, end - 1, end} {
		for _, token := range []int{0, 1, 9, 256, end - 1, end} {
			all = append(all, api.World{Now: now, Token: token}, with(now, token))
			if token >= 9 {
				all = append(all, with(now, token, odds(7, 8, 9)...), with(now, token, odds(9, 1, 4)[:7]...), with(now, token, odds(1, token, 2)[3:]...))
			}
		}
	}
	return all
}

func odd() []api.World {
	all := []api.World{full(17, 0), full(16, 65)}
	for _, n := range []int{lowest, -1, end + 1, highest} {
		all = append(all, api.World{Now: n}, api.World{Token: n})
	}
	for _, change := range []func(*api.World){
		func(w *api.World) { w.Token = 8 },
		func(w *api.World) { w.Dags[0], w.Dags[1] = w.Dags[1], w.Dags[0] },
		func(w *api.World) { w.Dags = w.Dags[1:] },
		func(w *api.World) { w.Dags = append(w.Dags, one("x")) },
		func(w *api.World) { w.Dags = append(w.Dags, one(strings.Repeat("z", 17))) },
		func(w *api.World) { w.Dags[2].Tasks[0].Wait++ },
		func(w *api.World) { w.Runs[0], w.Runs[1] = w.Runs[1], w.Runs[0] },
		func(w *api.World) { w.Runs = append(w.Runs, w.Runs[10]) },
		func(w *api.World) { w.Runs[10].Key = "" },
		func(w *api.World) { w.Runs[10].Key += "\xff" },
		func(w *api.World) { w.Runs[10].States = nil },
		func(w *api.World) { w.Runs[10].Dag = one("y") },
		func(w *api.World) { w.Runs[2].States[0].Token = 8 },
	} {
		w := copied(with(10, 9, odds(7, 8, 9)...))
		change(&w)
		all = append(all, w)
	}
	return all
}

// holdRows, holdLoad and holdDiff hold a call against the chapter's words.
func holdRows(t *testing.T, w api.World) []api.Pair {
	t.Helper()
	pairs, e := Rows(w)
	want, why := rowsOf(w)
	if !slices.Equal(pairs, want) || e != why {
		t.Fatalf("Rows(%v) = %q, %d; want %q, %d", w, pairs, e, want, why)
	}
	return pairs
}

func holdLoad(t *testing.T, pairs []api.Pair) api.Errno {
	t.Helper()
	w, e := Load(pairs...)
	want, why := loadOf(pairs)
	if !same(w, want) || e != why {
		t.Fatalf("Load(%q) = %v, %d; want %v, %d", pairs, w, e, want, why)
	}
	return e
}

func holdDiff(t *testing.T, a, b api.World) []api.Change {
	t.Helper()
	all, e := Diff(a, b)
	want, why := diffOf(a, b)
	if !slices.Equal(all, want) || e != why {
		t.Fatalf("Diff(%v, %v) = %v, %d; want %v, %d", a, b, all, e, want, why)
	}
	return all
}

// P21.1
func TestRowsAreAsWritten(t *testing.T) {
	for _, w := range sound() {
		if holdRows(t, w); !world.Right(w) {
			t.Fatalf("%v may not be", w)
		}
	}
	for _, w := range odd() {
		if holdRows(t, w); world.Right(w) {
			t.Fatalf("%v may be", w)
		}
	}
}

// small are worlds with few pairs each, but all kinds of them.
func small() []api.World {
	return []api.World{
		{},
		{Now: 5},
		{Token: end},
		{Dags: []api.Dag{one("g")}},
		{Now: 10, Token: 9, Dags: []api.Dag{row("g"), one("gg")}, Runs: []api.Run{
			of("a", row("g"), api.RGoes, held(1, 15, 9), waits()),
			of("a\x00", one("gg"), api.RGoes, dueAt(0, 0)),
			of("a\x01", row("g"), api.RLost, lost(), gone(0)),
		}},
		{Now: end, Token: 1, Dags: []api.Dag{one("g")}, Runs: []api.Run{
			of("\x00", one("g"), api.RDone, api.State{Is: api.SDone, Tried: 2, Result: "\x00"}),
			of(long("\xff"), one("g"), api.RGone, gone(2)),
		}},
	}
}

// texts are texts that are nearly this one.
func texts(s string) []string {
	all := []string{"", s + s, s + "\x00", s + "\xff", "\x00" + s, "d" + s, "m", "r" + s, "t" + s}
	for i := range len(s) {
		all = append(all, s[:i], s[i:], s[:i]+s[i+1:], s[:i]+s[i:i+1]+s[i:])
		for _, b := range []byte{0, 1, 2, s[i] - 1, s[i] + 1, s[i] ^ 128, 255} {
			all = append(all, s[:i]+string([]byte{b})+s[i+1:])
		}
	}
	return all
}

// spoils are lists of pairs that are nearly this one.
func spoils(pairs []api.Pair) [][]api.Pair {
	all := [][]api.Pair{pairs, append(slices.Clone(pairs), pairs...), append(slices.Clone(pairs), api.Pair{})}
	for i, p := range pairs {
		all = append(all, slices.Delete(slices.Clone(pairs), i, i+1), slices.Insert(slices.Clone(pairs), i, p), pairs[:i], pairs[i:])
		for j := range i {
			swapped := slices.Clone(pairs)
			swapped[i], swapped[j] = swapped[j], swapped[i]
			valued := slices.Clone(pairs)
			valued[i].Val, valued[j].Val = valued[j].Val, valued[i].Val
			all = append(all, swapped, valued)
		}
		for _, s := range texts(p.Key) {
			changed, more := slices.Clone(pairs), append(slices.Clone(pairs), api.Pair{Key: s, Val: p.Val})
			changed[i].Key = s
			all = append(all, changed, byKey(changed), byKey(more))
		}
		for _, s := range texts(p.Val) {
			changed := slices.Clone(pairs)
			changed[i].Val = s
			all = append(all, changed)
		}
	}
	return all
}

func byKey(pairs []api.Pair) []api.Pair {
	pairs = slices.Clone(pairs)
	slices.SortStableFunc(pairs, func(p, q api.Pair) int { return strings.Compare(p.Key, q.Key) })
	return pairs
}

// P21.2
func TestLoadsAreAsWritten(t *testing.T) {
	for _, w := range append(sound(), small()...) {
		if pairs, _ := rowsOf(w); holdLoad(t, pairs) != api.OK {
			t.Fatalf("%q are no world", pairs)
		}
	}
	told := map[api.Errno]int{}
	for _, w := range small() {
		pairs, _ := rowsOf(w)
		for _, l := range spoils(pairs) {
			told[holdLoad(t, l)]++
		}
	}
	if told[api.OK] < 200 || told[api.ErrForm] < 5000 || len(told) != 2 {
		t.Errorf("told %v", told)
	}
}

// Also pairs of worlds that may not be, where they can be told.
func TestLoadsOfWorldsThatMayNotBe(t *testing.T) {
	w := with(10, 9, odds(7, 8, 9)...)
	pairs, _ := rowsOf(w)
	at := func(key string) int {
		return slices.IndexFunc(pairs, func(p api.Pair) bool { return p.Key == key })
	}
	for _, p := range []api.Pair{
		{Key: "m", Val: number(10, 6) + number(8, 6)},
		{Key: "m", Val: number(end+1, 6) + number(9, 6)},
		{Key: "m", Val: number(10, 6) + number(end+1, 6)},
		{Key: "dg", Val: dagBytes(one("g"))},
		{Key: "dgg", Val: dagBytes(row("gg"))},
		{Key: "dx", Val: dagBytes(graph("x", []int{0}))},
		{Key: "ra", Val: "\x01" + sized("g")},
		{Key: "ra", Val: "\x04" + sized("g")},
		{Key: "ra", Val: "\x00" + sized("h")},
		{Key: "ra", Val: "\x00" + sized("i")},
		{Key: "ta\x00", Val: stateBytes(held(1, 15, 8))},
		{Key: "ta\x00", Val: stateBytes(held(1, 15, 10))},
		{Key: "ta\x00", Val: stateBytes(held(3, 15, 7))},
		{Key: "ta\x00", Val: stateBytes(ok())},
		{Key: "ta\x01", Val: stateBytes(dueAt(0, 0))},
	} {
		changed := slices.Clone(pairs)
		changed[at(p.Key)] = p
		if e := holdLoad(t, changed); e != api.ErrForm {
			t.Errorf("%q: %d", p, e)
		}
	}
	for _, w := range []api.World{full(17, 0), full(16, 65)} {
		vals := map[string]string{}
		for _, d := range w.Dags {
			vals["d"+d.Name] = dagBytes(d)
		}
		for _, r := range w.Runs {
			vals["r"+r.Key] = number(r.Is, 1) + sized(r.Dag.Name)
			for i, s := range r.States {
				vals["t"+r.Key+number(i, 1)] = stateBytes(s)
			}
		}
		if e := holdLoad(t, sorted(vals)); e != api.ErrForm {
			t.Errorf("%d graphs and %d runs: %d", len(w.Dags), len(w.Runs), e)
		}
	}
}

// P21.3
func TestDiffsAreAsWritten(t *testing.T) {
	all := append(small(), with(0, 0), with(10, 9), full(2, 3))
	for _, w := range sound()[50:60] {
		all = append(all, w)
	}
	for _, a := range all {
		for _, b := range all {
			holdDiff(t, a, b)
		}
	}
	for _, w := range odd() {
		holdDiff(t, w, all[4])
		holdDiff(t, all[4], w)
		holdDiff(t, w, w)
	}
}
