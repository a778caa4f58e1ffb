package rows

import (
	"slices"
	"strings"
	"testing"

	"penelope/api"
	"penelope/ring"
	"penelope/world"
)

// P21.4

// applied is pairs, changed.
func applied(pairs []api.Pair, changes []api.Change) []api.Pair {
	vals := map[string]string{}
	for _, p := range pairs {
		vals[p.Key] = p.Val
	}
	for _, c := range changes {
		delete(vals, c.Key)
		if !c.Gone {
			vals[c.Key] = c.Val
		}
	}
	return sorted(vals)
}

// holdWorld has a world laid out and loaded again, and its keys and values short.
func holdWorld(t *testing.T, w api.World) []api.Pair {
	t.Helper()
	pairs := holdRows(t, w)
	if again, e := Load(pairs...); e != api.OK || !same(again, w) {
		t.Fatalf("Load(%q) = %v, %d; want %v", pairs, again, e, w)
	}
	for i, p := range pairs {
		if len(p.Key) < 1 || len(p.Key) > 18 || len(p.Val) > 200 || i > 0 && pairs[i-1].Key >= p.Key {
			t.Fatalf("of %v: %q", w, p)
		}
	}
	return pairs
}

// holdStep has what makes of one world's pairs another one's, in one record; it is told how many bytes that has.
func holdStep(t *testing.T, a, b api.World) int {
	t.Helper()
	changes := holdChanges(t, a, b)
	body, e := ring.Pack(changes...)
	if e != api.OK || len(body) > 480 {
		t.Fatalf("%v do not fit: %d", changes, e)
	}
	return len(body)
}

func holdChanges(t *testing.T, a, b api.World) []api.Change {
	t.Helper()
	changes := holdDiff(t, a, b)
	old, made := holdRows(t, a), holdRows(t, b)
	if got := applied(old, changes); !slices.Equal(got, made) {
		t.Fatalf("%v make of %q %q; want %q", changes, old, got, made)
	}
	for i, c := range changes {
		if i > 0 && changes[i-1].Key >= c.Key || c.Gone && c.Val != "" || slices.Contains(old, api.Pair{Key: c.Key, Val: c.Val}) && !c.Gone {
			t.Fatalf("from %v to %v: %v", a, b, changes)
		}
	}
	return changes
}

func TestWorldsAreLoadedAgain(t *testing.T) {
	for _, w := range append(sound(), small()...) {
		holdWorld(t, w)
	}
}

// What is loaded, laid out, is the pairs.
func TestLoadsAreLaidOutAgain(t *testing.T) {
	for _, w := range small() {
		pairs, _ := rowsOf(w)
		for _, l := range spoils(pairs) {
			w, e := Load(l...)
			if e != api.OK {
				continue
			}
			if again, e := Rows(w); e != api.OK || !slices.Equal(again, l) {
				t.Fatalf("%q; then %q, %d", l, again, e)
			}
		}
	}
}

// tree is a graph of tasks that need some of those ahead.
func tree(n *noise, name string) api.Dag {
	var needs [][]int
	for i := range 1 + n.below(10) {
		var l []int
		for j := range i {
			if n.below(3) == 0 {
				l = append(l, j)
			}
		}
		needs = append(needs, l)
	}
	d := graph(name, needs...)
	for i := range d.Tasks {
		d.Tasks[i] = api.Task{Needs: d.Tasks[i].Needs, Tries: 1 + n.below(8), Wait: n.below(4), Lease: 1 + n.below(9)}
	}
	return d
}

// told is a command, most often one that is answered OK.
func told(n *noise, w api.World) api.Command {
	names, keys := []string{"a", "g\x00", long("g"), "\xff"}, []string{"a", "a\x00", "a\x00\x01", "a\x01", long("\xff"), long("k")}
	switch n.below(12) {
	case 0:
		return api.Command{Kind: api.CDag, Dag: tree(n, pick(n, names))}
	case 1:
		return api.Command{Kind: api.CStart, Key: pick(n, keys), Name: pick(n, names)}
	case 2, 3, 4:
		return api.Command{Kind: api.CPoll}
	case 5:
		return api.Command{Kind: api.CBeat, Token: w.Token - n.below(4)}
	case 6, 7:
		return api.Command{Kind: api.CDone, Token: w.Token - n.below(4), Text: strings.Repeat("r", n.below(17))}
	case 8:
		return api.Command{Kind: api.CFail, Token: w.Token - n.below(4)}
	case 9:
		if n.below(8) == 0 {
			return api.Command{Kind: api.CCancel, Key: pick(n, keys)}
		}
		return api.Command{Kind: api.CState, Key: pick(n, keys)}
	case 10:
		return api.Command{Kind: api.CTick, Time: w.Now + n.below(12)}
	}
	return api.Command{Kind: api.CSync}
}

// Plays: each world, and what each command makes of it.
func TestPlays(t *testing.T) {
	n := noise(21)
	changed := map[int]int{}
	for range 60 {
		w := api.World{}
		first := w
		for range 100 {
			c := told(&n, w)
			next, a := world.Do(w, c)
			if size := holdStep(t, w, next); size > 1 {
				changed[c.Kind]++
			} else if a.Why == api.OK && !same(w, next) {
				t.Fatalf("%v: from %v to %v nothing is told", c, w, next)
			}
			w = next
		}
		holdWorld(t, w)
		holdChanges(t, first, w)
		holdChanges(t, w, first)
	}
	for _, kind := range []int{api.CDag, api.CStart, api.CPoll, api.CBeat, api.CDone, api.CFail, api.CCancel, api.CTick} {
		if changed[kind] < 10 {
			t.Errorf("kind %d changed %d worlds", kind, changed[kind])
		}
	}
}

// mustDo has all commands answered OK.
func mustDo(t *testing.T, w api.World, commands ...api.Command) api.World {
	t.Helper()
	for _, c := range commands {
		next, a := world.Do(w, c)
		if a.Why != api.OK {
			t.Fatalf("%v: %v", c, a)
		}
		w = next
	}
	return w
}

// widest is a graph of ten tasks, those from the second on with these needs, tried so often, with the longest name.
func widest(tries, lease int, needs ...int) api.Dag {
	l := make([][]int, 10)
	for i := 1; i < 10; i++ {
		l[i] = needs
	}
	d := graph(long("g"), l...)
	for i := range d.Tasks {
		d.Tasks[i].Tries, d.Tasks[i].Lease = tries, lease
	}
	return d
}

// The most that a command of each kind makes fits into one record: all ten tasks of a run change, and what is with it.
func TestTheMostOfACommandFits(t *testing.T) {
	dagOf := func(d api.Dag) api.Command { return api.Command{Kind: api.CDag, Dag: d} }
	start := api.Command{Kind: api.CStart, Key: long("k"), Name: long("g")}
	poll := api.Command{Kind: api.CPoll}
	tick := api.Command{Kind: api.CTick, Time: 1 << 39}
	done := func(token int) api.Command {
		return api.Command{Kind: api.CDone, Token: token, Text: long("r")}
	}
	polls := slices.Repeat([]api.Command{poll}, 10)
	lasting := widest(2, 5)
	lasting.Tasks[9].Lease = 1 << 20
	late := api.Command{Kind: api.CTick, Time: 100}
	for _, c := range []struct {
		name  string
		ahead []api.Command
		c     api.Command
		count int
	}{
		{"a graph", nil, dagOf(full(1, 0).Dags[0]), 1},
		{"a run", []api.Command{dagOf(widest(2, 5))}, start, 11},
		{"a result that comes too late", slices.Concat([]api.Command{dagOf(widest(2, 5)), start}, polls, []api.Command{tick}), done(3), 0},
		{"a beat, all others being over", slices.Concat([]api.Command{dagOf(lasting), start}, polls, []api.Command{late}), api.Command{Kind: api.CBeat, Token: 10}, 10},
		{"a result, all others being over", slices.Concat([]api.Command{dagOf(lasting), start}, polls, []api.Command{late}), done(10), 10},
		{"a result that all others waited for", []api.Command{dagOf(widest(8, 1<<20, 0)), start, tick, poll}, done(1), 10},
		{"a last failure", slices.Concat([]api.Command{dagOf(widest(1, 1<<20)), start}, polls), api.Command{Kind: api.CFail, Token: 10}, 11},
		{"a cancel", slices.Concat([]api.Command{dagOf(widest(8, 1<<20)), start, tick}, polls), api.Command{Kind: api.CCancel, Key: long("k")}, 11},
		{"a cancel of what waits", []api.Command{dagOf(widest(8, 1<<20, 0)), start, tick}, api.Command{Kind: api.CCancel, Key: long("k")}, 11},
		{"a tick", nil, api.Command{Kind: api.CTick, Time: end}, 1},
	} {
		w := mustDo(t, api.World{}, c.ahead...)
		next, a := world.Do(w, c.c)
		if (a.Why == api.OK) != (c.count > 0) {
			t.Fatalf("%s: %v", c.name, a)
		}
		if changes := holdChanges(t, w, next); len(changes) != c.count {
			t.Errorf("%s: %d changes: %v", c.name, len(changes), changes)
		}
		holdStep(t, w, next)
		holdWorld(t, next)
	}
	// A lease of a run, all leases of which are over, changes all its tasks, and the token.
	again := widest(2, 5)
	for i := range again.Tasks {
		again.Tasks[i].Wait = 0
	}
	w := mustDo(t, api.World{}, slices.Concat([]api.Command{dagOf(again), start}, polls, []api.Command{tick})...)
	next := mustDo(t, w, poll)
	if changes := holdChanges(t, w, next); len(changes) != 11 {
		t.Errorf("a lease: %v", changes)
	}
	holdStep(t, w, next)
	holdWorld(t, next)
}

// The rules, and P1

// roomy is a world whose lists have room behind their ends, where a careless append would write, and of which several are one.
func roomy() api.World {
	needs := []int{0, 91, 92, 93}
	tasks := []api.Task{{Tries: 2, Wait: 3, Lease: 5}, {Needs: needs[:1], Tries: 2, Wait: 3, Lease: 5}, {Tries: 91}}
	dags := []api.Dag{{Name: "f", Tasks: tasks[:2]}, {Name: "h", Tasks: tasks[:2]}, {Name: "y"}, {Name: "z"}}
	states := []api.State{held(1, 15, 7), waits(), held(1, 15, 71)}
	fresh := []api.State{dueAt(0, 0), waits(), held(1, 15, 72)}
	runs := []api.Run{
		{Key: "a", Dag: dags[0], States: states[:2]},
		{Key: "a\x00", Dag: dags[1], States: fresh[:2]},
		{Key: "y", Dag: dags[1], States: fresh[:2]},
		{Key: "z"}, {Key: "zz"},
	}
	return api.World{Now: 10, Token: 8, Dags: dags[:2], Runs: runs[:3]}
}

// snap is all that lies in a world's lists, also behind their ends.
func snap(w api.World) api.World {
	w = copied(api.World{Now: w.Now, Token: w.Token, Dags: w.Dags[:cap(w.Dags)], Runs: w.Runs[:cap(w.Runs)]})
	for i := range w.Dags {
		w.Dags[i] = snapDag(w.Dags[i])
	}
	for i, r := range w.Runs {
		w.Runs[i].Dag, w.Runs[i].States = snapDag(r.Dag), slices.Clone(r.States[:cap(r.States)])
	}
	return w
}

func snapDag(d api.Dag) api.Dag {
	d.Tasks = slices.Clone(d.Tasks[:cap(d.Tasks)])
	for i, x := range d.Tasks {
		d.Tasks[i].Needs = slices.Clone(x.Needs[:cap(x.Needs)])
	}
	return d
}

// R4
func TestNoWorldIsChanged(t *testing.T) {
	for _, w := range []api.World{roomy(), full(1, 2), odd()[12]} {
		was := snap(w)
		hold := func(name string) {
			t.Helper()
			if now := snap(w); !same(now, was) {
				t.Fatalf("%s: %v; was %v", name, now, was)
			}
		}
		Rows(w)
		hold("Rows")
		Diff(w, api.World{})
		hold("Diff from it")
		Diff(api.World{}, w)
		hold("Diff to it")
		Diff(w, w)
		hold("Diff from it to it")
	}
}

func TestNoPairsAreChanged(t *testing.T) {
	all, _ := Rows(roomy())
	room := append(slices.Clone(all), api.Pair{Key: "m", Val: "behind"}, api.Pair{Key: "a", Val: "behind"})
	was := slices.Clone(room)
	Load(room[:len(all)]...)
	if !slices.Equal(room, was) {
		t.Errorf("%q; was %q", room, was)
	}
	slices.Reverse(room)
	slices.Reverse(was)
	Load(room...)
	if !slices.Equal(room, was) {
		t.Errorf("%q; was %q", room, was)
	}
}

// What is loaded shares no list with the pairs, and no two lists of it are one.
func TestListsOfAWorldAreApart(t *testing.T) {
	pairs, e := Rows(roomy())
	if e != api.OK {
		t.Fatal(e)
	}
	w, _ := Load(pairs...)
	was := copied(w)
	hold := func(name string) {
		t.Helper()
		if !same(w, was) {
			t.Fatalf("%s: %v; want %v", name, w, was)
		}
	}
	for i := range pairs {
		pairs[i] = api.Pair{Key: "spoilt", Val: "spoilt"}
	}
	hold("the pairs are spoilt")
	spoil := func(d api.Dag) {
		d.Tasks[1].Needs[0]--
		d.Tasks[0].Tries, d.Tasks[1].Tries = -7, -7
		d.Tasks[0].Needs = append(d.Tasks[0].Needs, -7)
	}
	for i := range w.Dags {
		spoil(w.Dags[i])
		spoil(was.Dags[i])
		hold("a graph is spoilt")
	}
	for i := range w.Runs {
		spoil(w.Runs[i].Dag)
		spoil(was.Runs[i].Dag)
		w.Runs[i].States[0], was.Runs[i].States[0] = api.State{Is: -7}, api.State{Is: -7}
		_ = append(w.Runs[i].States, api.State{Is: -7})
		hold("a run is spoilt")
	}
}

// What is told once does not change what is told again.
func TestAnswersAreApart(t *testing.T) {
	w := roomy()
	pairs, _ := Rows(w)
	want := slices.Clone(pairs)
	for i := range pairs {
		pairs[i] = api.Pair{}
	}
	if again, _ := Rows(w); !slices.Equal(again, want) {
		t.Errorf("%q; was %q", again, want)
	}
	changes, _ := Diff(api.World{}, w)
	first := slices.Clone(changes)
	for i := range changes {
		changes[i] = api.Change{}
	}
	if again, _ := Diff(api.World{}, w); !slices.Equal(again, first) {
		t.Errorf("%v; was %v", again, first)
	}
}

// R3: a nil list counts as an empty one.
func TestNilAndEmptyLists(t *testing.T) {
	empty := api.World{Dags: []api.Dag{}, Runs: []api.Run{}}
	bare := api.World{Dags: []api.Dag{graph("g", nil, []int{0})}, Runs: []api.Run{of("k", graph("g", nil, []int{0}), api.RGoes, dueAt(0, 0), waits())}}
	other := copied(bare)
	other.Dags[0].Tasks[0].Needs = []int{}
	for _, c := range [][2]api.World{{empty, {}}, {bare, other}, {other, bare}} {
		if a, b := holdRows(t, c[0]), holdRows(t, c[1]); !slices.Equal(a, b) {
			t.Errorf("%q, %q", a, b)
		}
		if l, e := Diff(c[0], c[1]); len(l) != 0 || e != api.OK {
			t.Errorf("Diff(%v, %v) = %v, %d", c[0], c[1], l, e)
		}
	}
	for _, pairs := range [][]api.Pair{nil, {}} {
		if w, e := Load(pairs...); e != api.OK || !same(w, api.World{}) {
			t.Errorf("Load of none: %v, %d", w, e)
		}
	}
	none := copied(bare)
	none.Runs[0].States = []api.State{}
	if l, e := Rows(none); len(l) != 0 || e != api.ErrArg {
		t.Errorf("a run of no States: %q, %d", l, e)
	}
}

// R1: no call hangs on what was called ahead of it, nor on the order in which a map is gone through.
func TestNothingIsKept(t *testing.T) {
	w, other := with(10, 9, odds(7, 8, 9)...), full(16, 64)
	pairs := holdRows(t, w)
	changes := holdDiff(t, w, other)
	for range 20 {
		Rows(other)
		Load(pairs[1:]...)
		Diff(other, w)
		if again, e := Rows(w); e != api.OK || !slices.Equal(again, pairs) {
			t.Fatalf("Rows: %q, %d; was %q", again, e, pairs)
		}
		if again, e := Load(pairs...); e != api.OK || !same(again, w) {
			t.Fatalf("Load: %v, %d; was %v", again, e, w)
		}
		if again, e := Diff(w, other); e != api.OK || !slices.Equal(again, changes) {
			t.Fatalf("Diff: %v, %d; was %v", again, e, changes)
		}
	}
}

// R5: Names and Keys are bytes, whatever they are.
func TestNamesAreBytes(t *testing.T) {
	w := api.World{}
	for _, name := range []string{"\x00", "\x00\x00", "A", "a", "a\x00", "aa", "d", "m", "r", "t", "z", "\x7f", "\x80", "ü", "\xff", "\xff\xff"} {
		w.Dags = append(w.Dags, one(name))
		w.Runs = append(w.Runs, of(name, one(name), api.RGoes, dueAt(0, len(w.Runs))))
	}
	pairs := holdWorld(t, w)
	for i, d := range w.Dags {
		if pairs[i].Key != "d"+d.Name || pairs[i+len(w.Dags)].Key != "r"+d.Name {
			t.Errorf("at %d: %q, %q", i, pairs[i], pairs[i+len(w.Dags)])
		}
	}
}

// junk is bytes, most often of few kinds.
func junk(n *noise) string {
	s := pick(n, []string{"", "d", "m", "r", "t", "dg", "rk", "tk"})
	for range n.below(5) {
		s += pick(n, []string{"\x00", "\x00\x01", "\x01", "g", "k", "m", "\x02", "\xff", strings.Repeat("\x00", 12), strings.Repeat("\xff", 300)})
	}
	return s
}

// P1: at all arguments every call ends and none panics; beside an error all else is zero.
func TestEveryCallEnds(t *testing.T) {
	n := noise(214)
	base := small()
	for range 20000 {
		pairs, _ := rowsOf(pick(&n, base))
		pairs = slices.Clone(pairs)
		for range n.below(4) {
			p := api.Pair{Key: junk(&n), Val: junk(&n)}
			at := n.below(len(pairs) + 1)
			switch {
			case at < len(pairs) && n.below(3) == 0:
				pairs[at].Key = p.Key
			case at < len(pairs) && n.below(2) == 0:
				pairs[at].Val = p.Val
			default:
				pairs = slices.Insert(pairs, at, p)
			}
		}
		holdLoad(t, pairs)
		holdLoad(t, byKey(pairs))
	}
}

func TestRowsAndDiffEnd(t *testing.T) {
	n := noise(215)
	numbers := []int{lowest, -1, 0, 1, 7, 8, 9, 10, end - 1, end, end + 1, highest}
	may := 0
	for range 3000 {
		w := copied(pick(&n, append(small(), with(10, 9, odds(7, 8, 9)...))))
		for range n.below(3) {
			spoilOne(&n, &w, pick(&n, numbers))
		}
		if world.Right(w) {
			may++
		}
		holdRows(t, w)
		holdDiff(t, w, pick(&n, small()))
		holdDiff(t, pick(&n, small()), w)
	}
	if may < 1000 || may > 2500 {
		t.Errorf("%d of them may be", may)
	}
}

func spoilOne(n *noise, w *api.World, number int) {
	switch n.below(7) {
	case 0:
		w.Now = number
	case 1:
		w.Token = number
	case 2:
		w.Dags = append(w.Dags, one(pick(n, []string{"", "z", long("z") + "z"})))
	case 3:
		w.Runs = append(w.Runs, of(pick(n, []string{"", "\xff\xff", long("\xff") + "z"}), one("g"), n.below(5)-1, dueAt(0, 0)))
	case 4:
		w.Dags = w.Dags[:n.below(len(w.Dags)+1)]
	case 5:
		w.Runs = w.Runs[:n.below(len(w.Runs)+1)]
	case 6:
		for i := range w.Runs {
			for j := range w.Runs[i].States {
				if n.below(6) == 0 {
					w.Runs[i].States[j] = api.State{Is: n.below(8) - 1, Tried: n.below(4), Due: number, Token: number, Result: strings.Repeat("r", n.below(20))}
				}
			}
		}
	}
}

// Many pairs, and long ones, end soon.
func TestManyPairs(t *testing.T) {
	var all []api.Pair
	for i := range 20000 {
		all = append(all, api.Pair{Key: "d" + number(i, 3), Val: dagBytes(one("g"))})
	}
	for i := range 20000 {
		all = append(all, api.Pair{Key: "r" + number(i, 3), Val: "\x00" + sized("g")})
	}
	for i := range 20000 {
		all = append(all, api.Pair{Key: "t" + number(i, 3) + "\x00", Val: stateBytes(dueAt(0, 0))})
	}
	huge := strings.Repeat("\xff", 1<<20)
	all = append(all, api.Pair{Key: "d" + huge, Val: huge}, api.Pair{Key: "r" + huge, Val: huge}, api.Pair{Key: "t" + huge, Val: huge}, api.Pair{Key: huge, Val: huge})
	if w, e := Load(all...); e != api.ErrForm || !same(w, api.World{}) {
		t.Errorf("%d", e)
	}
}
