package world

import (
	"slices"
	"strings"
	"testing"

	"penelope/api"
)

// P20.3

// holdMore tells what one world has that one made of it has no more, or has otherwise.
func holdMore(t *testing.T, w, made api.World) {
	t.Helper()
	if made.Now < w.Now || made.Token < w.Token || len(made.Dags) < len(w.Dags) || len(made.Runs) < len(w.Runs) {
		t.Fatalf("%v makes less: %v", w, made)
	}
	for _, d := range w.Dags {
		if !slices.ContainsFunc(made.Dags, func(g api.Dag) bool { return sameDag(g, d) }) {
			t.Fatalf("%v has no graph %v any more: %v", w, d, made)
		}
	}
	for _, r := range w.Runs {
		if !slices.ContainsFunc(made.Runs, func(g api.Run) bool { return g.Key == r.Key && sameDag(g.Dag, r.Dag) }) {
			t.Fatalf("%v has no run %v any more: %v", w, r, made)
		}
	}
}

func TestWhatIsMadeOfAWorldThatMayBeMayBe(t *testing.T) {
	changed, refused := map[int]int{}, map[int]int{}
	for _, w := range sound() {
		for _, c := range commands() {
			g, a := Do(w, c)
			if !Right(g) || !right(g) {
				t.Fatalf("Do(%v, %v) = %v, which may not be", w, c, g)
			}
			holdMore(t, w, g)
			if !same(g, w) {
				changed[c.Kind]++
			}
			if a.Why == api.OK {
				continue
			}
			refused[c.Kind]++
			if !same(g, w) || !sameAnswer(a, why(a.Why)) {
				t.Fatalf("Do(%v, %v) is refused: %v, %v", w, c, g, a)
			}
		}
	}
	for kind := api.CDag; kind <= api.CSync; kind++ {
		if asks := kind == api.CState || kind == api.CSync; asks != (changed[kind] == 0) {
			t.Errorf("kind %d changed %d worlds", kind, changed[kind])
		}
		if kind != api.CSync && refused[kind] == 0 {
			t.Errorf("kind %d was never refused", kind)
		}
	}
}

func TestDagAndStartToldTwice(t *testing.T) {
	first := map[int]int{}
	for _, w := range sound() {
		for _, c := range commands() {
			if c.Kind != api.CDag && c.Kind != api.CStart {
				continue
			}
			once, a := Do(w, c)
			twice, again := Do(once, c)
			if !same(twice, once) || !sameAnswer(again, a) {
				t.Fatalf("%v: %v, %v; told again %v, %v", c, once, a, twice, again)
			}
			if !same(once, w) {
				first[c.Kind]++
			}
			// Nor the second time behind whatever was done between.
			later, _ := Do(once, api.Command{Kind: api.CPoll})
			if g, b := Do(later, c); a.Why == api.OK && (!same(g, later) || !sameAnswer(b, a)) {
				t.Fatalf("%v, told again behind a lease: %v, %v", c, g, b)
			}
		}
	}
	if first[api.CDag] < 100 || first[api.CStart] < 100 {
		t.Errorf("told first: %v", first)
	}
}

// P20.4

// job is a task of a run.
type job struct {
	key  string
	task int
}

// play is a world as those see it who tell it commands, and are told answers.
type play struct {
	t      *testing.T
	n      noise
	w      api.World
	told   []api.Command
	leases map[job]int
	lease  map[int]job    // of each token that was told
	done   map[job]string // results that were answered OK
	over   map[int]int    // tokens of these
	fails  int            // of ten answers so many are failures
}

func (p *play) do(c api.Command) api.Answer {
	p.t.Helper()
	w, a := Do(p.w, c)
	if !Right(w) || a.Why != api.OK && !same(w, p.w) {
		p.t.Fatalf("Do(%v, %v) = %v, %v", p.w, c, w, a)
	}
	holdMore(p.t, p.w, w)
	p.w, p.told = w, append(p.told, c)
	return a
}

// poll leases tasks until none is due any more, or some are.
func (p *play) poll() {
	for range 1 + p.n.below(6) {
		last := p.w.Token
		a := p.do(api.Command{Kind: api.CPoll})
		if a.Why == api.ErrIdle {
			return
		}
		j := job{a.Key, a.Task}
		if _, has := p.lease[a.Token]; has || a.Why != api.OK || a.Token != last+1 || p.w.Token != a.Token {
			p.t.Fatalf("%v was leased behind token %d: %v", j, last, a)
		}
		if result, has := p.done[j]; has {
			p.t.Fatalf("%v was leased, though it was done: %q", j, result)
		}
		p.lease[a.Token] = j
		p.leases[j]++
	}
}

// tell has the holder of some token tell how it went.
func (p *play) tell() {
	token := max(0, p.w.Token-p.n.below(8))
	c := api.Command{Kind: api.CDone, Token: token, Text: pick(&p.n, texts())}
	switch what := p.n.below(10); {
	case what < p.fails:
		c.Kind = api.CFail
	case what == 9:
		c.Kind = api.CBeat
	}
	a := p.do(c)
	if p.over[token] > 0 && a.Why != api.ErrToken {
		p.t.Fatalf("token %d was told again: %v", token, a)
	}
	if a.Why != api.OK {
		return
	}
	j := p.lease[token]
	if a.Key != j.key {
		p.t.Fatalf("token %d of %v: %v", token, j, a)
	}
	if c.Kind == api.CDone {
		p.done[j] = c.Text
	}
	if c.Kind != api.CBeat {
		p.over[token]++
	}
}

// hold holds the world against what was told of it.
func (p *play) hold() {
	p.t.Helper()
	for _, r := range p.w.Runs {
		a := p.do(api.Command{Kind: api.CState, Key: r.Key})
		for i, s := range a.States {
			j := job{r.Key, i}
			if p.leases[j] > r.Dag.Tasks[i].Tries || s.Tried != p.leases[j] {
				p.t.Fatalf("%v was leased %d times: %v", j, p.leases[j], s)
			}
			result, has := p.done[j]
			if has != (s.Is == api.SDone) || result != s.Result {
				p.t.Fatalf("%v was told %q: %v", j, result, s)
			}
		}
	}
}

// tree is a graph of so many tasks, each of which needs some ahead of it.
func tree(n *noise, name string, tasks int) api.Dag {
	d := api.Dag{Name: name}
	for i := range tasks {
		x := api.Task{Tries: 1 + n.below(8), Wait: n.below(4), Lease: 1 + n.below(6)}
		for need := range i {
			if n.below(3) == 0 {
				x.Needs = append(x.Needs, need)
			}
		}
		d.Tasks = append(d.Tasks, x)
	}
	return d
}

func (p *play) goOn() bool {
	return slices.ContainsFunc(p.w.Runs, func(r api.Run) bool {
		return p.do(api.Command{Kind: api.CState, Key: r.Key}).Is == api.RGoes
	})
}

// played plays a world to where all of its runs are over.
func played(t *testing.T, seed int) *play {
	t.Helper()
	p := &play{t: t, n: noise(seed), leases: map[job]int{}, lease: map[int]job{}, done: map[job]string{}, over: map[int]int{}, fails: []int{0, 1, 4, 8}[seed%4]}
	for _, name := range []string{"h", "g"} {
		p.do(api.Command{Kind: api.CDag, Dag: tree(&p.n, name, 1+p.n.below(5))})
	}
	for _, key := range []string{"m", "k", "l"} {
		p.do(api.Command{Kind: api.CStart, Key: key, Name: pick(&p.n, []string{"g", "h"})})
	}
	for range 3000 {
		if !p.goOn() {
			return p
		}
		p.poll()
		p.tell()
		p.tell()
		if p.n.below(200) == 0 {
			p.do(api.Command{Kind: api.CCancel, Key: pick(&p.n, []string{"k", "l", "m"})})
		}
		p.do(api.Command{Kind: api.CTick, Time: p.w.Now + p.n.below(4)})
		p.hold()
	}
	t.Fatalf("%v does not end", p.w)
	return p
}

func TestLeases(t *testing.T) {
	ends, leases, most := map[int]int{}, 0, 0
	for seed := range 120 {
		p := played(t, seed)
		p.hold()
		for _, r := range p.w.Runs {
			a := p.do(api.Command{Kind: api.CState, Key: r.Key})
			ends[a.Is]++
			for i, s := range a.States {
				leases += p.leases[job{r.Key, i}]
				if s.Is == api.SLost && s.Tried == r.Dag.Tasks[i].Tries {
					most++
				}
			}
		}
		if a := p.do(api.Command{Kind: api.CPoll}); a.Why != api.ErrIdle || len(p.lease) != p.w.Token {
			t.Errorf("behind the end, with %d leases: %v", len(p.lease), a)
		}
		if w, as := Fold(p.told...); !same(w, p.w) || len(as) != len(p.told) {
			t.Errorf("the same commands, folded: %v; were %v", w, p.w)
		}
	}
	if ends[api.RDone] < 50 || ends[api.RLost] < 50 || ends[api.RGone] < 5 || leases < 1000 || most < 50 {
		t.Errorf("plays end as %v, behind %d leases, %d of them the last of a task", ends, leases, most)
	}
}

// Nobody answers: each task is leased as often as it may be tried, each time with a token of its own.
func TestAsManyLeasesAsTries(t *testing.T) {
	for tries := 1; tries <= 8; tries++ {
		d := one("g")
		d.Tasks[0].Tries = tries
		w, _ := mustDo(t, api.World{}, api.Command{Kind: api.CDag, Dag: d}, api.Command{Kind: api.CStart, Key: "k", Name: "g"})
		leases := 0
		for now := range 2000 {
			var a api.Answer
			w, _ = mustDo(t, w, api.Command{Kind: api.CTick, Time: now})
			if w, a = Do(w, api.Command{Kind: api.CPoll}); a.Why == api.OK {
				leases++
				if a.Token != leases || a.Key != "k" || a.Task != 0 {
					t.Errorf("of %d tries, lease %d: %v", tries, leases, a)
				}
			}
		}
		_, a := mustDo(t, w, api.Command{Kind: api.CState, Key: "k"})
		if leases != tries || !sameAnswer(a, api.Answer{Key: "k", Is: api.RLost, States: []api.State{{Is: api.SLost, Tried: tries}}}) {
			t.Errorf("of %d tries, behind %d leases: %v", tries, leases, a)
		}
	}
}

// The rules, and P1

// roomy is a world whose lists have room behind their ends, where a careless append would write, and of which several are one.
func roomy() api.World {
	needs := []int{0, 91, 92, 93}
	tasks := []api.Task{{Tries: 2, Wait: 3, Lease: 5}, {Needs: needs[:1], Tries: 2, Wait: 3, Lease: 5}, {Tries: 91}}
	dags := []api.Dag{{Name: "f", Tasks: tasks[:2]}, {Name: "h", Tasks: tasks[:2]}, {Name: "y"}, {Name: "z"}}
	states := []api.State{held(1, 15, 7), waits(), held(1, 15, 71)}
	fresh := []api.State{dueAt(0, 0), waits(), held(1, 15, 72)}
	runs := []api.Run{
		{Key: "a", Dag: dags[0], States: states[:2]},
		{Key: "b", Dag: dags[1], States: fresh[:2]},
		{Key: "y", Dag: dags[1], States: fresh[:2]},
		{Key: "z"}, {Key: "zz"},
	}
	return api.World{Now: 10, Token: 8, Dags: dags[:2], Runs: runs[:3]}
}

// snap is all that lies in a world's lists, also behind their ends.
func snap(w api.World) api.World {
	w.Dags, w.Runs = w.Dags[:cap(w.Dags)], w.Runs[:cap(w.Runs)]
	w = copied(w)
	for i := range w.Dags {
		w.Dags[i] = snapDag(w.Dags[i])
	}
	for i, r := range w.Runs {
		w.Runs[i].Dag, w.Runs[i].States = snapDag(r.Dag), slices.Clone(r.States[:cap(r.States)])
	}
	return w
}

func snapDag(d api.Dag) api.Dag {
	d.Tasks = slices.Clone(d.Tasks[:cap(d.Tasks)])
	for i, x := range d.Tasks {
		d.Tasks[i].Needs = slices.Clone(x.Needs[:cap(x.Needs)])
	}
	return d
}

// spoil writes over a world's lists, also behind their ends.
func spoil(w api.World) {
	dags, runs := w.Dags[:cap(w.Dags)], w.Runs[:cap(w.Runs)]
	for i, d := range dags {
		spoilDag(d)
		dags[i] = api.Dag{Name: "spoilt"}
	}
	for i, r := range runs {
		spoilDag(r.Dag)
		spoilStates(r.States)
		runs[i] = api.Run{Key: "spoilt"}
	}
}

func spoilDag(d api.Dag) {
	tasks := d.Tasks[:cap(d.Tasks)]
	for i, x := range tasks {
		needs := x.Needs[:cap(x.Needs)]
		for j := range needs {
			needs[j] = -7
		}
		tasks[i] = api.Task{Tries: -7}
	}
}

func spoilStates(states []api.State) {
	states = states[:cap(states)]
	for i := range states {
		states[i] = api.State{Is: -7}
	}
}

// roomyCommands are commands at that world, of which each kind is answered OK at least once.
func roomyCommands() []api.Command {
	row := snapDag(roomy().Dags[0])
	row.Name = "g"
	row.Tasks = row.Tasks[:2]
	all := append(commands(), api.Command{Kind: api.CDag, Dag: row}, api.Command{Kind: api.CDag, Dag: roomy().Dags[0]})
	return append(all,
		api.Command{Kind: api.CStart, Key: "c", Name: "f"},
		api.Command{Kind: api.CPoll},
		api.Command{Kind: api.CBeat, Token: 7},
		api.Command{Kind: api.CDone, Token: 7, Text: "x"},
		api.Command{Kind: api.CFail, Token: 7},
		api.Command{Kind: api.CCancel, Key: "a"},
		api.Command{Kind: api.CTick, Time: 30},
		api.Command{Kind: api.CState, Key: "a"},
		api.Command{Kind: api.CSync},
	)
}

// R4: what was handed in has its lists as it had them, whatever is made of it, also when that is written over.
func TestNoArgumentIsChanged(t *testing.T) {
	answered := map[int]int{}
	for _, w := range []api.World{roomy(), {Now: 20, Token: 1, Runs: roomy().Runs}} {
		was := snap(w)
		for _, c := range roomyCommands() {
			graph := snapDag(c.Dag)
			hold := func(when string) {
				t.Helper()
				if now := snap(w); !same(now, was) || !sameDag(snapDag(c.Dag), graph) {
					t.Fatalf("%v, %s: %v, %v; was %v, %v", c, when, now, c.Dag, was, graph)
				}
			}
			g, a := Do(w, c)
			hold("done")
			if a.Why == api.OK {
				answered[c.Kind]++
			}
			made, states := copied(g), slices.Clone(a.States)
			again, b := Do(w, c)
			spoil(again)
			hold("the world written over")
			if !slices.Equal(b.States, states) {
				t.Fatalf("%v: the answer shares a list with the world: %v", c, b)
			}
			spoilStates(a.States)
			hold("the answer written over")
			if !same(g, made) {
				t.Fatalf("%v: the world shares a list with the answer: %v", c, g)
			}
			if third, _ := Do(w, c); !same(third, made) {
				t.Fatalf("%v, again: %v; was %v", c, third, made)
			}
		}
		Right(w)
		if now := snap(w); !same(now, was) {
			t.Fatalf("Right: %v; was %v", now, was)
		}
	}
	for kind := api.CDag; kind <= api.CSync; kind++ {
		if answered[kind] == 0 {
			t.Errorf("kind %d was never answered OK", kind)
		}
	}
}

// Also no two lists of one world are one, where those handed in are.
func TestListsOfAWorldAreApart(t *testing.T) {
	change := func(d api.Dag) {
		last := len(d.Tasks) - 1
		for i := range d.Tasks[last].Needs {
			d.Tasks[last].Needs[i] = -7
		}
		d.Tasks[last].Tries = -7
	}
	for _, c := range roomyCommands() {
		g, _ := Do(roomy(), c)
		was := copied(g)
		for i := range g.Dags {
			change(g.Dags[i])
			change(was.Dags[i])
			if !same(g, was) {
				t.Fatalf("%v: graph %d shares a list: %v; want %v", c, i, g, was)
			}
		}
		for i := range g.Runs {
			change(g.Runs[i].Dag)
			change(was.Runs[i].Dag)
			g.Runs[i].States[0].Is, was.Runs[i].States[0].Is = -7, -7
			if !same(g, was) {
				t.Fatalf("%v: run %d shares a list: %v; want %v", c, i, g, was)
			}
		}
	}
}

// What Fold tells shares no list with its commands, and no two answers share one.
func TestListsOfAFoldAreApart(t *testing.T) {
	needs := []int{0, 91}
	d := api.Dag{Name: "g", Tasks: []api.Task{{Tries: 2, Lease: 5}, {Needs: needs[:1], Tries: 2, Lease: 5}}}
	ask := api.Command{Kind: api.CState, Key: "k"}
	all := []api.Command{{Kind: api.CDag, Dag: d}, {Kind: api.CStart, Key: "k", Name: "g"}, ask, ask, {Kind: api.CPoll}, {}}
	was := slices.Clone(all)
	w, as := Fold(all...)
	made := copied(w)
	for i := range all {
		if all[i].Kind != was[i].Kind || all[i].Key != was[i].Key || !sameDag(all[i].Dag, was[i].Dag) {
			t.Errorf("command %d is %v by now", i, all[i])
		}
	}
	spoilStates(as[2].States)
	if as[3].States[0] != dueAt(0, 0) || !same(w, made) {
		t.Errorf("the second answer is %v by now, the world %v", as[3], w)
	}
	spoilDag(d)
	if !same(w, made) {
		t.Errorf("the world is %v by now", w)
	}
}

// R3: a nil list counts as an empty one.
func TestNilAndEmptyLists(t *testing.T) {
	for _, none := range [][]int{nil, {}} {
		for _, other := range [][]int{nil, {}} {
			w := api.World{Dags: []api.Dag{graph("g", none, []int{0})}, Runs: []api.Run{of("k", graph("g", other, []int{0}), api.RGoes, dueAt(0, 0), waits())}}
			if !Right(w) {
				t.Errorf("%v may not be", w)
			}
			if g, a := Do(w, api.Command{Kind: api.CDag, Dag: graph("g", other, []int{0})}); !same(g, w) || !sameAnswer(a, api.Answer{}) {
				t.Errorf("the same graph again: %v, %v", g, a)
			}
		}
	}
	for _, w := range []api.World{{}, {Dags: []api.Dag{}, Runs: []api.Run{}}} {
		if !Right(w) {
			t.Errorf("%v may not be", w)
		}
		for _, c := range commands() {
			hold(t, w, c)
		}
	}
	w := full(1, 1)
	w.Runs[0].States = []api.State{}
	if Right(w) {
		t.Errorf("Right(%v)", w)
	}
	if g, a := Do(w, api.Command{Kind: api.CSync}); !same(g, w) || !sameAnswer(a, why(api.ErrArg)) {
		t.Errorf("Do of what may not be: %v, %v", g, a)
	}
}

// R1: no call hangs on what was called ahead of it.
func TestNothingIsKept(t *testing.T) {
	n := noise(203)
	first := mixed(&n, 60)
	w, as := Fold(first...)
	for range 5 {
		Fold(mixed(&n, 60)...)
		if g, bs := Fold(first...); !same(g, w) || !slices.EqualFunc(bs, as, sameAnswer) {
			t.Errorf("%v, %v; then %v, %v", w, as, g, bs)
		}
	}
}

// R5: Names and Keys are held against one another byte by byte, and told as they are.
func TestNamesAreBytes(t *testing.T) {
	names := []string{"\x00", "\x00\x00", "A", "a", "a\x00", "aa", "u\u0308", "z", "\x7f", "\x80", "ü", "\xff", "\xff\xff"}
	n := noise(204)
	for range 20 {
		order := slices.Clone(names)
		for i := range order {
			j := n.below(i + 1)
			order[i], order[j] = order[j], order[i]
		}
		w := api.World{}
		for _, name := range order {
			w, _ = mustDo(t, w, api.Command{Kind: api.CDag, Dag: one(name)})
		}
		for _, key := range order {
			w, _ = mustDo(t, w, api.Command{Kind: api.CStart, Key: key, Name: key})
		}
		for i, name := range names {
			if w.Dags[i].Name != name || w.Runs[i].Key != name || w.Runs[i].Dag.Name != name {
				t.Fatalf("%q: at %d is %q, %v", order, i, w.Dags[i].Name, w.Runs[i])
			}
		}
		for i, name := range names {
			var a api.Answer
			if w, a = mustDo(t, w, api.Command{Kind: api.CPoll}); !sameAnswer(a, api.Answer{Key: name, Token: i + 1}) {
				t.Fatalf("lease %d: %v; want %q", i, a, name)
			}
			if _, a = mustDo(t, w, api.Command{Kind: api.CState, Key: name}); a.Key != name {
				t.Fatalf("state of %q: %v", name, a)
			}
		}
	}
}

// spoiled is a world that could be one, but for some faults.
func spoiled(n *noise) api.World {
	w, _ := Fold(mixed(n, n.below(40))...)
	numbers := append(times(), tokens()...)
	for range n.below(3) {
		spoilOne(n, &w, numbers)
	}
	return w
}

func spoilOne(n *noise, w *api.World, numbers []int) {
	switch n.below(8) {
	case 0:
		w.Now = pick(n, numbers)
	case 1:
		w.Token = pick(n, numbers)
	case 2:
		w.Dags = append(w.Dags, pick(n, dags()))
	case 3:
		w.Dags = w.Dags[:n.below(len(w.Dags)+1)]
	case 4:
		w.Runs = append(w.Runs, of(pick(n, keys()), pick(n, dags()), n.below(5)-1, pick(n, []api.State{dueAt(0, 0), ok(), waits(), held(1, 15, pick(n, numbers))})))
	case 5:
		w.Dags = slices.Repeat(w.Dags, n.below(20))
	case 6:
		w.Runs = slices.Repeat(w.Runs, n.below(70))
	case 7:
		for i := range w.Runs {
			for j := range w.Runs[i].States {
				switch n.below(6) {
				case 0:
					w.Runs[i].States[j].Token = pick(n, numbers)
				case 1:
					w.Runs[i].States[j] = api.State{Is: n.below(8) - 1, Tried: pick(n, numbers), Due: pick(n, numbers), Token: pick(n, numbers), Result: strings.Repeat("r", n.below(20))}
				}
			}
		}
	}
}

// P1: at all arguments every call ends and none panics; of a Why but OK all else is zero, and the world stays.
func TestEveryCallEnds(t *testing.T) {
	n := noise(205)
	may := 0
	for range 6000 {
		w := spoiled(&n)
		if Right(w) != right(w) {
			t.Fatalf("Right(%v) = %t", w, Right(w))
		}
		if Right(w) {
			may++
		}
		c := asked(&n, pick(&n, kinds()))
		g, a := hold(t, w, c)
		if a.Why != api.OK && (!same(g, w) || !sameAnswer(a, why(a.Why))) || a.Why == api.OK && !Right(g) {
			t.Fatalf("Do(%v, %v) = %v, %v", w, c, g, a)
		}
	}
	if may < 1500 || may > 4500 {
		t.Errorf("%d of them may be", may)
	}
}
