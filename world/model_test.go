package world

import (
	"math"
	"slices"
	"strings"
	"testing"

	"penelope/api"
	"penelope/dag"
	"penelope/run"
)

const (
	lowest  = math.MinInt
	highest = math.MaxInt
	end     = 1 << 40 // the last time, and the last token
)

// noise tells numbers that look like no pattern, the same ones each time.
type noise uint32

func (n *noise) below(limit int) int {
	*n = *n*1664525 + 1013904223
	return int(uint32(*n)>>8) % limit
}

func pick[T any](n *noise, all []T) T { return all[n.below(len(all))] }

// graph is one of tasks of two tries with these needs.
func graph(name string, needs ...[]int) api.Dag {
	d := api.Dag{Name: name}
	for _, l := range needs {
		d.Tasks = append(d.Tasks, api.Task{Needs: l, Tries: 2, Wait: 3, Lease: 5})
	}
	return d
}

// one is a graph of one task, row one of two, of which the second needs the first.
func one(name string) api.Dag { return graph(name, nil) }

func row(name string) api.Dag { return graph(name, nil, []int{0}) }

func held(tried, due, token int) api.State {
	return api.State{Is: api.SHeld, Tried: tried, Due: due, Token: token}
}

func dueAt(tried, due int) api.State { return api.State{Is: api.SDue, Tried: tried, Due: due} }

func gone(tried int) api.State { return api.State{Is: api.SGone, Tried: tried} }

func ok() api.State { return api.State{Is: api.SDone, Tried: 1, Result: "ok"} }

func lost() api.State { return api.State{Is: api.SLost, Tried: 2} }

func waits() api.State { return api.State{} }

// of is a run of a graph.
func of(key string, d api.Dag, is int, states ...api.State) api.Run {
	return api.Run{Key: key, Dag: d, Is: is, States: states}
}

// copied shares no list with the world.
func copied(w api.World) api.World {
	var dags []api.Dag
	for _, d := range w.Dags {
		dags = append(dags, copiedDag(d))
	}
	var all []api.Run
	for _, r := range w.Runs {
		r.Dag, r.States = copiedDag(r.Dag), append([]api.State(nil), r.States...)
		all = append(all, r)
	}
	w.Dags, w.Runs = dags, all
	return w
}

func copiedDag(d api.Dag) api.Dag {
	var tasks []api.Task
	for _, t := range d.Tasks {
		t.Needs = append([]int(nil), t.Needs...)
		tasks = append(tasks, t)
	}
	d.Tasks = tasks
	return d
}

func sameTask(a, b api.Task) bool {
	return slices.Equal(a.Needs, b.Needs) && a.Tries == b.Tries && a.Wait == b.Wait && a.Lease == b.Lease
}

func sameDag(a, b api.Dag) bool {
	return a.Name == b.Name && slices.EqualFunc(a.Tasks, b.Tasks, sameTask)
}

func sameRun(a, b api.Run) bool {
	return a.Key == b.Key && a.Is == b.Is && sameDag(a.Dag, b.Dag) && slices.Equal(a.States, b.States)
}

// same holds worlds against one another; a nil list is an empty one (R3).
func same(a, b api.World) bool {
	return a.Now == b.Now && a.Token == b.Token && slices.EqualFunc(a.Dags, b.Dags, sameDag) && slices.EqualFunc(a.Runs, b.Runs, sameRun)
}

func sameAnswer(a, b api.Answer) bool {
	return a.Why == b.Why && a.Key == b.Key && a.Task == b.Task && a.Token == b.Token && a.Is == b.Is && slices.Equal(a.States, b.States)
}

// The chapter's words, said one by one.

func right(w api.World) bool {
	if w.Now < 0 || w.Now > end || w.Token < 0 || w.Token > end || len(w.Dags) > 16 || len(w.Runs) > 64 {
		return false
	}
	for i, d := range w.Dags {
		if dag.Right(d) != 0 || i > 0 && w.Dags[i-1].Name >= d.Name {
			return false
		}
	}
	told := map[int]int{}
	for i, r := range w.Runs {
		if !run.Right(r) || i > 0 && w.Runs[i-1].Key >= r.Key || !slices.ContainsFunc(w.Dags, func(d api.Dag) bool { return sameDag(d, r.Dag) }) {
			return false
		}
		for _, s := range r.States {
			if s.Token > w.Token || s.Token > 0 && told[s.Token] > 0 {
				return false
			}
			told[s.Token]++
		}
	}
	return true
}

// named is the place of what has a name, or -1.
func named(count int, name string, of func(int) string) int {
	for i := range count {
		if of(i) == name {
			return i
		}
	}
	return -1
}

func graphOf(w api.World, name string) int {
	return named(len(w.Dags), name, func(i int) string { return w.Dags[i].Name })
}

func runOf(w api.World, key string) int {
	return named(len(w.Runs), key, func(i int) string { return w.Runs[i].Key })
}

// why is an answer of an error alone.
func why(e api.Errno) api.Answer { return api.Answer{Why: e} }

func do(w api.World, c api.Command) (api.World, api.Answer) {
	if !right(w) {
		return w, why(1)
	}
	w = copied(w)
	switch c.Kind {
	case 1:
		return doDag(w, c.Dag)
	case 2:
		return doStart(w, c.Key, c.Name)
	case 3:
		return doPoll(w)
	case 4, 5, 6:
		return doTell(w, c)
	case 7:
		return doCancel(w, c.Key)
	case 8:
		if c.Time < 0 || c.Time > end {
			return w, why(1)
		}
		if c.Time > w.Now {
			w.Now = c.Time
		}
		return w, why(0)
	case 9:
		i := runOf(w, c.Key)
		if i < 0 {
			return w, why(190)
		}
		r, e := run.Settle(w.Runs[i], w.Now)
		return w, api.Answer{Why: e, Key: c.Key, Is: r.Is, States: r.States}
	case 10:
		return w, why(0)
	}
	return w, why(230)
}

func doDag(w api.World, d api.Dag) (api.World, api.Answer) {
	if e := dag.Right(d); e != 0 {
		return w, why(e)
	}
	if i := graphOf(w, d.Name); i >= 0 {
		if !sameDag(w.Dags[i], d) {
			return w, why(161)
		}
		return w, why(0)
	}
	if len(w.Dags) == 16 {
		return w, why(2)
	}
	w.Dags = append(w.Dags, copiedDag(d))
	slices.SortFunc(w.Dags, func(a, b api.Dag) int { return strings.Compare(a.Name, b.Name) })
	return w, why(0)
}

func doStart(w api.World, key, name string) (api.World, api.Answer) {
	if len(key) < 1 || len(key) > 16 {
		return w, why(1)
	}
	g := graphOf(w, name)
	if g < 0 {
		return w, why(161)
	}
	if i := runOf(w, key); i >= 0 {
		if w.Runs[i].Dag.Name != name {
			return w, why(190)
		}
		return w, why(0)
	}
	if len(w.Runs) == 64 {
		return w, why(2)
	}
	r, e := run.New(key, w.Dags[g])
	w.Runs = append(w.Runs, r)
	slices.SortFunc(w.Runs, func(a, b api.Run) int { return strings.Compare(a.Key, b.Key) })
	return w, why(e)
}

func doPoll(w api.World) (api.World, api.Answer) {
	if w.Token == end {
		return w, why(192)
	}
	for i, r := range w.Runs {
		g, task, e := run.Lease(r, w.Now, w.Token+1)
		if e == 0 {
			w.Runs[i] = g
			w.Token++
			return w, api.Answer{Key: r.Key, Task: task, Token: w.Token}
		}
	}
	return w, why(192)
}

func doTell(w api.World, c api.Command) (api.World, api.Answer) {
	for i, r := range w.Runs {
		for _, s := range r.States {
			if s.Is != 2 || s.Token != c.Token {
				continue
			}
			var e api.Errno
			switch c.Kind {
			case 4:
				r, e = run.Beat(r, w.Now, c.Token)
			case 5:
				r, e = run.Done(r, w.Now, c.Token, c.Text)
			case 6:
				r, e = run.Fail(r, w.Now, c.Token)
			}
			if e != 0 {
				return w, why(e)
			}
			w.Runs[i] = r
			return w, api.Answer{Key: r.Key}
		}
	}
	return w, why(191)
}

func doCancel(w api.World, key string) (api.World, api.Answer) {
	i := runOf(w, key)
	if i < 0 {
		return w, why(190)
	}
	r, e := run.Cancel(w.Runs[i], w.Now)
	if e == 0 {
		w.Runs[i] = r
	}
	return w, why(e)
}

// Arguments at the edges that the chapter names, and beyond them.

func times() []int {
	return []int{lowest, -1, 0, 1, 10, 14, 15, 16, 19, 20, end - 1, end, end + 1, highest}
}

func tokens() []int {
	return []int{lowest, -1, 0, 1, 2, 3, 4, 7, 8, 9, end - 1, end, end + 1, highest}
}

func texts() []string {
	return []string{"", "x", strings.Repeat("r", 16), strings.Repeat("r", 17)}
}

func keys() []string {
	return []string{"", "a", "a\x00", "aa", "b", "k", "z", "\x00", "\xff", strings.Repeat("k", 16), strings.Repeat("k", 17), "k00", "k01x", "k62", "k63", "k64"}
}

func names() []string {
	return []string{"", "g", "g\x00", "gg", "h", "p", "g00", "g07x", "g15", "g16", strings.Repeat("g", 16), strings.Repeat("g", 17)}
}

func kinds() []int { return []int{lowest, -1, 0, 1, 2, 3, 4, 5, 6, 7, 8, 9, 10, 11, highest} }

// dags are graphs, some of which may not be, for each of the reasons.
func dags() []api.Dag {
	all := []api.Dag{{}, {Name: "g"}, graph("g", make([][]int, 11)...), graph("g", []int{0}), graph("g", []int{1}, []int{0}), graph("g", nil, []int{2}), graph("", make([][]int, 11)...)}
	for _, name := range names() {
		all = append(all, one(name), row(name))
	}
	for _, change := range []func(*api.Task){
		func(t *api.Task) { t.Tries = 3 },
		func(t *api.Task) { t.Wait = 4 },
		func(t *api.Task) { t.Lease = 6 },
		func(t *api.Task) { t.Needs = nil },
		func(t *api.Task) { t.Tries = 9 },
		func(t *api.Task) { t.Lease = 0 },
	} {
		d := row("g")
		change(&d.Tasks[1])
		all = append(all, d)
	}
	return all
}

// asked is a command of a kind, whose other fields hold something each.
func asked(n *noise, kind int) api.Command {
	return api.Command{Kind: kind, Key: pick(n, keys()), Name: pick(n, names()), Token: pick(n, tokens()), Time: pick(n, times()), Text: pick(n, texts()), Dag: pick(n, dags())}
}

// commands are commands of all kinds, with all edges of each field that the kind names.
func commands() []api.Command {
	n := noise(20)
	var all []api.Command
	add := func(kind int, set func(*api.Command)) {
		c := asked(&n, kind)
		set(&c)
		all = append(all, c)
	}
	for _, kind := range kinds() {
		add(kind, func(*api.Command) {})
	}
	for _, d := range dags() {
		add(api.CDag, func(c *api.Command) { c.Dag = d })
	}
	for _, key := range keys() {
		add(api.CCancel, func(c *api.Command) { c.Key = key })
		add(api.CState, func(c *api.Command) { c.Key = key })
		for _, name := range names() {
			add(api.CStart, func(c *api.Command) { c.Key, c.Name = key, name })
		}
	}
	for _, token := range tokens() {
		for _, kind := range []int{api.CBeat, api.CDone, api.CFail} {
			for _, text := range texts() {
				add(kind, func(c *api.Command) { c.Token, c.Text = token, text })
			}
		}
	}
	for _, now := range times() {
		add(api.CTick, func(c *api.Command) { c.Time = now })
	}
	return all
}

// number is a name of a letter and two digits, which rise as the numbers do.
func number(letter string, n int) string {
	return letter + string([]byte{byte('0' + n/10), byte('0' + n%10)})
}

// full is a world of so many graphs and runs, each of which begins.
func full(graphs, count int) api.World {
	w := api.World{}
	for i := range graphs {
		w.Dags = append(w.Dags, row(number("g", i)))
	}
	for i := range count {
		w.Runs = append(w.Runs, of(number("k", i), w.Dags[i%graphs], api.RGoes, dueAt(0, 0), waits()))
	}
	return w
}

// with is a world of the graphs g, gg and h, and these runs.
func with(now, token int, all ...api.Run) api.World {
	return api.World{Now: now, Token: token, Dags: []api.Dag{row("g"), one("gg"), one("h")}, Runs: all}
}

// odds are runs of each kind, of which those that are held have these tokens.
func odds(first, second, third int) []api.Run {
	return []api.Run{
		of("\x00", one("h"), api.RGone, gone(1)),
		of("a", row("g"), api.RGoes, held(1, 15, first), waits()),
		of("a\x00", row("g"), api.RGoes, ok(), held(2, 20, second)),
		of("aa", one("h"), api.RGoes, dueAt(1, 15)),
		of("b", row("g"), api.RDone, ok(), ok()),
		of("k", row("g"), api.RLost, lost(), gone(0)),
		of("z", one("h"), api.RGoes, held(1, 10, third)),
		of("\xff", one("gg"), api.RGoes, dueAt(0, 0)),
	}
}

// sound are worlds that may be, with Now and Token at their edges and runs of each kind.
func sound() []api.World {
	all := []api.World{full(1, 0), full(15, 0), full(16, 0), full(16, 63), full(16, 64), full(1, 64), full(16, 1)}
	for _, now := range []int{0, 1, 10, 14, 15, 19, 20, end - 1, end} {
		for _, token := range []int{0, 1, 9, end - 1, end} {
			all = append(all, api.World{Now: now, Token: token}, with(now, token))
			if token >= 9 {
				all = append(all, with(now, token, odds(7, 8, 9)...), with(now, token, odds(9, 1, 4)[:7]...), with(now, token, odds(1, token, 2)[1:]...))
			}
		}
	}
	return all
}

// odd are worlds that may not be, each for a reason of its own.
func odd() []api.World {
	all := []api.World{full(17, 0), full(16, 65), full(17, 65)}
	for _, n := range []int{lowest, -1, end + 1, highest} {
		all = append(all, api.World{Now: n}, api.World{Token: n})
	}
	for _, change := range []func(*api.World){
		func(w *api.World) { w.Token = 8 },
		func(w *api.World) { w.Dags[0], w.Dags[1] = w.Dags[1], w.Dags[0] },
		func(w *api.World) { w.Dags = w.Dags[:2] },
		func(w *api.World) { w.Dags = w.Dags[1:] },
		func(w *api.World) { w.Dags = append(w.Dags, one("h")) },
		func(w *api.World) { w.Dags = append(w.Dags, row("h")) },
		func(w *api.World) { w.Dags = append(w.Dags, one("")) },
		func(w *api.World) { w.Dags = append(w.Dags, one(strings.Repeat("z", 17))) },
		func(w *api.World) { w.Dags = append(w.Dags, graph("z", []int{0})) },
		func(w *api.World) { w.Dags[0] = one("g") },
		func(w *api.World) { w.Dags[2].Tasks[0].Wait++ },
		func(w *api.World) { w.Runs[0], w.Runs[1] = w.Runs[1], w.Runs[0] },
		func(w *api.World) { w.Runs = append(w.Runs, w.Runs[7]) },
		func(w *api.World) { w.Runs[7].Key = "" },
		func(w *api.World) { w.Runs[7].Key = strings.Repeat("\xff", 17) },
		func(w *api.World) { w.Runs[7].Is = api.RDone },
		func(w *api.World) { w.Runs[7].States = nil },
		func(w *api.World) { w.Runs[7].Dag = one("x") },
		func(w *api.World) { w.Runs[7].Dag = one("") },
		func(w *api.World) {
			w.Runs[7].Dag = graph("gg", nil, nil)
			w.Runs[7].States = slices.Repeat(w.Runs[7].States, 2)
		},
		func(w *api.World) { w.Runs[1].States[0].Token = 8 },
		func(w *api.World) { w.Runs[6].States[0].Token = 7 },
		func(w *api.World) { w.Runs[6].States[0].Token = 10 },
		func(w *api.World) { w.Runs[6].States[0].Token = 0 },
	} {
		w := copied(with(10, 9, odds(7, 8, 9)...))
		change(&w)
		all = append(all, w)
	}
	return all
}

// hold holds a command against the chapter's words.
func hold(t *testing.T, w api.World, c api.Command) (api.World, api.Answer) {
	t.Helper()
	g, a := Do(w, c)
	want, answer := do(w, c)
	if !same(g, want) || !sameAnswer(a, answer) {
		t.Fatalf("Do(%v, %v) = %v, %v; want %v, %v", w, c, g, a, want, answer)
	}
	return g, a
}

func TestCommandsAreAsWritten(t *testing.T) {
	told := map[int]map[api.Errno]int{}
	for _, w := range sound() {
		if !Right(w) || !right(w) {
			t.Fatalf("%v may not be", w)
		}
		for _, c := range commands() {
			_, a := hold(t, w, c)
			if told[c.Kind] == nil {
				told[c.Kind] = map[api.Errno]int{}
			}
			told[c.Kind][a.Why]++
		}
	}
	for kind, errors := range map[int][]api.Errno{
		0:           {api.ErrFrame},
		api.CDag:    {api.OK, api.ErrArg, api.ErrLong, api.ErrCycle, api.ErrDag},
		api.CStart:  {api.OK, api.ErrArg, api.ErrLong, api.ErrDag, api.ErrRun},
		api.CPoll:   {api.OK, api.ErrIdle},
		api.CBeat:   {api.OK, api.ErrToken},
		api.CDone:   {api.OK, api.ErrArg, api.ErrToken},
		api.CFail:   {api.OK, api.ErrToken},
		api.CCancel: {api.OK, api.ErrRun, api.ErrDone},
		api.CTick:   {api.OK, api.ErrArg},
		api.CState:  {api.OK, api.ErrRun},
		api.CSync:   {api.OK},
		11:          {api.ErrFrame},
	} {
		for _, e := range errors {
			if told[kind][e] == 0 {
				t.Errorf("kind %d never told %d", kind, e)
			}
		}
		if len(told[kind]) != len(errors) {
			t.Errorf("kind %d told %v; want %v", kind, told[kind], errors)
		}
	}
}

func TestCommandsOfWhatMayNotBeAreAsWritten(t *testing.T) {
	for i, w := range odd() {
		if Right(w) || right(w) {
			t.Fatalf("world %d may be: %v", i, w)
		}
		for _, c := range commands() {
			hold(t, w, c)
		}
	}
}

// mixed are commands that play a world: most of them may be.
func mixed(n *noise, count int) []api.Command {
	all := []api.Command{{Kind: api.CDag, Dag: row("g")}, {Kind: api.CDag, Dag: one("h")}}
	now, token := 0, 1
	for range count {
		c := api.Command{Key: pick(n, keys()), Name: pick(n, []string{"g", "g", "h", "gg", "x"}), Token: max(0, token-n.below(6)), Time: now, Text: pick(n, texts()), Dag: pick(n, dags())}
		switch c.Kind = n.below(12); c.Kind {
		case api.CPoll:
			token++
		case api.CTick:
			now += n.below(4)
		case api.CCancel:
			if n.below(3) > 0 {
				c.Kind = api.CDone
			}
		}
		all = append(all, c)
	}
	return all
}

func TestFoldIsAsWritten(t *testing.T) {
	n := noise(202)
	for range 300 {
		all := mixed(&n, n.below(120))
		want, answers := api.World{}, []api.Answer{}
		for _, c := range all {
			var a api.Answer
			want, a = hold(t, want, c)
			answers = append(answers, a)
		}
		if w, as := Fold(all...); !same(w, want) || !slices.EqualFunc(as, answers, sameAnswer) {
			t.Fatalf("Fold(%v) = %v, %v; want %v, %v", all, w, as, want, answers)
		}
	}
}
