package frame

import (
	"fmt"
	"hash/crc32"
	"math"
	"slices"
	"strings"
	"testing"

	"penelope/api"
	"penelope/dag"
	"penelope/engine"
	"penelope/task"
	"penelope/world"
)

const (
	lowest  = math.MinInt
	highest = math.MaxInt
	end     = 1 << 40 // the last time, and the last token, of a world
	most    = 1<<48 - 1
)

// noise tells numbers that look like no pattern, the same ones each time.
type noise uint32

func (n *noise) below(limit int) int {
	*n = *n*1664525 + 1013904223
	return int(uint32(*n)>>8) % limit
}

func pick[T any](n *noise, all []T) T { return all[n.below(len(all))] }

func long(letter string, size int) string { return strings.Repeat(letter, size) }

// Graphs.

// graph is one of tasks of two tries with these needs.
func graph(name string, needs ...[]int) api.Dag {
	d := api.Dag{Name: name}
	for _, l := range needs {
		d.Tasks = append(d.Tasks, api.Task{Needs: l, Tries: 2, Wait: 3, Lease: 5})
	}
	return d
}

// row is a graph of two tasks, of which the second needs the first.
func row(name string) api.Dag { return graph(name, nil, []int{0}) }

// wide is the graph of the most bytes: ten tasks, each of which needs all that are ahead of it, with the highest numbers.
func wide() api.Dag {
	d := api.Dag{Name: long("g", 16)}
	for i := range 10 {
		t := api.Task{Tries: 8, Wait: 1 << 20, Lease: 1 << 20}
		for j := range i {
			t.Needs = append(t.Needs, j)
		}
		d.Tasks = append(d.Tasks, t)
	}
	return d
}

// Commands.

func dagOf(d api.Dag) api.Command { return api.Command{Kind: api.CDag, Dag: d} }

func start(key, name string) api.Command {
	return api.Command{Kind: api.CStart, Key: key, Name: name}
}

func poll() api.Command { return api.Command{Kind: api.CPoll} }

func beat(token int) api.Command { return api.Command{Kind: api.CBeat, Token: token} }

func done(token int, text string) api.Command {
	return api.Command{Kind: api.CDone, Token: token, Text: text}
}

func fail(token int) api.Command { return api.Command{Kind: api.CFail, Token: token} }

func cancel(key string) api.Command { return api.Command{Kind: api.CCancel, Key: key} }

func tick(time int) api.Command { return api.Command{Kind: api.CTick, Time: time} }

func state(key string) api.Command { return api.Command{Kind: api.CState, Key: key} }

func sync() api.Command { return api.Command{Kind: api.CSync} }

// Copies, which share no list.

func copiedDag(d api.Dag) api.Dag {
	var tasks []api.Task
	for _, t := range d.Tasks {
		t.Needs = append([]int(nil), t.Needs...)
		tasks = append(tasks, t)
	}
	d.Tasks = tasks
	return d
}

func copiedEngine(e api.Engine) api.Engine {
	e.Blocks, e.Pending = slices.Clone(e.Blocks), slices.Clone(e.Pending)
	e.Wood.Base, e.Wood.Now, e.Wood.Pages = slices.Clone(e.Wood.Base), slices.Clone(e.Wood.Now), slices.Clone(e.Wood.Pages)
	e.World.Dags, e.World.Runs = slices.Clone(e.World.Dags), slices.Clone(e.World.Runs)
	for i, d := range e.World.Dags {
		e.World.Dags[i] = copiedDag(d)
	}
	for i, r := range e.World.Runs {
		r.Dag, r.States = copiedDag(r.Dag), slices.Clone(r.States)
		e.World.Runs[i] = r
	}
	return e
}

// What is one; a nil list is an empty one (R3).

func sameTask(a, b api.Task) bool {
	return slices.Equal(a.Needs, b.Needs) && a.Tries == b.Tries && a.Wait == b.Wait && a.Lease == b.Lease
}

func sameDag(a, b api.Dag) bool {
	return a.Name == b.Name && slices.EqualFunc(a.Tasks, b.Tasks, sameTask)
}

func sameCommand(a, b api.Command) bool {
	return a.Kind == b.Kind && a.Key == b.Key && a.Name == b.Name && a.Token == b.Token && a.Time == b.Time && a.Text == b.Text && sameDag(a.Dag, b.Dag)
}

func sameAnswer(a, b api.Answer) bool {
	return a.Why == b.Why && a.Key == b.Key && a.Task == b.Task && a.Token == b.Token && a.Is == b.Is && slices.Equal(a.States, b.States)
}

func sameRun(a, b api.Run) bool {
	return a.Key == b.Key && a.Is == b.Is && sameDag(a.Dag, b.Dag) && slices.Equal(a.States, b.States)
}

func sameWorld(a, b api.World) bool {
	return a.Now == b.Now && a.Token == b.Token && slices.EqualFunc(a.Dags, b.Dags, sameDag) && slices.EqualFunc(a.Runs, b.Runs, sameRun)
}

func sameEngine(a, b api.Engine) bool {
	return slices.Equal(a.Blocks, b.Blocks) && slices.Equal(a.Pending, b.Pending) && a.Left == b.Left &&
		a.Super == b.Super && a.Slot == b.Slot && a.Seq == b.Seq && a.Synced == b.Synced &&
		slices.Equal(a.Wood.Base, b.Wood.Base) && slices.Equal(a.Wood.Now, b.Wood.Now) && slices.Equal(a.Wood.Pages, b.Wood.Pages) &&
		a.Wood.Root == b.Wood.Root && a.Wood.Gen == b.Wood.Gen && sameWorld(a.World, b.World)
}

// brief is a value in words, without all of its long texts.
func brief(v any) string {
	s := fmt.Sprintf("%+q", v)
	if len(s) > 400 {
		return s[:400] + fmt.Sprintf("..(%d)", len(s))
	}
	return s
}

// The chapter's words, said one by one.

// sealed is a text and its sum, the lowest byte first.
func sealed(s string) string {
	sum := crc32.Checksum([]byte(s), crc32.MakeTable(crc32.Castagnoli))
	return s + string([]byte{byte(sum), byte(sum >> 8), byte(sum >> 16), byte(sum >> 24)})
}

// laid is a number in so many bytes, the highest first.
func laid(n, size int) string {
	b := make([]byte, size)
	for i := size - 1; i >= 0; i-- {
		b[i] = byte(n)
		n >>= 8
	}
	return string(b)
}

func laidText(s string) string { return laid(len(s), 2) + s }

// commandBody is what a command's bytes seal, and whether it may be written.
func commandBody(c api.Command) (string, bool) {
	bare := api.Command{Kind: c.Kind}
	var parts []string
	ok := true
	token := func() {
		bare.Token = c.Token
		ok = ok && c.Token >= 0 && c.Token <= most
		parts = append(parts, laid(c.Token, 6))
	}
	text := func(s string, into *string) {
		*into = s
		ok = ok && len(s) <= 255
		parts = append(parts, laidText(s))
	}
	switch c.Kind {
	case 1:
		bare.Dag = c.Dag
		s, e := dag.Put(c.Dag)
		ok = e == api.OK
		parts = append(parts, s)
	case 2:
		text(c.Key, &bare.Key)
		text(c.Name, &bare.Name)
	case 4, 6:
		token()
	case 5:
		token()
		text(c.Text, &bare.Text)
	case 7, 9:
		text(c.Key, &bare.Key)
	case 8:
		bare.Time = c.Time
		ok = c.Time >= 0 && c.Time <= most
		parts = append(parts, laid(c.Time, 6))
	case 3, 10:
	default:
		ok = false
	}
	if !ok || !sameCommand(c, bare) {
		return "", false
	}
	return laid(c.Kind, 1) + strings.Join(parts, ""), true
}

// answerBody is what an answer's bytes seal, and whether it may be written.
func answerBody(a api.Answer) (string, bool) {
	ok := a.Why >= 0 && a.Why <= 65535 && len(a.Key) <= 255 && a.Task >= 0 && a.Task <= 255 && a.Token >= 0 && a.Token <= most
	if !ok || a.Is < 0 || a.Is > 255 || len(a.States) > 255 {
		return "", false
	}
	s := laid(int(a.Why), 2) + laidText(a.Key) + laid(a.Task, 1) + laid(a.Token, 6) + laid(a.Is, 1) + laid(len(a.States), 1)
	for _, x := range a.States {
		bytes, e := task.Put(x)
		if e != api.OK {
			return "", false
		}
		s += laidText(bytes)
	}
	return s, true
}

func putOf(c api.Command) (string, api.Errno) {
	body, ok := commandBody(c)
	if !ok {
		return "", api.ErrArg
	}
	return sealed(body), api.OK
}

func answerOf(a api.Answer) (string, api.Errno) {
	body, ok := answerBody(a)
	if !ok {
		return "", api.ErrArg
	}
	return sealed(body), api.OK
}

// cutter takes numbers and texts off bytes; where there are too few, nothing: what is read so, written, is other bytes.
type cutter struct{ s string }

func (c *cutter) some(size int) string {
	size = min(size, len(c.s))
	s := c.s[:size]
	c.s = c.s[size:]
	return s
}

func (c *cutter) number(size int) int {
	n := 0
	for _, b := range []byte(c.some(size)) {
		n = n*256 + int(b)
	}
	return n
}

func (c *cutter) text() string { return c.some(c.number(2)) }

// bodyOf is a sealed text without its last four bytes, whether they are its sum or not.
func bodyOf(s string) string { return s[:max(0, len(s)-4)] }

// getOf tells the one command whose bytes could be these, if they are: no other one has their Kind and fields.
func getOf(s string) (api.Command, api.Errno) {
	in := &cutter{bodyOf(s)}
	c := api.Command{Kind: in.number(1)}
	switch c.Kind {
	case 1:
		c.Dag, _ = dag.Get(in.s)
	case 2:
		c.Key = in.text()
		c.Name = in.text()
	case 4, 6:
		c.Token = in.number(6)
	case 5:
		c.Token = in.number(6)
		c.Text = in.text()
	case 7, 9:
		c.Key = in.text()
	case 8:
		c.Time = in.number(6)
	}
	if bytes, e := putOf(c); e != api.OK || bytes != s {
		return api.Command{}, api.ErrFrame
	}
	return c, api.OK
}

func toldOf(s string) (api.Answer, api.Errno) {
	in := &cutter{bodyOf(s)}
	a := api.Answer{Why: api.Errno(in.number(2)), Key: in.text()}
	a.Task = in.number(1)
	a.Token = in.number(6)
	a.Is = in.number(1)
	for range in.number(1) {
		x, _ := task.Get(in.text())
		a.States = append(a.States, x)
	}
	if bytes, e := answerOf(a); e != api.OK || bytes != s {
		return api.Answer{}, api.ErrFrame
	}
	return a, api.OK
}

func serveOf(e api.Engine, frame string) (api.Engine, string) {
	c, bad := getOf(frame)
	if bad != api.OK {
		s, _ := answerOf(api.Answer{Why: api.ErrFrame})
		return e, s
	}
	e, a := engine.Do(e, c)
	s, bad := answerOf(a)
	if bad != api.OK {
		panic(fmt.Sprintf("an answer that may not be written: %v", a))
	}
	return e, s
}

// Calls, held against the words.

func holdPut(t *testing.T, c api.Command) (string, api.Errno) {
	t.Helper()
	want, bad := putOf(c)
	s, e := Put(c)
	if s != want || e != bad {
		t.Fatalf("Put(%s) = %x, %d; want %x, %d", brief(c), s, e, want, bad)
	}
	return s, e
}

func holdGet(t *testing.T, s string) (api.Command, api.Errno) {
	t.Helper()
	want, bad := getOf(s)
	c, e := Get(s)
	if !sameCommand(c, want) || e != bad {
		t.Fatalf("Get(%x) = %s, %d; want %s, %d", s, brief(c), e, brief(want), bad)
	}
	return c, e
}

func holdAnswer(t *testing.T, a api.Answer) (string, api.Errno) {
	t.Helper()
	want, bad := answerOf(a)
	s, e := Answer(a)
	if s != want || e != bad {
		t.Fatalf("Answer(%s) = %x, %d; want %x, %d", brief(a), s, e, want, bad)
	}
	return s, e
}

func holdTold(t *testing.T, s string) (api.Answer, api.Errno) {
	t.Helper()
	want, bad := toldOf(s)
	a, e := Told(s)
	if !sameAnswer(a, want) || e != bad {
		t.Fatalf("Told(%x) = %s, %d; want %s, %d", s, brief(a), e, brief(want), bad)
	}
	return a, e
}

// holdServe tells the engine, and the answer that was written.
func holdServe(t *testing.T, e api.Engine, frame string) (api.Engine, api.Answer) {
	t.Helper()
	want, bytes := serveOf(e, frame)
	made, s := Serve(e, frame)
	if !sameEngine(made, want) || s != bytes {
		t.Fatalf("Serve of %x, with power for %d: %x, and another engine: %v; want %x", frame, e.Left, s, !sameEngine(made, want), bytes)
	}
	a, bad := toldOf(s)
	if bad != api.OK {
		t.Fatalf("Serve of %x: %x", frame, s)
	}
	return made, a
}

// What is asked.

func kinds() []int {
	return []int{lowest, -1, 0, 1, 2, 3, 4, 5, 6, 7, 8, 9, 10, 11, 128, 255, 256, 257, 259, 266, 1 << 32, 1<<32 + 3, highest}
}

func longs() []int {
	return []int{lowest, lowest + 1, -1 << 48, -1, 0, 1, 255, 256, 1<<32 - 1, 1 << 32, end, end + 1, most - 1, most, most + 1, highest - 1, highest}
}

func texts() []string {
	return append(shorts(), long("ü", 128), long("y", 256), long("y", 65535), long("y", 65536))
}

// shorts are those of at most 255 bytes.
func shorts() []string {
	return []string{"", "x", "\x00", "ok", "\xff\xfe", long("ü", 127), long("y", 254), long("y", 255)}
}

func dags() []api.Dag {
	return []api.Dag{
		{},
		{Tasks: []api.Task{}},
		{Name: "g"},
		{Tasks: row("g").Tasks},
		graph("g", nil),
		graph("", nil),
		graph(long("g", 16), nil),
		graph(long("g", 17), nil),
		graph("\x00", []int{}),
		row("g"),
		wide(),
		graph("g", []int{1}, []int{0}),
		graph("g", []int{0}),
		graph("g", []int{1}),
		graph("g", make([][]int, 10)...),
		graph("g", make([][]int, 11)...),
		{Name: "g", Tasks: []api.Task{{}}},
		{Name: "g", Tasks: []api.Task{{Tries: 9, Lease: 5}}},
	}
}

// commands are those of each kind with one field of each edge, the others zero or as the kind has them.
func commands() []api.Command {
	var all []api.Command
	for _, kind := range kinds() {
		for _, c := range []api.Command{{}, {Key: "k", Name: "g", Token: 7, Time: 9, Text: "ok", Dag: row("g")}} {
			c.Kind = kind
			with := func(change func(c *api.Command)) {
				one := bareOf(c)
				change(&one)
				all = append(all, one)
			}
			with(func(*api.Command) {})
			for _, s := range texts() {
				with(func(c *api.Command) { c.Key = s })
				with(func(c *api.Command) { c.Name = s })
				with(func(c *api.Command) { c.Text = s })
			}
			for _, n := range longs() {
				with(func(c *api.Command) { c.Token = n })
				with(func(c *api.Command) { c.Time = n })
			}
			for _, d := range dags() {
				with(func(c *api.Command) { c.Dag = d })
			}
		}
	}
	return all
}

// bareOf is a command with the fields alone that the table names for its kind.
func bareOf(c api.Command) api.Command {
	switch c.Kind {
	case 1:
		return api.Command{Kind: 1, Dag: c.Dag}
	case 2:
		return api.Command{Kind: 2, Key: c.Key, Name: c.Name}
	case 4, 6:
		return api.Command{Kind: c.Kind, Token: c.Token}
	case 5:
		return api.Command{Kind: 5, Token: c.Token, Text: c.Text}
	case 7, 9:
		return api.Command{Kind: c.Kind, Key: c.Key}
	case 8:
		return api.Command{Kind: 8, Time: c.Time}
	}
	return api.Command{Kind: c.Kind}
}

// strewnCommand is one of fields of any edges, most of which may be written.
func strewnCommand(n *noise) api.Command {
	c := api.Command{Kind: pick(n, kinds()), Key: pick(n, shorts()), Name: pick(n, shorts()), Token: n.below(1 << 20), Time: n.below(1 << 20), Text: pick(n, shorts()), Dag: graph("g", nil)}
	switch n.below(8) {
	case 0:
		c.Token = pick(n, longs())
	case 1:
		c.Time = pick(n, longs())
	case 2:
		c.Dag = pick(n, dags())
	case 3:
		c.Text = long("y", 254+n.below(4))
	}
	if n.below(8) > 0 {
		c = bareOf(c)
	}
	return c
}

// written are all commands that may be written, of those at the edges.
func written() []api.Command {
	var all []api.Command
	for _, c := range commands() {
		if _, ok := commandBody(c); ok {
			all = append(all, c)
		}
	}
	return all
}

// states are some of each kind, that may stand.
func states() []api.State {
	return []api.State{
		{},
		{Is: api.SDue},
		{Is: api.SDue, Tried: 8, Due: end},
		{Is: api.SHeld, Tried: 1, Due: 15, Token: 7},
		{Is: api.SHeld, Tried: 8, Due: end, Token: end},
		{Is: api.SDone, Tried: 1},
		{Is: api.SDone, Tried: 1, Result: "ok"},
		{Is: api.SDone, Tried: 8, Due: end, Result: long("r", 16)},
		{Is: api.SLost, Tried: 2},
		{Is: api.SGone, Due: 3},
	}
}

// odds are some that may not stand.
func odds() []api.State {
	return []api.State{
		{Is: -1},
		{Is: 6},
		{Is: 256},
		{Tried: -1},
		{Tried: 9},
		{Is: api.SDue, Due: -1},
		{Is: api.SDue, Due: end + 1},
		{Is: api.SHeld, Tried: 1, Due: 3},
		{Is: api.SHeld, Tried: 1, Token: end + 1},
		{Is: api.SDue, Token: 1},
		{Is: api.SLost, Result: "r"},
		{Is: api.SDone, Tried: 1, Result: long("r", 17)},
		{Is: api.SDone, Tried: 1, Result: long("r", 255)},
		{Is: api.SDone, Tried: 1, Result: long("r", 65536)},
	}
}

// bytesAt are the numbers at the edges of one byte, and of two.
func bytesAt() []int {
	return []int{lowest, -65536, -256, -1, 0, 1, 127, 128, 254, 255, 256, 257, 65534, 65535, 65536, 65537, 1 << 32, highest}
}

// answers are those with one field of each edge, the others zero or as answers have them.
func answers() []api.Answer {
	var all []api.Answer
	for _, plain := range []api.Answer{{}, {Why: 250, Key: "k", Task: 3, Token: 7, Is: 1, States: states()}} {
		with := func(change func(a *api.Answer)) {
			a := plain
			change(&a)
			all = append(all, a)
		}
		with(func(*api.Answer) {})
		for _, n := range bytesAt() {
			with(func(a *api.Answer) { a.Why = api.Errno(n) })
			with(func(a *api.Answer) { a.Task = n })
			with(func(a *api.Answer) { a.Is = n })
		}
		for _, n := range longs() {
			with(func(a *api.Answer) { a.Token = n })
		}
		for _, s := range texts() {
			with(func(a *api.Answer) { a.Key = s })
		}
		for _, count := range []int{1, 2, 10, 254, 255, 256, 257, 511, 512, 65536} {
			with(func(a *api.Answer) { a.States = slices.Repeat(states()[:1], count) })
		}
		with(func(a *api.Answer) { a.States = []api.State{} })
		with(func(a *api.Answer) { a.States = slices.Repeat(states(), 25) })
		for _, x := range states() {
			with(func(a *api.Answer) { a.States = []api.State{x} })
		}
		for _, x := range odds() {
			with(func(a *api.Answer) { a.States = []api.State{x} })
			with(func(a *api.Answer) { a.States = []api.State{{}, x, {}} })
			with(func(a *api.Answer) { a.States = append(slices.Repeat(states()[:1], 254), x) })
		}
	}
	return all
}

// told are all answers that may be written, of those at the edges.
func told() []api.Answer {
	var all []api.Answer
	for _, a := range answers() {
		if _, ok := answerBody(a); ok {
			all = append(all, a)
		}
	}
	return all
}

func strewnAnswer(n *noise) api.Answer {
	a := api.Answer{Why: api.Errno(n.below(300)), Key: pick(n, shorts()), Task: n.below(256), Token: pick(n, longs()[4:14]), Is: n.below(256)}
	for range n.below(12) {
		a.States = append(a.States, pick(n, states()))
	}
	switch n.below(12) {
	case 0:
		a.Why = api.Errno(pick(n, bytesAt()))
	case 1:
		a.Task = pick(n, bytesAt())
	case 2:
		a.Is = pick(n, bytesAt())
	case 3:
		a.Token = pick(n, longs())
	case 4:
		a.States = append(a.States, pick(n, odds()))
	}
	return a
}

// near are bodies that are nearly one: cut off, gone on, and each byte another one.
func near(body string) []string {
	all := []string{body, body + "\x00", body + "\x01", body + body, "\x00" + body, body + "\x00\x00", body + "\x00\x00\x00\x00\x00\x00\x00\x00"}
	// Of a long body the places at both ends are enough: between them lie the letters of texts.
	for i := range len(body) {
		if i >= 24 && i < len(body)-24 {
			continue
		}
		all = append(all, body[:i], body[i:], body[:i]+body[i+1:], body[:i]+"\x00"+body[i:])
		for _, b := range []byte{0, 1, 2, 9, 16, 17, 255, body[i] + 1, body[i] - 1, body[i] ^ 0x80} {
			all = append(all, body[:i]+string([]byte{b})+body[i+1:])
		}
	}
	return all
}

// holdSealed holds the bytes that a body makes, with its sum and with wrong ones, against both readers' words. It tells whether they are a command, and whether they are an answer.
func holdSealed(t *testing.T, body string) (bool, bool) {
	t.Helper()
	s := sealed(body)
	_, c := holdGet(t, s)
	_, a := holdTold(t, s)
	return c == api.OK, a == api.OK
}

// Tests

func TestPutIsAsWritten(t *testing.T) {
	seen := map[int]int{}
	for _, c := range commands() {
		if _, e := holdPut(t, c); e == api.OK {
			seen[c.Kind]++
		}
	}
	n := noise(1)
	for range 30000 {
		c := strewnCommand(&n)
		if _, e := holdPut(t, c); e == api.OK {
			seen[c.Kind]++
		}
	}
	for kind := 1; kind <= 10; kind++ {
		if seen[kind] < 100 {
			t.Errorf("of kind %d only %d may be written", kind, seen[kind])
		}
	}
	if len(seen) != 10 {
		t.Errorf("%d kinds may be written", len(seen))
	}
}

func TestAnswerIsAsWritten(t *testing.T) {
	seen := map[api.Errno]int{}
	for _, a := range answers() {
		_, e := holdAnswer(t, a)
		seen[e]++
	}
	n := noise(2)
	for range 10000 {
		_, e := holdAnswer(t, strewnAnswer(&n))
		seen[e]++
	}
	if seen[api.OK] < 1000 || seen[api.ErrArg] < 1000 {
		t.Errorf("%v", seen)
	}
}

func TestGetAndToldAreAsWritten(t *testing.T) {
	gets, tolds, all := 0, 0, 0
	hold := func(body string) {
		all++
		get, told := holdSealed(t, body)
		if get {
			gets++
		}
		if told {
			tolds++
		}
	}
	seen := map[string]int{}
	for _, c := range written() {
		body, _ := commandBody(c)
		if seen[body]++; seen[body] > 1 {
			continue
		}
		for _, s := range near(body) {
			hold(s)
		}
	}
	for _, a := range told() {
		body, _ := answerBody(a)
		if seen[body]++; seen[body] > 1 || len(a.States) > 20 {
			continue
		}
		for _, s := range near(body) {
			hold(s)
		}
	}
	if gets < 400 || tolds < 400 || all < 30000 {
		t.Errorf("of %d bodies %d are commands, %d answers", all, gets, tolds)
	}
}

// All bodies of up to two bytes, and those of a Kind that go on with few bytes.
func TestShortBodies(t *testing.T) {
	gets := 0
	hold := func(body string) {
		if get, _ := holdSealed(t, body); get {
			gets++
		}
	}
	hold("")
	for i := range 256 {
		hold(string([]byte{byte(i)}))
		for j := range 256 {
			hold(string([]byte{byte(i), byte(j)}))
		}
	}
	if gets != 2 {
		t.Errorf("%d bodies of up to two bytes are commands; want those of CPoll and CSync", gets)
	}
	few := []byte{0, 1, 2, 255}
	for kind := range 13 {
		for size := 2; size < 6; size++ {
			for i := range 1 << (2 * size) {
				body := []byte{byte(kind)}
				for place := range size {
					body = append(body, few[i>>(2*place)&3])
				}
				hold(string(body))
			}
		}
	}
	if gets < 6 {
		t.Errorf("%d short bodies are commands", gets)
	}
}

// Engines on which to serve.

func mustMake(t *testing.T, n int, commands ...api.Command) api.Engine {
	t.Helper()
	e, bad := engine.New(n)
	if bad != api.OK {
		t.Fatalf("New(%d): %d", n, bad)
	}
	for _, c := range commands {
		next, a := engine.Do(e, c)
		if a.Why != api.OK {
			t.Fatalf("%s: %v", brief(c), a)
		}
		e = next
	}
	return e
}

func mustPut(t *testing.T, c api.Command) string {
	t.Helper()
	s, bad := Put(c)
	if bad != api.OK {
		t.Fatalf("Put(%s): %d", brief(c), bad)
	}
	return s
}

// begun are commands that make a graph, runs of it, a lease and a result.
func begun() []api.Command {
	return []api.Command{dagOf(row("g")), start("k", "g"), start("l", "g"), tick(9), poll(), poll(), done(1, "ok"), sync(), poll()}
}

// full is an engine with records and writes on their way, behind a checkpoint.
func full(t *testing.T) api.Engine {
	t.Helper()
	e, bad := engine.Checkpoint(mustMake(t, 40, begun()...))
	if bad != api.OK {
		t.Fatal(bad)
	}
	for _, c := range []api.Command{tick(10), start("m", "g")} {
		e, _ = engine.Do(e, c)
	}
	return e
}

// holdWorld holds an engine's world against the one that is told by itself.
func holdWorld(t *testing.T, e api.Engine, w api.World) {
	t.Helper()
	if !engine.Right(e) || !world.Right(e.World) || !sameWorld(e.World, w) {
		t.Fatalf("the world is %v; want %v", e.World, w)
	}
}
