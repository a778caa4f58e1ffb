package frame

import (
	"encoding/hex"
	"slices"
	"strings"
	"testing"

	"penelope/api"
	"penelope/device"
	"penelope/engine"
)

// bytesOf reads hexadecimal digits, with spaces between.
func bytesOf(t *testing.T, digits string) string {
	t.Helper()
	b, err := hex.DecodeString(strings.ReplaceAll(digits, " ", ""))
	if err != nil {
		t.Fatal(err)
	}
	return string(b)
}

// The chapter's examples

func TestExamples(t *testing.T) {
	if c, e := Get(sealed("\x03")); !sameCommand(c, poll()) || e != api.OK {
		t.Errorf("03 and its sum: %s, %d", brief(c), e)
	}
	for _, body := range []string{"\x03\x00", "\x00"} {
		if c, e := Get(sealed(body)); !sameCommand(c, api.Command{}) || e != api.ErrFrame {
			t.Errorf("%x and its sum: %s, %d", body, brief(c), e)
		}
	}
}

// P23.1: commands

func TestBytesOfCommands(t *testing.T) {
	for _, x := range []struct {
		c     api.Command
		bytes string
	}{
		{dagOf(graph("g", nil)), "01 0001 67 01 00 02 000003 000005 7f98e030"},
		{dagOf(row("g")), "01 0001 67 02 00 02 000003 000005 01 00 02 000003 000005 c8fa4eed"},
		{start("k", "gg"), "02 0001 6b 0002 6767 860e5f50"},
		{start("", ""), "02 0000 0000 6da95035"},
		{poll(), "03 a5a02d41"},
		{beat(7), "04 000000000007 57cb14ca"},
		{done(7, "ok"), "05 000000000007 0002 6f6b 34380c13"},
		{done(end, ""), "05 010000000000 0000 ff0128d8"},
		{fail(most), "06 ffffffffffff 8b029368"},
		{cancel("k"), "07 0001 6b 23538aba"},
		{tick(5), "08 000000000005 2283e2c0"},
		{tick(most), "08 ffffffffffff 99635853"},
		{state(""), "09 0000 c10f74fd"},
		{sync(), "0a 697b9f39"},
	} {
		want := bytesOf(t, x.bytes)
		if s, e := Put(x.c); s != want || e != api.OK {
			t.Errorf("Put(%s) = %x, %d; want %x", brief(x.c), s, e, want)
		}
		if c, e := Get(want); !sameCommand(c, x.c) || e != api.OK {
			t.Errorf("Get(%x) = %s, %d; want %s", want, brief(c), e, brief(x.c))
		}
	}
}

// Each field at its bounds, and beyond them.
func TestBoundsOfCommands(t *testing.T) {
	at := func(size int) string { return long("y", size) }
	for _, x := range []struct {
		name string
		c    api.Command
		want api.Errno
	}{
		{"no Kind", api.Command{}, api.ErrArg},
		{"Kind -1", api.Command{Kind: -1}, api.ErrArg},
		{"Kind 11", api.Command{Kind: 11}, api.ErrArg},
		{"Kind 256", api.Command{Kind: 256}, api.ErrArg},
		{"Kind 259", api.Command{Kind: 259}, api.ErrArg},
		{"the lowest Kind", api.Command{Kind: lowest}, api.ErrArg},
		{"the highest Kind", api.Command{Kind: highest}, api.ErrArg},

		{"CStart of nothing", start("", ""), api.OK},
		{"CStart of a Key of 17 bytes, more than a run may have", start(at(17), "g"), api.OK},
		{"CStart of a Key of 255 bytes", start(at(255), "g"), api.OK},
		{"CStart of a Key of 256 bytes", start(at(256), "g"), api.ErrArg},
		{"CStart of a Key of 65536 bytes", start(at(65536), "g"), api.ErrArg},
		{"CStart of a Name of 255 bytes", start("k", at(255)), api.OK},
		{"CStart of a Name of 256 bytes", start("k", at(256)), api.ErrArg},
		{"CStart of both of 255 bytes", start(at(255), at(255)), api.OK},
		{"CStart of a Key of 128 characters in 256 bytes", start(long("ü", 128), "g"), api.ErrArg},

		{"CBeat of Token 0", beat(0), api.OK},
		{"CBeat of Token -1", beat(-1), api.ErrArg},
		{"CBeat of Token 2^40 + 1, more than there may be", beat(end + 1), api.OK},
		{"CBeat of Token 2^48 - 1", beat(most), api.OK},
		{"CBeat of Token 2^48", beat(most + 1), api.ErrArg},
		{"CBeat of the lowest Token", beat(lowest), api.ErrArg},
		{"CBeat of the highest Token", beat(highest), api.ErrArg},
		{"CFail of Token 0", fail(0), api.OK},
		{"CFail of Token -1", fail(-1), api.ErrArg},
		{"CFail of Token 2^48 - 1", fail(most), api.OK},
		{"CFail of Token 2^48", fail(most + 1), api.ErrArg},

		{"CDone of Token 0 without a Text", done(0, ""), api.OK},
		{"CDone of Token -1", done(-1, "ok"), api.ErrArg},
		{"CDone of Token 2^48 - 1", done(most, "ok"), api.OK},
		{"CDone of Token 2^48", done(most+1, "ok"), api.ErrArg},
		{"CDone with a Text of 17 bytes, more than a result may have", done(7, at(17)), api.OK},
		{"CDone with a Text of 255 bytes", done(7, at(255)), api.OK},
		{"CDone with a Text of 256 bytes", done(7, at(256)), api.ErrArg},
		{"CDone with a Text of 65536 bytes", done(7, at(65536)), api.ErrArg},

		{"CCancel of nothing", cancel(""), api.OK},
		{"CCancel of a Key of 255 bytes", cancel(at(255)), api.OK},
		{"CCancel of a Key of 256 bytes", cancel(at(256)), api.ErrArg},
		{"CState of nothing", state(""), api.OK},
		{"CState of a Key of 255 bytes", state(at(255)), api.OK},
		{"CState of a Key of 256 bytes", state(at(256)), api.ErrArg},

		{"CTick of 0", tick(0), api.OK},
		{"CTick of -1", tick(-1), api.ErrArg},
		{"CTick of 2^40 + 1, more than a time may be", tick(end + 1), api.OK},
		{"CTick of 2^48 - 1", tick(most), api.OK},
		{"CTick of 2^48", tick(most + 1), api.ErrArg},
		{"CTick of the lowest time", tick(lowest), api.ErrArg},
		{"CTick of the highest time", tick(highest), api.ErrArg},
	} {
		if s, e := holdPut(t, x.c); e != x.want {
			t.Errorf("%s: %x, %d; want %d", x.name, s, e, x.want)
		}
	}
}

// A graph is written if it may be; whatever is wrong with it, Put tells ErrArg.
func TestGraphs(t *testing.T) {
	with := func(x api.Task) api.Dag { return api.Dag{Name: "g", Tasks: []api.Task{x}} }
	for _, x := range []struct {
		name string
		d    api.Dag
		want api.Errno
	}{
		{"one task", graph("g", nil), api.OK},
		{"a row", row("g"), api.OK},
		{"the greatest one", wide(), api.OK},
		{"ten tasks", graph("g", make([][]int, 10)...), api.OK},
		{"eleven tasks, ErrLong of dag.Right", graph("g", make([][]int, 11)...), api.ErrArg},
		{"a circle, ErrCycle of dag.Right", graph("g", []int{1}, []int{0}), api.ErrArg},
		{"a task that needs itself", graph("g", []int{0}), api.ErrArg},
		{"no task", api.Dag{Name: "g"}, api.ErrArg},
		{"nothing", api.Dag{}, api.ErrArg},
		{"no Name", graph("", nil), api.ErrArg},
		{"a Name of 16 bytes", graph(long("g", 16), nil), api.OK},
		{"a Name of 17 bytes", graph(long("g", 17), nil), api.ErrArg},
		{"a need that is no task", graph("g", []int{1}), api.ErrArg},
		{"a need twice", graph("g", nil, []int{0, 0}), api.ErrArg},
		{"no Tries", with(api.Task{Lease: 1}), api.ErrArg},
		{"9 Tries", with(api.Task{Tries: 9, Lease: 1}), api.ErrArg},
		{"no Lease", with(api.Task{Tries: 1}), api.ErrArg},
		{"a Wait below 0", with(api.Task{Tries: 1, Wait: -1, Lease: 1}), api.ErrArg},
		{"a Wait above 2^20", with(api.Task{Tries: 1, Wait: 1<<20 + 1, Lease: 1}), api.ErrArg},
	} {
		if s, e := holdPut(t, dagOf(x.d)); e != x.want {
			t.Errorf("CDag of %s: %x, %d; want %d", x.name, s, e, x.want)
		}
	}
}

// Fields that the table does not name for a kind are zero, whatever they are.
func TestFieldsThatAreNotNamed(t *testing.T) {
	plain := func(kind int) api.Command {
		return bareOf(api.Command{Kind: kind, Key: "k", Name: "g", Token: 7, Time: 9, Text: "ok", Dag: row("g")})
	}
	for _, x := range []struct {
		name  string
		kinds []int // that have the field
		set   func(*api.Command)
	}{
		{"Dag", []int{1}, func(c *api.Command) { c.Dag = row("g") }},
		{"Dag's Name alone", nil, func(c *api.Command) { c.Dag = api.Dag{Name: "g"} }},
		{"Dag's Tasks alone", nil, func(c *api.Command) { c.Dag = api.Dag{Tasks: row("g").Tasks} }},
		{"a Task of zeros", nil, func(c *api.Command) { c.Dag = api.Dag{Tasks: []api.Task{{}}} }},
		{"Key", []int{2, 7, 9}, func(c *api.Command) { c.Key = "x" }},
		{"Key of a zero byte", []int{2, 7, 9}, func(c *api.Command) { c.Key = "\x00" }},
		{"Name", []int{2}, func(c *api.Command) { c.Name = "x" }},
		{"Token", []int{4, 5, 6}, func(c *api.Command) { c.Token = 1 }},
		{"the highest Token", []int{4, 5, 6}, func(c *api.Command) { c.Token = most }},
		{"Token below 0", nil, func(c *api.Command) { c.Token = -1 }},
		{"Time", []int{8}, func(c *api.Command) { c.Time = 1 }},
		{"Time below 0", nil, func(c *api.Command) { c.Time = -1 }},
		{"Text", []int{5}, func(c *api.Command) { c.Text = "x" }},
	} {
		for kind := 1; kind <= 10; kind++ {
			c := plain(kind)
			x.set(&c)
			s, e := holdPut(t, c)
			if has := slices.Contains(x.kinds, kind); has != (e == api.OK) {
				t.Errorf("%s of kind %d: %x, %d", x.name, kind, s, e)
			}
		}
	}
}

// R3: a graph without tasks is zero, whether its list is nil or empty.
func TestNilIsEmpty(t *testing.T) {
	for kind := 1; kind <= 10; kind++ {
		one := bareOf(api.Command{Kind: kind, Key: "k", Name: "g", Token: 7, Time: 9, Text: "ok", Dag: graph("g", nil)})
		two := one
		if kind == api.CDag {
			two.Dag = graph("g", []int{})
		} else {
			two.Dag.Tasks = []api.Task{}
		}
		s, e := holdPut(t, one)
		if u, f := holdPut(t, two); s != u || e != api.OK || f != api.OK {
			t.Errorf("kind %d: %x, %d and %x, %d", kind, s, e, u, f)
		}
	}
	s, e := holdAnswer(t, api.Answer{Key: "k"})
	if u, f := holdAnswer(t, api.Answer{Key: "k", States: []api.State{}}); s != u || e != api.OK || f != api.OK {
		t.Errorf("answers: %x, %d and %x, %d", s, e, u, f)
	}
}

func TestGetOfWrongBytes(t *testing.T) {
	few := sealed("\x05\x00\x00\x00\x00\x00\x07\x00\x02ok")
	for _, x := range []struct{ name, bytes string }{
		{"nothing", ""},
		{"too few for a sum", "\x03\x00\x00"},
		{"the sum of nothing", "\x00\x00\x00\x00"},
		{"a Kind without a sum", "\x03"},
		{"a sum, the highest byte first", bytesOf(t, "03 412da0a5")},
		{"a wrong sum", bytesOf(t, "03 a5a02d40")},
		{"a sum of another Kind", bytesOf(t, "0a a5a02d41")},
		{"a byte behind the sum", sealed("\x03") + "\x00"},
		{"a byte ahead", "\x00" + sealed("\x03")},
		{"sealed twice", sealed(sealed("\x03"))},
		{"Kind 0", sealed("\x00")},
		{"Kind 11", sealed("\x0b")},
		{"Kind 255", sealed("\xff")},
		{"a Kind of two bytes", sealed("\x00\x03")},
		{"CPoll and a byte", sealed("\x03\x00")},
		{"CSync and a byte", sealed("\x0a\x00")},
		{"CDag alone", sealed("\x01")},
		{"CDag of no tasks", sealed("\x01\x00\x01g\x00")},
		{"CDag of a circle", sealed("\x01" + bytesOf(t, "0001 67 02 01 01 02 000003 000005 01 00 02 000003 000005"))},
		{"CDag of no Name", sealed("\x01" + bytesOf(t, "0000 01 00 02 000003 000005"))},
		{"CDag and a byte", sealed("\x01" + bytesOf(t, "0001 67 01 00 02 000003 000005 00"))},
		{"CDag cut off", sealed("\x01" + bytesOf(t, "0001 67 01 00 02 000003 0000"))},
		{"CStart alone", sealed("\x02")},
		{"CStart without a Name", sealed("\x02\x00\x01k")},
		{"CStart of half a length", sealed("\x02\x00\x01k\x00")},
		{"CStart of a Name cut off", sealed("\x02\x00\x01k\x00\x02g")},
		{"CStart and a byte", sealed("\x02\x00\x01k\x00\x01g\x00")},
		{"CStart of a Key of 256 bytes", sealed("\x02" + laidText(long("y", 256)) + "\x00\x01g")},
		{"CStart of a Name of 256 bytes", sealed("\x02\x00\x01k" + laidText(long("y", 256)))},
		{"CBeat of five bytes", sealed("\x04\x00\x00\x00\x00\x07")},
		{"CBeat of seven bytes", sealed("\x04\x00\x00\x00\x00\x00\x00\x07")},
		{"CFail of five bytes", sealed("\x06\x00\x00\x00\x00\x07")},
		{"CFail with a Text", sealed("\x06\x00\x00\x00\x00\x00\x07\x00\x02ok")},
		{"CDone without a Text", sealed("\x05\x00\x00\x00\x00\x00\x07")},
		{"CDone of a Text cut off", sealed("\x05\x00\x00\x00\x00\x00\x07\x00\x03ok")},
		{"CDone of a Text gone on", sealed("\x05\x00\x00\x00\x00\x00\x07\x00\x01ok")},
		{"CDone of a Text of 256 bytes", sealed("\x05\x00\x00\x00\x00\x00\x07" + laidText(long("y", 256)))},
		{"CDone of a Text of 65535 bytes", sealed("\x05\x00\x00\x00\x00\x00\x07" + laidText(long("y", 65535)))},
		{"CDone without its sum", few[:len(few)-4]},
		{"CDone of half its sum", few[:len(few)-2]},
		{"CCancel alone", sealed("\x07")},
		{"CCancel of a Key of 256 bytes", sealed("\x07" + laidText(long("y", 256)))},
		{"CTick of five bytes", sealed("\x08\x00\x00\x00\x00\x05")},
		{"CTick of seven bytes", sealed("\x08\x00\x00\x00\x00\x00\x05\x00")},
		{"CState of half a length", sealed("\x09\x00")},
		{"CState of a Key of 256 bytes", sealed("\x09" + laidText(long("y", 256)))},
		{"CState and a byte", sealed("\x09\x00\x01k\x00")},
		{"an answer", sealed(bytesOf(t, "0000 0000 00 000000000000 00 00"))},
	} {
		if c, e := holdGet(t, x.bytes); e != api.ErrFrame {
			t.Errorf("%s: %s, %d", x.name, brief(c), e)
		}
	}
}

func TestGetOfTheLongestTexts(t *testing.T) {
	at := long("y", 255)
	for _, c := range []api.Command{start(at, at), done(most, at), cancel(at), state(at), dagOf(wide())} {
		s, e := holdPut(t, c)
		if g, f := holdGet(t, s); e != api.OK || f != api.OK || !sameCommand(g, c) {
			t.Errorf("%s: %d, %d", brief(c), e, f)
		}
	}
}

// P23.1: answers

func TestBytesOfAnswers(t *testing.T) {
	for _, x := range []struct {
		a     api.Answer
		bytes string
	}{
		{api.Answer{}, "0000 0000 00 000000000000 00 00 e4a55bbc"},
		{api.Answer{Why: 250}, "00fa 0000 00 000000000000 00 00 141249d6"},
		{api.Answer{Why: 65535, Key: "k", Task: 255, Token: most, Is: 255}, "ffff 0001 6b ff ffffffffffff ff 00 3f20e401"},
		{api.Answer{Key: "k", Task: 3, Token: 7}, "0000 0001 6b 03 000000000007 00 00 3bd601b1"},
		{
			api.Answer{Key: "k", Is: 1, States: []api.State{{}, {Is: api.SDone, Tried: 1, Result: "ok"}}},
			"0000 0001 6b 00 000000000000 01 02 0010 00 00 000000000000 000000000000 0000 0012 03 01 000000000000 000000000000 0002 6f6b 51a968f6",
		},
	} {
		want := bytesOf(t, x.bytes)
		if s, e := Answer(x.a); s != want || e != api.OK {
			t.Errorf("Answer(%s) = %x, %d; want %x", brief(x.a), s, e, want)
		}
		if a, e := Told(want); !sameAnswer(a, x.a) || e != api.OK {
			t.Errorf("Told(%x) = %s, %d; want %s", want, brief(a), e, brief(x.a))
		}
	}
}

func TestBoundsOfAnswers(t *testing.T) {
	many := func(count int) api.Answer { return api.Answer{States: slices.Repeat(states()[3:4], count)} }
	for _, x := range []struct {
		name string
		a    api.Answer
		want api.Errno
	}{
		{"Why 1", api.Answer{Why: 1}, api.OK},
		{"Why 65535", api.Answer{Why: 65535}, api.OK},
		{"Why 65536", api.Answer{Why: 65536}, api.ErrArg},
		{"Why -1", api.Answer{Why: -1}, api.ErrArg},
		{"the lowest Why", api.Answer{Why: lowest}, api.ErrArg},
		{"the highest Why", api.Answer{Why: highest}, api.ErrArg},
		{"a Key of 255 bytes", api.Answer{Key: long("y", 255)}, api.OK},
		{"a Key of 256 bytes", api.Answer{Key: long("y", 256)}, api.ErrArg},
		{"a Key of 65536 bytes", api.Answer{Key: long("y", 65536)}, api.ErrArg},
		{"Task 255", api.Answer{Task: 255}, api.OK},
		{"Task 256", api.Answer{Task: 256}, api.ErrArg},
		{"Task -1", api.Answer{Task: -1}, api.ErrArg},
		{"Token 2^48 - 1", api.Answer{Token: most}, api.OK},
		{"Token 2^48", api.Answer{Token: most + 1}, api.ErrArg},
		{"Token -1", api.Answer{Token: -1}, api.ErrArg},
		{"Is 255", api.Answer{Is: 255}, api.OK},
		{"Is 256", api.Answer{Is: 256}, api.ErrArg},
		{"Is -1", api.Answer{Is: -1}, api.ErrArg},
		{"one State", many(1), api.OK},
		{"255 States", many(255), api.OK},
		{"256 States", many(256), api.ErrArg},
		{"257 States", many(257), api.ErrArg},
		{"a State of no kind", api.Answer{States: []api.State{{Is: 6}}}, api.ErrArg},
		{"a State that is held without a Token", api.Answer{States: []api.State{{Is: api.SHeld, Tried: 1, Due: 5}}}, api.ErrArg},
		{"a State of a Result of 17 bytes", api.Answer{States: []api.State{{Is: api.SDone, Tried: 1, Result: long("r", 17)}}}, api.ErrArg},
		{"a State that may stand, but may not be with any task", api.Answer{States: []api.State{{Is: api.SLost, Due: 5}}}, api.OK},
		{"a last State that may not stand", api.Answer{States: append(states(), api.State{Tried: 9})}, api.ErrArg},
		{"a first State that may not stand", api.Answer{States: append([]api.State{{Tried: 9}}, states()...)}, api.ErrArg},
	} {
		if s, e := holdAnswer(t, x.a); e != x.want {
			t.Errorf("%s: %x, %d; want %d", x.name, s, e, x.want)
		}
	}
}

func TestToldOfWrongBytes(t *testing.T) {
	head := bytesOf(t, "0000 0001 6b 00 000000000000 01")
	state := bytesOf(t, "0010 00 00 000000000000 000000000000 0000")
	odd := bytesOf(t, "0010 06 00 000000000000 000000000000 0000")
	roomy := bytesOf(t, "0011 00 00 000000000000 000000000000 0000 00")
	whole := sealed(head + "\x01" + state)
	if _, e := holdTold(t, whole); e != api.OK {
		t.Fatalf("%x: %d", whole, e)
	}
	for _, x := range []struct{ name, bytes string }{
		{"nothing", ""},
		{"too few for a sum", "\x00\x00\x00"},
		{"the sum of nothing", "\x00\x00\x00\x00"},
		{"no sum", whole[:len(whole)-4]},
		{"half a sum", whole[:len(whole)-2]},
		{"a byte behind the sum", whole + "\x00"},
		{"half a Why", sealed("\x00")},
		{"a Why alone", sealed("\x00\x00")},
		{"a Key cut off", sealed("\x00\x00\x00\x02k")},
		{"a Key of 256 bytes", sealed("\x00\x00" + laidText(long("y", 256)) + bytesOf(t, "00 000000000000 00 00"))},
		{"no Task", sealed(head[:5])},
		{"no Token", sealed(head[:6])},
		{"half a Token", sealed(head[:9])},
		{"no Is", sealed(head[:12])},
		{"no count of States", sealed(head)},
		{"a State too few", sealed(head + "\x02" + state)},
		{"no State of one", sealed(head + "\x01")},
		{"a State too many", sealed(head + "\x01" + state + state)},
		{"a State that is not counted", sealed(head + "\x00" + state)},
		{"half a State", sealed(head + "\x01" + state[:10])},
		{"a State that may not stand", sealed(head + "\x01" + odd)},
		{"a second State that may not stand", sealed(head + "\x02" + state + odd)},
		{"a first State that may not stand", sealed(head + "\x02" + odd + state)},
		{"a State of a byte too many", sealed(head + "\x01" + roomy)},
		{"a State of no bytes", sealed(head + "\x01\x00\x00")},
		{"a State of 256 bytes", sealed(head + "\x01" + laidText(long("\x00", 256)))},
		{"a byte behind the States", sealed(head + "\x01" + state + "\x00")},
		{"a command", sealed("\x03")},
	} {
		if a, e := holdTold(t, x.bytes); e != api.ErrFrame {
			t.Errorf("%s: %s, %d", x.name, brief(a), e)
		}
	}
}

// P23.2

func TestServe(t *testing.T) {
	e := mustMake(t, 24)
	for i, x := range []struct {
		c    api.Command
		want api.Answer
	}{
		{poll(), api.Answer{Why: api.ErrIdle}},
		{dagOf(row("g")), api.Answer{}},
		{dagOf(graph("g", nil)), api.Answer{Why: api.ErrDag}},
		{start("k", "h"), api.Answer{Why: api.ErrDag}},
		{start(long("k", 17), "g"), api.Answer{Why: api.ErrArg}},
		{start("k", "g"), api.Answer{}},
		{poll(), api.Answer{Key: "k", Token: 1}},
		{poll(), api.Answer{Why: api.ErrIdle}},
		{tick(4), api.Answer{}},
		{tick(end + 1), api.Answer{Why: api.ErrArg}},
		{beat(1), api.Answer{Key: "k"}},
		{beat(2), api.Answer{Why: api.ErrToken}},
		{state("k"), api.Answer{Key: "k", States: []api.State{{Is: api.SHeld, Tried: 1, Due: 9, Token: 1}, {}}}},
		{state("l"), api.Answer{Why: api.ErrRun}},
		{done(1, long("x", 17)), api.Answer{Why: api.ErrArg}},
		{done(1, "ok"), api.Answer{Key: "k"}},
		{done(1, "ok"), api.Answer{Why: api.ErrToken}},
		{poll(), api.Answer{Key: "k", Task: 1, Token: 2}},
		{fail(2), api.Answer{Key: "k"}},
		{sync(), api.Answer{}},
		{cancel("k"), api.Answer{}},
		{cancel("k"), api.Answer{Why: api.ErrDone}},
		{state("k"), api.Answer{Key: "k", Is: api.RGone, States: []api.State{{Is: api.SDone, Tried: 1, Result: "ok"}, {Is: api.SGone, Tried: 1}}}},
	} {
		made, a := holdServe(t, e, mustPut(t, x.c))
		if !sameAnswer(a, x.want) {
			t.Fatalf("%d: %s: %s; want %s", i, brief(x.c), brief(a), brief(x.want))
		}
		if a.Why != api.OK && !sameEngine(made, e) {
			t.Fatalf("%d: %s changed the engine", i, brief(x.c))
		}
		e = made
	}
}

// Bytes that are no command are told ErrFrame, whatever the engine is, which stays.
func TestServeOfWhatIsNoCommand(t *testing.T) {
	odd := full(t)
	odd.World.Now++
	off := full(t)
	off.Left = 0
	want, _ := answerOf(api.Answer{Why: api.ErrFrame})
	for _, e := range []api.Engine{mustMake(t, 24), full(t), odd, off, {}, {Store: api.Store{Power: off.Power}}} {
		for _, frame := range []string{"", "junk", "\x03", sealed(""), sealed("\x00"), sealed("\x0b"), sealed("\x03\x00"), sealed("\x09\x00\x02k"), sealed("\x01\x00\x00\x00"), sealed(long("\x00", 5000))} {
			was := copiedEngine(e)
			made, s := Serve(e, frame)
			if s != want || !sameEngine(made, was) {
				t.Errorf("Serve of %x: %x, and the engine stays: %v", frame, s, sameEngine(made, was))
			}
			holdServe(t, e, frame)
		}
	}
}

// What the engine refuses for itself is told, too.
func TestServeOfEnginesErrors(t *testing.T) {
	odd := full(t)
	odd.World.Now++
	if made, a := holdServe(t, odd, mustPut(t, poll())); !sameAnswer(a, api.Answer{Why: api.ErrArg}) || !sameEngine(made, odd) {
		t.Errorf("of an engine that may not be: %v", a)
	}
	off := full(t)
	off.Left = 0
	made, a := holdServe(t, off, mustPut(t, tick(99)))
	if !sameAnswer(a, api.Answer{Why: api.ErrDown}) || !sameEngine(made, api.Engine{Store: api.Store{Power: off.Power}}) {
		t.Errorf("without power: %v", a)
	}
}

// ErrSpace changes nothing.
func TestServeWithoutRoom(t *testing.T) {
	e := mustMake(t, 24, dagOf(wide()))
	seen := map[api.Errno]int{}
	for i := range 64 {
		next, a := holdServe(t, e, mustPut(t, start(long("k", 14)+string([]byte{byte(i), 'k'}), wide().Name)))
		if a.Why == api.ErrSpace && !sameEngine(next, e) {
			t.Fatalf("run %d: ErrSpace changed the engine", i)
		}
		seen[a.Why]++
		e = next
	}
	if seen[api.OK] == 0 || seen[api.ErrSpace] == 0 || len(seen) != 2 {
		t.Errorf("%v", seen)
	}
}

// What was answered is there behind a crash, once a CSync was.
func TestServeLasts(t *testing.T) {
	for _, x := range []struct {
		commands []api.Command
		now      int
	}{
		{[]api.Command{tick(5)}, 0},
		{[]api.Command{tick(5), sync()}, 5},
		{[]api.Command{tick(5), sync(), tick(7)}, 5},
	} {
		e := mustMake(t, 40)
		for _, c := range x.commands {
			next, a := holdServe(t, e, mustPut(t, c))
			if a.Why != api.OK {
				t.Fatalf("%s: %v", brief(c), a)
			}
			e = next
		}
		d, bad := device.Crash(e.Device)
		if bad != api.OK {
			t.Fatal(bad)
		}
		e, bad = engine.Open(api.Power{Device: d, Left: -1})
		if bad != api.OK || e.World.Now != x.now {
			t.Errorf("behind %v: Now %d, %d; want %d", x.commands, e.World.Now, bad, x.now)
		}
	}
}
