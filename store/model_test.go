package store

import (
	"encoding/binary"
	"fmt"
	"hash/crc32"
	"slices"
	"strings"
	"testing"

	"penelope/api"
	"penelope/check"
	"penelope/device"
	"penelope/look"
	"penelope/pager"
	"penelope/prune"
	"penelope/ring"
)

const top = 1 << 40 // the highest Gen

// noise tells numbers that look like no pattern, the same ones each time.
type noise uint32

func (n *noise) below(limit int) int {
	*n = *n*1664525 + 1013904223
	return int(uint32(*n)>>8) % limit
}

// laid is a page's bytes with their sum, as chapters 2 and 4 tell them, also of one that may not be.
func laid(kind byte, gen int, body string) string {
	b := binary.BigEndian.AppendUint64([]byte{kind}, uint64(gen)<<16)[:7]
	b = append(binary.BigEndian.AppendUint16(b, uint16(len(body))), body...)
	sum := crc32.Checksum(b, crc32.MakeTable(crc32.Castagnoli))
	return strings.TrimRight(string(binary.LittleEndian.AppendUint32(b, sum)), "\x00")
}

// superOf is a superblock's bytes.
func superOf(gen, root, bitmap, size int) string {
	var b []byte
	for _, n := range []int{root, bitmap, size} {
		b = append(b, byte(n>>8), byte(n))
	}
	return laid(4, gen, string(b))
}

// mapOf is the bytes of a page of a map, the lowest bit first.
func mapOf(gen int, places []bool) string {
	b := make([]byte, (len(places)+7)/8)
	for i, is := range places {
		if is {
			b[i/8] += 1 << (i % 8)
		}
	}
	return laid(3, gen, string(b))
}

// recordOf is a record's bytes, also of one whose body no changes have.
func recordOf(gen, no int, body string) string { return laid(5, gen, string(rune(no))+body) }

// bodyOf is the body of changes, as chapter 13 tells it.
func bodyOf(changes ...api.Change) string {
	b := []byte{byte(len(changes))}
	text := func(s string) { b = append(binary.BigEndian.AppendUint16(b, uint16(len(s))), s...) }
	for _, c := range changes {
		if c.Gone {
			b = append(b, 1)
			text(c.Key)
			continue
		}
		b = append(b, 0)
		text(c.Key)
		text(c.Val)
	}
	return string(b)
}

// used are so many places, of which the Reserved ones and these are true.
func used(n int, blocks ...int) []bool {
	l := make([]bool, n)
	for i := range 10 {
		l[i] = true
	}
	for _, block := range blocks {
		l[block] = true
	}
	return l
}

func freeOf(a api.Alloc) int {
	n := 0
	for i := range a.Now {
		if !a.Now[i] && !a.Base[i] {
			n++
		}
	}
	return n
}

func twinDevice(d api.Device) api.Device {
	return api.Device{Blocks: slices.Clone(d.Blocks), Pending: slices.Clone(d.Pending)}
}

func twinPower(p api.Power) api.Power { return withPower(twinDevice(p.Device), p.Left) }

func twinWood(w api.Wood) api.Wood {
	w.Base, w.Now, w.Pages = slices.Clone(w.Base), slices.Clone(w.Now), slices.Clone(w.Pages)
	return w
}

func twinStore(s api.Store) api.Store {
	s.Power, s.Wood = twinPower(s.Power), twinWood(s.Wood)
	return s
}

func sameDevice(a, b api.Device) bool {
	return slices.Equal(a.Blocks, b.Blocks) && slices.Equal(a.Pending, b.Pending)
}

func samePower(a, b api.Power) bool { return sameDevice(a.Device, b.Device) && a.Left == b.Left }

func sameWood(a, b api.Wood) bool {
	return slices.Equal(a.Base, b.Base) && slices.Equal(a.Now, b.Now) && slices.Equal(a.Pages, b.Pages) && a.Root == b.Root && a.Gen == b.Gen
}

func sameStore(a, b api.Store) bool {
	return samePower(a.Power, b.Power) && a.Super == b.Super && a.Slot == b.Slot && sameWood(a.Wood, b.Wood) && a.Seq == b.Seq && a.Synced == b.Synced
}

func withPower(d api.Device, left int) api.Power { return api.Power{Device: d, Left: left} }

// powered is a store with power for so many calls.
func powered(s api.Store, left int) api.Store {
	s.Left = left
	return s
}

func withBlock(d api.Device, block int, bytes string) api.Device {
	d = twinDevice(d)
	d.Blocks[block] = bytes
	return d
}

func withPending(d api.Device, writes ...api.Write) api.Device {
	d = twinDevice(d)
	d.Pending = append(d.Pending, writes...)
	return d
}

func brief(s string) string {
	if len(s) > 12 {
		return fmt.Sprintf("%x..(%d)", s[:12], len(s))
	}
	return fmt.Sprintf("%x", s)
}

func showTexts(l []string) string {
	var parts []string
	for block, s := range l {
		if s != "" {
			parts = append(parts, fmt.Sprintf("%d:%s", block, brief(s)))
		}
	}
	return fmt.Sprintf("%d[%s]", len(l), strings.Join(parts, " "))
}

func showDevice(d api.Device) string {
	var parts []string
	for _, w := range d.Pending {
		parts = append(parts, fmt.Sprintf("%d:%s", w.Block, brief(w.Bytes)))
	}
	return fmt.Sprintf("%s pending %v", showTexts(d.Blocks), parts)
}

func showPlaces(l []bool) string {
	var places []int
	for i, is := range l {
		if is {
			places = append(places, i)
		}
	}
	return fmt.Sprintf("%d%v", len(l), places)
}

func showStore(s api.Store) string {
	w := s.Wood
	return fmt.Sprintf("%s left %d super %v slot %d base %s now %s pages %s root %d gen %d seq %d synced %d",
		showDevice(s.Device), s.Left, s.Super, s.Slot, showPlaces(w.Base), showPlaces(w.Now), showTexts(w.Pages), w.Root, w.Gen, s.Seq, s.Synced)
}

// rightOf is the chapter's words.
func rightOf(s api.Store) bool {
	if !pager.Fits(s.Device, api.Found{Super: s.Super, Slot: s.Slot, Wood: s.Wood}) {
		return false
	}
	if _, e := check.Check(s.Wood, s.Super.Map); e != api.OK {
		return false
	}
	return s.Wood.Gen < top && freeOf(s.Wood.Alloc) >= 1 && 0 <= s.Synced && s.Synced <= s.Seq && s.Seq <= 8
}

// course is how a call goes with power for all calls to the device: the device ahead of the first one and behind each, and what is told at last, a store (but its Power) or an error. atCall: the error comes in place of a call to the device.
type course struct {
	states []api.Device
	store  api.Store
	e      api.Errno
	atCall bool
}

func begun(d api.Device) *course { return &course{states: []api.Device{twinDevice(d)}} }

func (c *course) now() api.Device { return c.states[len(c.states)-1] }

func (c *course) calls() int { return len(c.states) - 1 }

// fail is a course that ends with an error.
func (c *course) fail(e api.Errno) *course {
	c.e = e
	return c
}

// call is what device tells.
func (c *course) call(d api.Device, e api.Errno) bool {
	if e != api.OK {
		c.e, c.atCall = e, true
		return false
	}
	c.states = append(c.states, d)
	return true
}

// commit is what pager.Commit does, call by call.
func (c *course) commit(f api.Found) bool {
	start := c.now()
	for left := 0; ; left++ {
		p, g, e := pager.Commit(withPower(start, left), f)
		if e != api.ErrDown && e != api.OK {
			c.e, c.atCall = e, left > 0
			return false
		}
		if left > 0 {
			c.states = append(c.states, p.Device)
		}
		if e == api.OK {
			c.store = api.Store{Super: g.Super, Slot: g.Slot, Wood: g.Wood}
			return true
		}
	}
}

// told is what the call tells with so much power.
func (c *course) told(left int) (api.Store, api.Errno) {
	if left >= 0 && (left < c.calls() || left == c.calls() && c.atCall) {
		return api.Store{Power: withPower(c.states[left], 0)}, api.ErrDown
	}
	if c.e != api.OK {
		return api.Store{}, c.e
	}
	if left > 0 {
		left -= c.calls()
	}
	s := c.store
	s.Power = withPower(c.now(), left)
	return s, api.OK
}

// openOf, doOf, syncOf and checkpointOf are the calls word for word as the chapter tells them.
func openOf(d api.Device) *course {
	c := begun(d)
	f, e := pager.Mount(d)
	if e != api.OK {
		return c.fail(e)
	}
	for _, body := range f.Ring {
		changes, e := ring.Unpack(body)
		if e != api.OK {
			return c.fail(api.ErrCorrupt)
		}
		if f.Wood, e = prune.Change(f.Wood, changes...); e != api.OK {
			return c.fail(api.ErrCorrupt)
		}
	}
	c.commit(f)
	return c
}

func doOf(s api.Store, changes []api.Change) *course {
	c := begun(s.Device)
	if !rightOf(s) {
		return c.fail(api.ErrArg)
	}
	if _, e := ring.Pack(changes...); e != api.OK {
		return c.fail(e)
	}
	c.store = s
	if s.Seq == 8 && !c.commit(api.Found{Super: s.Super, Slot: s.Slot, Wood: s.Wood}) {
		return c
	}
	w, e := prune.Change(c.store.Wood, changes...)
	if e != api.OK {
		return c.fail(e)
	}
	if freeOf(w.Alloc) == 0 {
		return c.fail(api.ErrSpace)
	}
	no := c.store.Seq
	d, e := device.Write(c.now(), 2+no, recordOf(c.store.Super.Gen, no, bodyOf(changes...)))
	if c.call(d, e) {
		c.store.Wood, c.store.Seq = w, no+1
	}
	return c
}

func syncOf(s api.Store) *course {
	c := begun(s.Device)
	if !rightOf(s) {
		return c.fail(api.ErrArg)
	}
	d, e := device.Flush(s.Device)
	if c.call(d, e) {
		c.store = s
		c.store.Synced = s.Seq
	}
	return c
}

func checkpointOf(s api.Store) *course {
	c := begun(s.Device)
	if !rightOf(s) {
		return c.fail(api.ErrArg)
	}
	c.commit(api.Found{Super: s.Super, Slot: s.Slot, Wood: s.Wood})
	return c
}

// made, opened, done, synced, checkpointed and crashed have a test fail that can't go on without them.
func made(t *testing.T, n int) api.Store {
	t.Helper()
	s, e := New(n)
	if e != api.OK {
		t.Fatalf("New(%d): %d", n, e)
	}
	return s
}

func opened(t *testing.T, d api.Device) api.Store {
	t.Helper()
	s, e := Open(withPower(d, -1))
	if e != api.OK {
		t.Fatalf("Open(%s): %d", showDevice(d), e)
	}
	return s
}

func done(t *testing.T, s api.Store, changes ...api.Change) api.Store {
	t.Helper()
	next, e := Do(s, changes...)
	if e != api.OK {
		t.Fatalf("Do(%s; %v): %d", showStore(s), changes, e)
	}
	return next
}

func synced(t *testing.T, s api.Store) api.Store {
	t.Helper()
	next, e := Sync(s)
	if e != api.OK {
		t.Fatalf("Sync(%s): %d", showStore(s), e)
	}
	return next
}

func checkpointed(t *testing.T, s api.Store) api.Store {
	t.Helper()
	next, e := Checkpoint(s)
	if e != api.OK {
		t.Fatalf("Checkpoint(%s): %d", showStore(s), e)
	}
	return next
}

func crashed(t *testing.T, s api.Store, masks ...int) api.Device {
	t.Helper()
	d, e := Crash(s, masks...)
	if e != api.OK {
		t.Fatalf("Crash(%s): %d", showStore(s), e)
	}
	return d
}

// filled is a store that was told all changes, one each Do, and checkpointed behind each.
func filled(t *testing.T, s api.Store, changes ...api.Change) api.Store {
	t.Helper()
	for _, c := range changes {
		s = checkpointed(t, done(t, s, c))
	}
	return s
}

// emptyDos are so many records without changes.
func emptyDos(t *testing.T, s api.Store, n int) api.Store {
	t.Helper()
	for range n {
		s = done(t, s)
	}
	return s
}

// put and take are one change each; puts are pairs that are put, one for each number, whose values have so many bytes.
func put(key, val string) api.Change { return api.Change{Key: key, Val: val} }

func take(key string) api.Change { return api.Change{Key: key, Gone: true} }

func keyOf(n int) string { return fmt.Sprintf("k%04d", n) }

func puts(size int, numbers ...int) []api.Change {
	var l []api.Change
	for _, n := range numbers {
		l = append(l, put(keyOf(n), strings.Repeat(string(rune('a'+n%26)), size)))
	}
	return l
}

// upTo are the numbers from a to b, b not among them.
func upTo(a, b int) []int {
	var l []int
	for n := a; n < b; n++ {
		l = append(l, n)
	}
	return l
}

// pairsOf are all pairs of a wood that is a tree.
func pairsOf(t *testing.T, w api.Wood) []api.Pair {
	t.Helper()
	var all []api.Pair
	from := ""
	for {
		pairs, next, e := look.Scan(w, from, 256)
		if e != api.OK {
			t.Fatalf("Scan: %d", e)
		}
		all = append(all, pairs...)
		if next == "" {
			return all
		}
		from = next
	}
}

// tight is a store of 24 blocks, three of which are free: another value needs two of them (a leaf and the root above it), in two leaves all three; a pair more, for which the root is cut, has no room.
func tight(t *testing.T) api.Store {
	t.Helper()
	s := filled(t, made(t, 24), puts(1, upTo(0, 40)...)...)
	if free := freeOf(s.Wood.Alloc); free != 3 {
		t.Fatalf("%d blocks are free", free)
	}
	return s
}

// stage is a store by a name.
type stage struct {
	name  string
	store api.Store
}

// stages are many stores, as calls leave them.
func stages(t *testing.T) []stage {
	t.Helper()
	var all []stage
	add := func(name string, s api.Store) { all = append(all, stage{name: name, store: s}) }
	for _, n := range []int{24, 25, 40} {
		s := made(t, n)
		add(fmt.Sprint("new of ", n), s)
		one := done(t, s, put("a", "1"))
		add(fmt.Sprint("one record of ", n), one)
		add(fmt.Sprint("one record, synced, of ", n), synced(t, one))
		add(fmt.Sprint("one record, checkpointed, of ", n), checkpointed(t, one))
		at := s
		for no := range 8 {
			at = done(t, at, puts(20*no, no, 3)...)
			if no == 4 {
				at = synced(t, at)
			}
			if no >= 5 {
				add(fmt.Sprint(no+1, " records of ", n), at)
			}
		}
		add(fmt.Sprint("eight records, synced, of ", n), synced(t, at))
		full := filled(t, s, puts(200, upTo(0, 14)...)...)
		add(fmt.Sprint("two leaves of ", n), full)
		add(fmt.Sprint("two leaves, some changes of ", n), done(t, done(t, full, put(keyOf(3), "x")), take(keyOf(5)), take(keyOf(6))))
		add(fmt.Sprint("eight records without changes of ", n), emptyDos(t, full, 8))
		back := opened(t, crashed(t, done(t, synced(t, done(t, full, take(keyOf(1)))), put("b", "2"))))
		add(fmt.Sprint("opened behind a crash of ", n), back)
		add(fmt.Sprint("opened, then done, of ", n), done(t, back, put("c", "3")))
	}
	s := tight(t)
	add("little room", s)
	add("one free block", done(t, s, put(keyOf(39), "x")))
	add("little room, eight records", emptyDos(t, s, 8))
	add("one free block, eight records", emptyDos(t, done(t, s, put(keyOf(39), "x")), 7))
	return all
}
