package pager

import (
	"encoding/binary"
	"fmt"
	"hash/crc32"
	"slices"
	"strings"
	"testing"

	"penelope/api"
	"penelope/check"
	"penelope/device"
	"penelope/look"
	"penelope/page"
	"penelope/prune"
	"penelope/ring"
	"penelope/super"
)

const top = 1 << 40 // the highest Gen

func zeros(n int) string { return strings.Repeat("\x00", n) }

func trimmed(s string) string { return strings.TrimRight(s, "\x00") }

// noise tells numbers that look like no pattern, the same ones each time.
type noise uint32

func (n *noise) below(limit int) int {
	*n = *n*1664525 + 1013904223
	return int(uint32(*n)>>8) % limit
}

// laid is a page's bytes with their sum, as chapters 2 and 4 tell them, also of one that may not be.
func laid(kind byte, gen uint64, body string) string {
	b := binary.BigEndian.AppendUint64([]byte{kind}, gen<<16)[:7]
	b = append(binary.BigEndian.AppendUint16(b, uint16(len(body))), body...)
	sum := crc32.Checksum(b, crc32.MakeTable(crc32.Castagnoli))
	return trimmed(string(binary.LittleEndian.AppendUint32(b, sum)))
}

// superOf is a superblock's bytes, also of one that may not be.
func superOf(gen, root, bitmap, size int) string {
	var b []byte
	for _, n := range []int{root, bitmap, size} {
		b = append(b, byte(n>>8), byte(n))
	}
	return laid(4, uint64(gen), string(b))
}

// packed is places as bytes, the lowest bit first.
func packed(places []bool) string {
	b := make([]byte, (len(places)+7)/8)
	for i, is := range places {
		if is {
			b[i/8] += 1 << (i % 8)
		}
	}
	return string(b)
}

// mapOf is the bytes of a page of a map.
func mapOf(gen int, places []bool) string { return laid(3, uint64(gen), packed(places)) }

// used are so many places, of which the Reserved ones and these are true.
func used(n int, blocks ...int) []bool {
	l := make([]bool, n)
	for i := range 10 {
		l[i] = true
	}
	for _, block := range blocks {
		l[block] = true
	}
	return l
}

func blank(n int) api.Device { return api.Device{Blocks: make([]string, n)} }

func twin(d api.Device) api.Device {
	return api.Device{Blocks: slices.Clone(d.Blocks), Pending: slices.Clone(d.Pending)}
}

func same(a, b api.Device) bool {
	return slices.Equal(a.Blocks, b.Blocks) && slices.Equal(a.Pending, b.Pending)
}

// withBlock is a device with other bytes in a block.
func withBlock(d api.Device, block int, bytes string) api.Device {
	d = twin(d)
	d.Blocks[block] = bytes
	return d
}

func withPending(d api.Device, writes ...api.Write) api.Device {
	d = twin(d)
	d.Pending = append(d.Pending, writes...)
	return d
}

func withPower(d api.Device, left int) api.Power { return api.Power{Device: d, Left: left} }

func twinFound(f api.Found) api.Found {
	f.Wood = twinWood(f.Wood)
	f.Ring = slices.Clone(f.Ring)
	return f
}

func twinWood(w api.Wood) api.Wood {
	w.Base, w.Now, w.Pages = slices.Clone(w.Base), slices.Clone(w.Now), slices.Clone(w.Pages)
	return w
}

func sameWood(a, b api.Wood) bool {
	return slices.Equal(a.Base, b.Base) && slices.Equal(a.Now, b.Now) && slices.Equal(a.Pages, b.Pages) && a.Root == b.Root && a.Gen == b.Gen
}

func sameFound(a, b api.Found) bool {
	return a.Super == b.Super && a.Slot == b.Slot && sameWood(a.Wood, b.Wood) && slices.Equal(a.Ring, b.Ring)
}

func samePower(a, b api.Power) bool { return same(a.Device, b.Device) && a.Left == b.Left }

func brief(s string) string {
	if len(s) > 12 {
		return fmt.Sprintf("%x..(%d)", s[:12], len(s))
	}
	return fmt.Sprintf("%x", s)
}

func showTexts(l []string) string {
	var parts []string
	for block, s := range l {
		if s != "" {
			parts = append(parts, fmt.Sprintf("%d:%s", block, brief(s)))
		}
	}
	return fmt.Sprintf("%d[%s]", len(l), strings.Join(parts, " "))
}

func showDevice(d api.Device) string {
	var parts []string
	for _, w := range d.Pending {
		parts = append(parts, fmt.Sprintf("%d:%s", w.Block, brief(w.Bytes)))
	}
	return fmt.Sprintf("%s pending %v", showTexts(d.Blocks), parts)
}

func showPower(p api.Power) string { return fmt.Sprintf("%s left %d", showDevice(p.Device), p.Left) }

func showPlaces(l []bool) string {
	var places []int
	for i, is := range l {
		if is {
			places = append(places, i)
		}
	}
	return fmt.Sprintf("%d%v", len(l), places)
}

func showFound(f api.Found) string {
	w := f.Wood
	return fmt.Sprintf("super %v slot %d base %s now %s pages %s root %d gen %d ring %q",
		f.Super, f.Slot, showPlaces(w.Base), showPlaces(w.Now), showTexts(w.Pages), w.Root, w.Gen, f.Ring)
}

// mountOf is Mount word for word as the chapter tells it.
func mountOf(d api.Device) (api.Found, api.Errno) {
	if !device.Right(d) || len(d.Pending) != 0 {
		return api.Found{}, api.ErrArg
	}
	if len(d.Blocks) < 24 { // no superblock that may be has such a Size
		return api.Found{}, api.ErrCorrupt
	}
	s, slot, e := super.Choose(d.Blocks[0], d.Blocks[1])
	if e != api.OK || s.Size != len(d.Blocks) || s.Gen == top {
		return api.Found{}, api.ErrCorrupt
	}
	p, e := page.Get(d.Blocks[s.Map])
	if e != api.OK || p.Kind != api.PMap || p.Gen > s.Gen || len(p.Body) != (s.Size+7)/8 {
		return api.Found{}, api.ErrCorrupt
	}
	f := api.Found{Super: s, Slot: slot}
	for i := range 8 * len(p.Body) {
		is := p.Body[i/8]>>(i%8)%2 == 1
		if is && i >= s.Size {
			return api.Found{}, api.ErrCorrupt
		}
		if i < s.Size {
			bytes := ""
			if is {
				bytes = d.Blocks[i]
			}
			f.Wood.Base, f.Wood.Now, f.Wood.Pages = append(f.Wood.Base, is), append(f.Wood.Now, is), append(f.Wood.Pages, bytes)
		}
	}
	f.Wood.Root, f.Wood.Gen = s.Root, s.Gen+1
	if _, e := check.Check(f.Wood, s.Map); e != api.OK {
		return api.Found{}, api.ErrCorrupt
	}
	for no := range 8 {
		got, body, e := ring.Get(d.Blocks[2+no], s.Gen)
		if e != api.OK || got != no {
			break
		}
		f.Ring = append(f.Ring, body)
	}
	return f, api.OK
}

// fitsOf is the chapter's words.
func fitsOf(d api.Device, f api.Found) bool {
	switch {
	case !device.Right(d):
		return false
	case !super.Right(f.Super), f.Super.Size != len(d.Blocks):
		return false
	case f.Slot != 0 && f.Slot != 1:
		return false
	case !look.Right(f.Wood), len(f.Wood.Now) != len(d.Blocks), f.Wood.Gen-1 != f.Super.Gen:
		return false
	}
	return f.Wood.Now[f.Super.Map] && f.Super.Map != f.Wood.Root
}

// course is how a commit goes: the device ahead of the first call and behind each, the error that comes in place of the next one (OK: all were made), and what is found then.
type course struct {
	states []api.Device
	e      api.Errno
	found  api.Found
}

func (c *course) now() api.Device { return c.states[len(c.states)-1] }

func (c *course) write(block int, bytes string) {
	if c.e == api.OK {
		d, e := device.Write(c.now(), block, bytes)
		c.add(d, e)
	}
}

func (c *course) flush() {
	if c.e == api.OK {
		d, e := device.Flush(c.now())
		c.add(d, e)
	}
}

func (c *course) add(d api.Device, e api.Errno) {
	if c.e = e; e == api.OK {
		c.states = append(c.states, d)
	}
}

// calls is how many calls are made.
func (c *course) calls() int { return len(c.states) - 1 }

// told is what Commit tells with so much power, once there is room: a call that goes wrong is not made without power, either.
func (c *course) told(left int) (api.Power, api.Found, api.Errno) {
	if left >= 0 && (left < c.calls() || left == c.calls() && c.e != api.OK) {
		return withPower(c.states[left], 0), api.Found{}, api.ErrDown
	}
	if c.e != api.OK {
		return api.Power{}, api.Found{}, c.e
	}
	if left > 0 {
		left -= c.calls()
	}
	return withPower(c.now(), left), c.found, api.OK
}

// commitOf is Commit word for word as the chapter tells it: the course, or the error ahead of all calls.
func commitOf(d api.Device, f api.Found) (*course, api.Errno) {
	if !fitsOf(d, f) {
		return nil, api.ErrArg
	}
	if _, e := check.Check(f.Wood, f.Super.Map); e != api.OK {
		return nil, api.ErrArg
	}
	if f.Wood.Gen == top {
		return nil, api.ErrLong
	}
	w := twinWood(f.Wood)
	w.Now[f.Super.Map] = false
	bitmap := 10
	for bitmap < len(w.Now) && (w.Base[bitmap] || w.Now[bitmap]) {
		bitmap++
	}
	if bitmap == len(w.Now) {
		return nil, api.ErrSpace
	}
	w.Now[bitmap] = true
	c := &course{states: []api.Device{twin(d)}}
	for block := 10; block < len(w.Now); block++ {
		told, _ := device.Read(d, block)
		if w.Now[block] && block != bitmap && w.Pages[block] != told {
			c.write(block, w.Pages[block])
		}
	}
	c.write(bitmap, mapOf(w.Gen, w.Now))
	c.flush()
	c.write(1-f.Slot, superOf(w.Gen, w.Root, bitmap, f.Super.Size))
	c.flush()
	w.Pages[bitmap] = c.now().Blocks[bitmap]
	w.Base = slices.Clone(w.Now)
	s := api.Super{Gen: w.Gen, Root: w.Root, Map: bitmap, Size: f.Super.Size}
	w.Gen++
	c.found = api.Found{Super: s, Slot: 1 - f.Slot, Wood: w}
	return c, api.OK
}

// formatted, mounted, changed, written, flushed and committed have a test fail that can't go on without them.
func formatted(t *testing.T, n int) api.Device {
	t.Helper()
	d, e := Format(n)
	if e != api.OK {
		t.Fatalf("Format(%d): %d", n, e)
	}
	return d
}

func mounted(t *testing.T, d api.Device) api.Found {
	t.Helper()
	f, e := Mount(d)
	if e != api.OK {
		t.Fatalf("Mount(%s): %d", showDevice(d), e)
	}
	return f
}

func changed(t *testing.T, f api.Found, changes ...api.Change) api.Found {
	t.Helper()
	w, e := prune.Change(f.Wood, changes...)
	if e != api.OK {
		t.Fatalf("Change: %d", e)
	}
	f.Wood = w
	return f
}

func written(t *testing.T, d api.Device, block int, bytes string) api.Device {
	t.Helper()
	p, e := Write(withPower(d, -1), block, bytes)
	if e != api.OK {
		t.Fatalf("Write(%d): %d", block, e)
	}
	return p.Device
}

func flushed(t *testing.T, d api.Device) api.Device {
	t.Helper()
	p, e := Flush(withPower(d, -1))
	if e != api.OK {
		t.Fatalf("Flush: %d", e)
	}
	return p.Device
}

func committed(t *testing.T, d api.Device, f api.Found) (api.Device, api.Found) {
	t.Helper()
	p, g, e := Commit(withPower(d, -1), f)
	if e != api.OK {
		t.Fatalf("Commit(%s; %s): %d", showDevice(d), showFound(f), e)
	}
	return p.Device, g
}

func recordOf(t *testing.T, gen, no int, body string) string {
	t.Helper()
	bytes, e := ring.Put(gen, no, body)
	if e != api.OK {
		t.Fatalf("record %d of %d: %d", no, gen, e)
	}
	return bytes
}

// puts are pairs that are put, one for each number, whose values have so many bytes.
func puts(size int, numbers ...int) []api.Change {
	var l []api.Change
	for _, n := range numbers {
		val := strings.Repeat(string(rune('a'+n%26)), size)
		l = append(l, api.Change{Key: fmt.Sprintf("k%04d", n), Val: val})
	}
	return l
}

func takes(numbers ...int) []api.Change {
	var l []api.Change
	for _, n := range numbers {
		l = append(l, api.Change{Key: fmt.Sprintf("k%04d", n), Gone: true})
	}
	return l
}

// upTo are the numbers from a to b, b not among them.
func upTo(a, b int) []int {
	var l []int
	for n := a; n < b; n++ {
		l = append(l, n)
	}
	return l
}

// pairsOf are all pairs of a wood that is a tree.
func pairsOf(t *testing.T, w api.Wood) []api.Pair {
	t.Helper()
	var all []api.Pair
	from := ""
	for {
		pairs, next, e := look.Scan(w, from, 256)
		if e != api.OK {
			t.Fatalf("Scan: %d", e)
		}
		all = append(all, pairs...)
		if next == "" {
			return all
		}
		from = next
	}
}

// stage is a device, what is found on it with changes that are not committed, and what it was found as.
type stage struct {
	name   string
	device api.Device
	elder  api.Found
	found  api.Found
}

// stages are many of them, as mounts, changes and commits leave them.
func stages(t *testing.T) []stage {
	t.Helper()
	var all []stage
	add := func(name string, d api.Device, elder, found api.Found) {
		all = append(all, stage{name: name, device: d, elder: elder, found: found})
	}
	for _, n := range []int{24, 25, 40} {
		d := formatted(t, n)
		f := mounted(t, d)
		add(fmt.Sprint("nothing changed of ", n), d, f, f)
		add(fmt.Sprint("one pair in ", n), d, f, changed(t, f, puts(1, 1)...))
		add(fmt.Sprint("nine pairs in ", n), d, f, changed(t, f, puts(200, upTo(0, 9)...)...))

		d1, f1 := committed(t, d, changed(t, f, puts(200, upTo(0, 12)...)...))
		add(fmt.Sprint("nothing changed behind a commit of ", n), d1, f1, f1)
		add(fmt.Sprint("another value in ", n), d1, f1, changed(t, f1, puts(3, 5)...))
		add(fmt.Sprint("all gone of ", n), d1, f1, changed(t, f1, takes(upTo(0, 12)...)...))
		add(fmt.Sprint("some gone of ", n), d1, f1, changed(t, f1, takes(2, 3, 4, 5)...))
		add(fmt.Sprint("put and taken again in ", n), d1, f1, changed(t, changed(t, f1, puts(9, 99)...), takes(99)...))

		m1 := mounted(t, d1)
		add(fmt.Sprint("mounted, nothing changed of ", n), d1, m1, m1)
		add(fmt.Sprint("mounted, some more in ", n), d1, m1, changed(t, m1, puts(100, upTo(20, 29)...)...))

		d2, f2 := committed(t, d1, changed(t, m1, takes(0, 1, 2)...))
		d2 = withBlock(d2, 2, recordOf(t, f2.Super.Gen, 0, "first"))
		d2 = withBlock(d2, 3, recordOf(t, f2.Super.Gen, 1, ""))
		d2 = withBlock(d2, 4, recordOf(t, f2.Super.Gen-1, 2, "elder"))
		m2 := mounted(t, d2)
		add(fmt.Sprint("with records in ", n), d2, m2, changed(t, m2, puts(50, 7, 70)...))
	}
	d := formatted(t, 200)
	f := mounted(t, d)
	d, f = committed(t, d, changed(t, f, puts(20, upTo(0, 300)...)...))
	add("a high tree, many changed", d, f, changed(t, f, slices.Concat(takes(upTo(40, 90)...), puts(2, 3, 100, 250))...))
	return all
}
