package pager

import (
	"fmt"
	"math"
	"slices"
	"strings"
	"testing"

	"penelope/alloc"
	"penelope/api"
	"penelope/check"
	"penelope/device"
	"penelope/prune"
)

// mountIs, fitsIs, commitIs, writeIs and flushIs hold what is told against what is to be, and the arguments against what they were (R4).
func mountIs(t *testing.T, what string, d api.Device, want api.Found, e api.Errno) {
	t.Helper()
	was := twin(d)
	if f, got := Mount(d); !sameFound(f, want) || got != e {
		t.Fatalf("%s: Mount: %s, %d; want %s, %d", what, showFound(f), got, showFound(want), e)
	}
	if !same(d, was) {
		t.Fatalf("%s: Mount changed the device", what)
	}
}

func mountFails(t *testing.T, what string, d api.Device, e api.Errno) {
	t.Helper()
	mountIs(t, what, d, api.Found{}, e)
}

// mountAsWritten holds Mount against the chapter's words.
func mountAsWritten(t *testing.T, what string, d api.Device) {
	t.Helper()
	want, e := mountOf(d)
	mountIs(t, what, d, want, e)
}

func fitsIs(t *testing.T, what string, d api.Device, f api.Found, want bool) {
	t.Helper()
	was, wasFound := twin(d), twinFound(f)
	if is := Fits(d, f); is != want {
		t.Fatalf("%s: Fits: %v", what, is)
	}
	if !same(d, was) || !sameFound(f, wasFound) {
		t.Fatalf("%s: Fits changed what it was handed", what)
	}
}

func commitIs(t *testing.T, what string, p api.Power, f api.Found, want api.Power, found api.Found, e api.Errno) {
	t.Helper()
	was, wasFound := withPower(twin(p.Device), p.Left), twinFound(f)
	q, g, got := Commit(p, f)
	if got != e || !samePower(q, want) || !sameFound(g, found) {
		t.Fatalf("%s: Commit with power for %d:\n%s\n%s, %d; want\n%s\n%s, %d", what, p.Left, showPower(q), showFound(g), got, showPower(want), showFound(found), e)
	}
	if !samePower(p, was) || !sameFound(f, wasFound) {
		t.Fatalf("%s: Commit changed what it was handed", what)
	}
}

func commitFails(t *testing.T, what string, p api.Power, f api.Found, e api.Errno) {
	t.Helper()
	commitIs(t, what, p, f, api.Power{}, api.Found{}, e)
}

// commitAsWritten holds Commit against the chapter's words, with power for each number of calls up to all of them, for more, and for any.
func commitAsWritten(t *testing.T, what string, d api.Device, f api.Found) {
	t.Helper()
	c, e := commitOf(d, f)
	if e != api.OK {
		for _, left := range []int{0, 1, 7, -1, math.MinInt, math.MaxInt} {
			commitFails(t, what, withPower(d, left), f, e)
		}
		return
	}
	lefts := append(upTo(0, c.calls()+2), c.calls()+100, math.MaxInt, -1, -2, math.MinInt)
	for _, left := range lefts {
		want, found, e := c.told(left)
		commitIs(t, what, withPower(d, left), f, want, found, e)
	}
}

func writeIs(t *testing.T, what string, p api.Power, block int, bytes string, want api.Power, e api.Errno) {
	t.Helper()
	was := withPower(twin(p.Device), p.Left)
	if q, got := Write(p, block, bytes); got != e || !samePower(q, want) {
		t.Fatalf("%s: Write to %d with power for %d: %s, %d; want %s, %d", what, block, p.Left, showPower(q), got, showPower(want), e)
	}
	if !samePower(p, was) {
		t.Fatalf("%s: Write changed what it was handed", what)
	}
}

func flushIs(t *testing.T, what string, p, want api.Power, e api.Errno) {
	t.Helper()
	was := withPower(twin(p.Device), p.Left)
	if q, got := Flush(p); got != e || !samePower(q, want) {
		t.Fatalf("%s: Flush with power for %d: %s, %d; want %s, %d", what, p.Left, showPower(q), got, showPower(want), e)
	}
	if !samePower(p, was) {
		t.Fatalf("%s: Flush changed what it was handed", what)
	}
}

// wrongDevices are devices that may not be, each by one thing alone, though what was formatted lies there.
func wrongDevices(t *testing.T) map[string]api.Device {
	d := formatted(t, 24)
	many := twin(d)
	many.Pending = make([]api.Write, 2049)
	return map[string]api.Device{
		"no blocks":                {},
		"too many blocks":          blank(2049),
		"a zero at a block's end":  withBlock(d, 20, "a\x00"),
		"a block too long":         withBlock(d, 20, strings.Repeat("a", 4097)),
		"too many writes":          many,
		"a write to no block":      withPending(d, api.Write{Block: 24, Bytes: "a"}),
		"a write to a block below": withPending(d, api.Write{Block: -1, Bytes: "a"}),
		"a zero at a write's end":  withPending(d, api.Write{Block: 20, Bytes: "a\x00"}),
		"a write too long":         withPending(d, api.Write{Block: 20, Bytes: strings.Repeat("a", 4097)}),
	}
}

// The chapter's examples.
func TestExamples(t *testing.T) {
	f := mounted(t, formatted(t, 24))
	if f.Super.Gen != 1 || f.Slot != 0 || f.Super.Root != 0 || f.Wood.Root != 0 {
		t.Error(showFound(f))
	}
	d, _ := device.New(24)
	mountFails(t, "a new device", d, api.ErrCorrupt)
}

// P14.1

func TestFormatWrittenOut(t *testing.T) {
	want := blank(24)
	want.Blocks[0] = laid(4, 1, "\x00\x00\x00\x0a\x00\x18")
	want.Blocks[10] = laid(3, 1, "\xff\x07\x00")
	if d := formatted(t, 24); !same(d, want) {
		t.Errorf("%s; want %s", showDevice(d), showDevice(want))
	}
	want = blank(2048)
	want.Blocks[0] = laid(4, 1, "\x00\x00\x00\x0a\x08\x00")
	want.Blocks[10] = laid(3, 1, "\xff\x07"+zeros(254))
	if d := formatted(t, 2048); !same(d, want) {
		t.Errorf("%s; want %s", showDevice(d), showDevice(want))
	}
}

func TestFormat(t *testing.T) {
	for n := -3; n <= 2055; n++ {
		d, e := Format(n)
		if n < 24 || n > 2048 {
			if e != api.ErrArg || d.Blocks != nil || d.Pending != nil {
				t.Fatalf("Format(%d): %s, %d", n, showDevice(d), e)
			}
			continue
		}
		want := blank(n)
		want.Blocks[0], want.Blocks[10] = superOf(1, 0, 10, n), mapOf(1, used(n, 10))
		if e != api.OK || !same(d, want) || !device.Right(d) {
			t.Fatalf("Format(%d): %s, %d", n, showDevice(d), e)
		}
	}
	for _, n := range []int{math.MinInt, math.MaxInt, 1 << 16, 1<<16 + 24, 1<<32 + 24, -24} {
		if d, e := Format(n); e != api.ErrArg || d.Blocks != nil || d.Pending != nil {
			t.Errorf("Format(%d): %s, %d", n, showDevice(d), e)
		}
	}
}

// P14.2

func TestMountOfWhatIsFormatted(t *testing.T) {
	for _, n := range []int{24, 25, 31, 32, 33, 100, 2047, 2048} {
		d := formatted(t, n)
		pages := make([]string, n)
		pages[0], pages[10] = d.Blocks[0], d.Blocks[10]
		want := api.Found{
			Super: api.Super{Gen: 1, Map: 10, Size: n},
			Wood:  api.Wood{Alloc: api.Alloc{Base: used(n, 10), Now: used(n, 10)}, Pages: pages, Gen: 2},
		}
		mountIs(t, fmt.Sprint("formatted ", n), d, want, api.OK)
		mountAsWritten(t, fmt.Sprint("formatted ", n), d)
	}
}

func TestMountOfADeviceThatMayNotBe(t *testing.T) {
	for what, d := range wrongDevices(t) {
		mountFails(t, what, d, api.ErrArg)
	}
	d := formatted(t, 24)
	for _, w := range []api.Write{{Block: 20, Bytes: "a"}, {Block: 20}, {Block: 0, Bytes: d.Blocks[0]}, {Block: 10, Bytes: d.Blocks[10]}} {
		mountFails(t, "a write on its way", withPending(d, w), api.ErrArg)
		mountFails(t, "a write on its way to an empty device", withPending(blank(24), w), api.ErrArg)
	}
	d.Pending = []api.Write{}
	mountAsWritten(t, "no writes, though a list of them", d)
	if _, e := Mount(d); e != api.OK {
		t.Error(e)
	}
}

func TestMountOfEmptyDevices(t *testing.T) {
	for _, n := range []int{1, 2, 3, 9, 10, 23, 24, 25, 2048} {
		mountFails(t, fmt.Sprint("empty ", n), blank(n), api.ErrCorrupt)
	}
	// Fewer blocks than any superblock tells, down to one without a second.
	for n := 1; n < 24; n++ {
		for _, slot := range []int{0, min(1, n-1)} {
			d := withBlock(blank(n), slot, superOf(1, 0, 10, 24))
			if n > 10 {
				d = withBlock(d, 10, mapOf(1, used(24, 10)))
			}
			mountFails(t, fmt.Sprint("a superblock on ", n), d, api.ErrCorrupt)
			mountFails(t, fmt.Sprint("a superblock of that Size on ", n), withBlock(d, slot, superOf(1, 0, 10, n)), api.ErrCorrupt)
		}
	}
}

// Superblocks of which Get tells an error leave nothing, alone or both; the other one counts then.
func TestMountOfSuperblocks(t *testing.T) {
	good := formatted(t, 24)
	bytes := good.Blocks[0]
	torn := []string{"", "x", bytes[:len(bytes)-1], bytes + "x", strings.Repeat("z", 4096), laid(3, 1, "\x00\x00\x00\x0a\x00\x18"), laid(5, 1, "\x00\x00\x00\x0a\x00\x18"),
		superOf(0, 0, 10, 24), superOf(top+1, 0, 10, 24), superOf(9, 0, 0, 24), superOf(9, 10, 10, 24), superOf(9, 0, 24, 24), superOf(9, 24, 10, 24), superOf(9, 9, 10, 24),
		superOf(9, 0, 10, 23), superOf(9, 0, 10, 2049), laid(4, 9, "\x00\x00\x00\x0a\x00"), laid(4, 9, "\x00\x00\x00\x0a\x00\x18\x00")}
	for i, a := range torn {
		for _, b := range torn {
			mountFails(t, fmt.Sprint("none, ", i), withBlock(withBlock(good, 0, a), 1, b), api.ErrCorrupt)
		}
		for slot := range 2 {
			d := withBlock(withBlock(good, slot, bytes), 1-slot, a)
			f := mounted(t, d)
			if f.Slot != slot || f.Super != (api.Super{Gen: 1, Map: 10, Size: 24}) {
				t.Fatal(showFound(f))
			}
			mountAsWritten(t, fmt.Sprint("beside one that is none, ", i), d)
		}
	}
}

// both is a device with two trees, of the Gens 4 and 5, each with a map and a superblock of its own.
func both(t *testing.T) (api.Device, api.Found, api.Found) {
	t.Helper()
	d := formatted(t, 24)
	f := mounted(t, d)
	d, f = committed(t, d, f)
	d, f = committed(t, d, f)
	d, f = committed(t, d, changed(t, f, puts(3, 1, 2, 3)...))
	elder := mounted(t, d)
	d, _ = committed(t, d, changed(t, f, puts(3, 4)...))
	return d, elder, mounted(t, d)
}

func TestMountOfBothSuperblocks(t *testing.T) {
	d, elder, newer := both(t)
	if elder.Super.Gen != 4 || elder.Slot != 1 || newer.Super.Gen != 5 || newer.Slot != 0 {
		t.Fatal(elder.Super, elder.Slot, newer.Super, newer.Slot)
	}
	s4, s5 := d.Blocks[1], d.Blocks[0]
	for _, c := range []struct {
		first, second string
		want          api.Found
		slot          int
	}{
		{s5, s4, newer, 0}, {s4, s5, newer, 1}, {s5, "", newer, 0}, {"", s5, newer, 1},
		{s4, "", elder, 0}, {"", s4, elder, 1}, {s5, s5, newer, 0}, {s4, s4, elder, 0},
	} {
		at := withBlock(withBlock(d, 0, c.first), 1, c.second)
		f := mounted(t, at)
		if f.Super != c.want.Super || f.Slot != c.slot || f.Wood.Root != c.want.Super.Root || f.Wood.Gen != c.want.Super.Gen+1 {
			t.Errorf("%s; want %v at %d", showFound(f), c.want.Super, c.slot)
		}
		if !slices.Equal(pairsOf(t, f.Wood), pairsOf(t, c.want.Wood)) {
			t.Errorf("%v: other pairs", c.want.Super)
		}
		mountAsWritten(t, fmt.Sprint("both, ", c.slot), at)
	}
	// The elder one does not count, also where what the newer one leads to is gone.
	mountFails(t, "the newer one without its map", withBlock(d, newer.Super.Map, ""), api.ErrCorrupt)
	mountFails(t, "the newer one without its root", withBlock(d, newer.Super.Root, ""), api.ErrCorrupt)
	mountFails(t, "the newer one of another Size", withBlock(d, 0, superOf(5, newer.Super.Root, newer.Super.Map, 25)), api.ErrCorrupt)
}

func TestMountOfAnotherSize(t *testing.T) {
	for _, n := range []int{24, 25, 2047, 2048} {
		d := formatted(t, n)
		for _, size := range []int{24, 25, n - 1, n + 1, 40, 2047, 2048} {
			if size < 24 || size > 2048 || size == n {
				continue
			}
			at := withBlock(withBlock(d, 0, superOf(1, 0, 10, size)), 10, mapOf(1, used(size, 10)))
			mountFails(t, fmt.Sprint(size, " on ", n), at, api.ErrCorrupt)
			at = withBlock(at, 10, d.Blocks[10])
			mountFails(t, fmt.Sprint(size, " on ", n), at, api.ErrCorrupt)
		}
	}
}

func TestMountGen(t *testing.T) {
	d := formatted(t, 24)
	for _, gen := range []int{1, 2, 255, 1 << 32, top - 2, top - 1} {
		at := withBlock(d, 0, superOf(gen, 0, 10, 24))
		f := mounted(t, at)
		if f.Super.Gen != gen || f.Wood.Gen != gen+1 {
			t.Error(showFound(f))
		}
		mountAsWritten(t, fmt.Sprint("Gen ", gen), at)
	}
	for slot := range 2 {
		at := withBlock(withBlock(d, slot, superOf(top, 0, 10, 24)), 1-slot, superOf(top-1, 0, 10, 24))
		mountFails(t, "Gen 2^40", at, api.ErrCorrupt)
		mountFails(t, "Gen 2^40 alone", withBlock(at, 1-slot, ""), api.ErrCorrupt)
	}
}

func TestMountOfMaps(t *testing.T) {
	for _, n := range []int{24, 27, 2048} {
		d := withBlock(formatted(t, n), 0, superOf(7, 0, 12, n))
		body := packed(used(n, 12))
		for gen := range uint64(8) {
			at := withBlock(d, 12, laid(3, gen, body))
			if f := mounted(t, at); f.Super.Map != 12 || !f.Wood.Now[12] || f.Wood.Now[10] {
				t.Error(showFound(f))
			}
			mountAsWritten(t, fmt.Sprint("a map of Gen ", gen), at)
		}
		good := laid(3, 7, body)
		wrong := map[string]string{
			"no bytes": "", "no page": "x", "a page cut": good[:len(good)-1], "a page and more": good + "x", "another sum": good[:3] + "\x01" + good[4:],
			"a leaf": laid(1, 7, body), "an inner node": laid(2, 7, body), "a superblock": laid(4, 7, body), "a record": laid(5, 7, body), "Kind 0": laid(0, 7, body), "Kind 6": laid(6, 7, body),
			"the next Gen": laid(3, 8, body), "Gen 2^40": laid(3, top, body), "a Gen above": laid(3, top+1, body),
			"an empty Body": laid(3, 7, ""), "a Body too short": laid(3, 7, body[:len(body)-1]), "a Body too long": laid(3, 7, body+"\x00"), "a Body much too long": laid(3, 7, body+zeros(2000)),
			"a Reserved block unused": laid(3, 7, "\xfe"+body[1:]), "another one unused": laid(3, 7, body[:1]+string(body[1]&^2)+body[2:]),
			"its own block unused": laid(3, 7, packed(used(n))), "a block that nothing holds": laid(3, 7, packed(used(n, 12, 13))), "the last block used": laid(3, 7, packed(used(n, 12, n-1))),
		}
		for what, bytes := range wrong {
			mountFails(t, what, withBlock(d, 12, bytes), api.ErrCorrupt)
			mountAsWritten(t, what, withBlock(d, 12, bytes))
		}
	}
	// Bits behind the places, which only some Sizes have room for.
	for n := 25; n < 32; n++ {
		d := withBlock(formatted(t, n), 0, superOf(7, 0, 12, n))
		for bit := n; bit < 32; bit++ {
			body := []byte(packed(used(n, 12)))
			body[3] |= 1 << (bit - 24)
			mountFails(t, fmt.Sprint("bit ", bit, " of ", n), withBlock(d, 12, laid(3, 7, string(body))), api.ErrCorrupt)
		}
	}
}

// Woods that check.Check does not pass, though superblock and map may be.
func TestMountOfWoodsThatDoNotPass(t *testing.T) {
	d, _, f := both(t)
	root, bitmap := f.Super.Root, f.Super.Map
	leaf := func(gen uint64, body string) string { return laid(1, gen, body) }
	one := "\x01\x00\x01a\x00\x011"
	mounts := func(bytes string) bool {
		_, e := Mount(withBlock(d, root, bytes))
		return e == api.OK
	}
	for gen := range uint64(7) {
		if !mounts(leaf(gen, one)) {
			t.Errorf("a leaf of Gen %d is none", gen)
		}
	}
	for what, bytes := range map[string]string{
		"no bytes": "", "no page": "x", "a leaf of a Gen above the wood's": leaf(7, one), "a leaf of Gen 2^40": leaf(top, one), "a leaf without keys": leaf(5, "\x00"), "no leaf": leaf(5, "\x01"),
		"keys that fall": leaf(5, "\x02\x00\x01b\x00\x011\x00\x01a\x00\x011"), "a map": laid(3, 5, one), "a leaf as inner node": laid(2, 5, one),
		"an inner node without children there": laid(2, 5, "\x01\x00\x14\x00\x01m\x00\x15"),
	} {
		mountFails(t, what, withBlock(d, root, bytes), api.ErrCorrupt)
	}
	for what, places := range map[string][]bool{
		"the root unused": used(24, bitmap), "the map unused": used(24, root), "one more used": used(24, root, bitmap, 23), "nothing but the Reserved ones": used(24),
	} {
		mountFails(t, what, withBlock(d, bitmap, mapOf(5, places)), api.ErrCorrupt)
	}
	mountFails(t, "no root, though its block is used", withBlock(d, 0, superOf(5, 0, bitmap, 24)), api.ErrCorrupt)
	mountFails(t, "another root", withBlock(d, 0, superOf(5, 23, bitmap, 24)), api.ErrCorrupt)
	// Two levels, of which a leaf has keys on the wrong side.
	kids := func(a, b string) api.Device {
		at := withBlock(withBlock(d, 20, leaf(5, a)), 21, leaf(5, b))
		at = withBlock(at, bitmap, mapOf(5, used(24, bitmap, 20, 21, 22)))
		at = withBlock(at, 22, laid(2, 5, "\x01\x00\x14\x00\x01m\x00\x15"))
		return withBlock(at, 0, superOf(5, 22, bitmap, 24))
	}
	four := func(from byte) string {
		s := "\x04"
		for i := range byte(4) {
			s += "\x00\x01" + string(rune(from+i)) + "\x00\x00"
		}
		return s
	}
	if f := mounted(t, kids(four('a'), four('m'))); len(pairsOf(t, f.Wood)) != 8 {
		t.Error(showFound(f))
	}
	mountFails(t, "a leaf's keys too high", kids(four('k'), four('m')), api.ErrCorrupt)
	mountFails(t, "a leaf's keys too low", kids(four('a'), four('l')), api.ErrCorrupt)
	mountFails(t, "a leaf of one key below a root", kids(one, four('m')), api.ErrCorrupt)
}

// Pages are the Blocks that are used; others are empty, whatever lies there.
func TestMountTellsPagesOfUsedBlocks(t *testing.T) {
	d, _, f := both(t)
	for block := range d.Blocks {
		at := d
		if !f.Wood.Now[block] {
			at = withBlock(d, block, "left over")
		}
		if block >= 2 && block < 10 {
			at = withBlock(d, block, "no record")
		}
		g := mounted(t, at)
		want := ""
		if f.Wood.Now[block] {
			want = at.Blocks[block]
		}
		if g.Wood.Pages[block] != want {
			t.Errorf("page %d: %s; want %s", block, brief(g.Wood.Pages[block]), brief(want))
		}
		mountAsWritten(t, fmt.Sprint("block ", block), at)
	}
}

func TestMountOfRecords(t *testing.T) {
	d, _, f := both(t)
	gen := f.Super.Gen
	lay := func(no int, bytes string) { d = withBlock(d, 2+no, bytes) }
	ringIs := func(what string, want ...string) {
		t.Helper()
		g := mounted(t, d)
		if !slices.Equal(g.Ring, want) {
			t.Fatalf("%s: %q; want %q", what, g.Ring, want)
		}
		mountAsWritten(t, what, d)
	}
	ringIs("none")
	var bodies []string
	for no := range 8 {
		for _, other := range []int{gen - 1, gen + 1, 1, top} {
			lay(no, recordOf(t, other, no, "of another Gen"))
			ringIs("of another Gen", bodies...)
		}
		lay(no, recordOf(t, gen, (no+1)%8, "of another number"))
		ringIs("of another number", bodies...)
		lay(no, "torn")
		ringIs("torn", bodies...)
		body := strings.Repeat(string(rune('a'+no)), 480*(no%2)+no)[:min(480, 480*(no%2)+no)]
		lay(no, recordOf(t, gen, no, body))
		bodies = append(bodies, body)
		ringIs("as many as may be", bodies...)
	}
	for no := range 8 {
		was := d
		lay(no, "")
		ringIs("a gap", bodies[:no]...)
		d = was
	}
	// A record behind the ring is none.
	d = withBlock(d, 23, recordOf(t, gen, 0, "elsewhere"))
	ringIs("behind the ring", bodies...)
}

// Bits turned, blocks laid over one another and sectors lost: Mount tells what the chapter says.
func TestMountAsWritten(t *testing.T) {
	t.Parallel()
	d, _, _ := both(t)
	d = withBlock(d, 2, recordOf(t, 5, 0, "first"))
	seed := noise(1)
	for block, bytes := range d.Blocks {
		for bit := range 8 * len(bytes) {
			b := []byte(bytes)
			b[bit/8] ^= 1 << (bit % 8)
			at := withBlock(d, block, trimmed(string(b)))
			mountAsWritten(t, fmt.Sprint("block ", block, ", bit ", bit), at)
		}
		for other := range d.Blocks {
			at := withBlock(d, block, d.Blocks[other])
			mountAsWritten(t, fmt.Sprint("block ", other, " over ", block), at)
			at = withBlock(at, other, bytes)
			mountAsWritten(t, fmt.Sprint("blocks ", other, " and ", block), at)
		}
	}
	for range 3000 {
		at := twin(d)
		root, bitmap := 8+seed.below(9), 8+seed.below(9)
		at.Blocks[seed.below(2)] = superOf(seed.below(8), root, bitmap, 22+seed.below(5))
		at.Blocks[bitmap] = laid(byte(2+seed.below(3)), uint64(seed.below(8)), packed(used(22+seed.below(5), root, bitmap)))
		at.Blocks[root] = laid(1, uint64(seed.below(8)), "\x01\x00\x01a\x00\x011")
		mountAsWritten(t, "strewn", at)
	}
}

// P14.3

// powers are pairs of Left ahead of a call and behind it.
var powers = []struct{ left, behind int }{
	{1, 0}, {2, 1}, {3, 2}, {100, 99}, {math.MaxInt, math.MaxInt - 1}, {-1, -1}, {-2, -2}, {math.MinInt, math.MinInt},
}

func TestWrite(t *testing.T) {
	d := withPending(formatted(t, 24), api.Write{Block: 20, Bytes: "on its way"})
	for _, c := range []struct {
		block int
		bytes string
	}{
		{0, ""}, {1, "a"}, {20, "b"}, {23, "c\x00\x00"}, {5, "\x00"}, {11, strings.Repeat("d", 4096)}, {11, zeros(4096)}, {12, strings.Repeat("e", 4000) + zeros(96)},
	} {
		after := withPending(d, api.Write{Block: c.block, Bytes: trimmed(c.bytes)})
		for _, p := range powers {
			writeIs(t, "a write", withPower(d, p.left), c.block, c.bytes, withPower(after, p.behind), api.OK)
		}
		writeIs(t, "without power", withPower(d, 0), c.block, c.bytes, withPower(d, 0), api.ErrDown)
	}
}

// With a device's error the device and Left stay; without power there is no such error.
func TestWriteThatMayNotBe(t *testing.T) {
	d := withPending(formatted(t, 24), api.Write{Block: 20, Bytes: "on its way"})
	full := twin(d)
	for len(full.Pending) < 2048 {
		full.Pending = append(full.Pending, api.Write{Block: 21, Bytes: "x"})
	}
	fails := func(what string, d api.Device, block int, bytes string, e api.Errno) {
		t.Helper()
		for _, p := range powers {
			writeIs(t, what, withPower(d, p.left), block, bytes, withPower(d, p.left), e)
		}
		writeIs(t, what, withPower(d, 0), block, bytes, withPower(d, 0), api.ErrDown)
	}
	for _, block := range []int{-1, 24, 25, 2048, math.MinInt, math.MaxInt} {
		fails("no such block", d, block, "a", api.ErrBlock)
		fails("no such block, and too long", d, block, strings.Repeat("a", 4097), api.ErrBlock)
		fails("no such block, and too many writes", full, block, "a", api.ErrBlock)
	}
	fails("too long", d, 3, strings.Repeat("a", 4097), api.ErrLong)
	fails("too long by zeros", d, 3, zeros(4097), api.ErrLong)
	fails("too many writes", full, 3, "a", api.ErrLong)
	for what, d := range wrongDevices(t) {
		fails(what, d, 3, "a", api.ErrArg)
		fails(what, d, -1, strings.Repeat("a", 4097), api.ErrArg)
	}
}

func TestFlush(t *testing.T) {
	d := formatted(t, 24)
	for _, c := range []struct{ d, want api.Device }{
		{d, d},
		{blank(1), blank(1)},
		{withPending(d, api.Write{Block: 20, Bytes: "a"}), withBlock(d, 20, "a")},
		{withPending(d, api.Write{Block: 20, Bytes: "a"}, api.Write{Block: 0, Bytes: "b"}, api.Write{Block: 20, Bytes: "c"}), withBlock(withBlock(d, 20, "c"), 0, "b")},
		{withPending(d, api.Write{Block: 10}), withBlock(d, 10, "")},
	} {
		for _, p := range powers {
			flushIs(t, "a flush", withPower(c.d, p.left), withPower(c.want, p.behind), api.OK)
		}
		flushIs(t, "without power", withPower(c.d, 0), withPower(c.d, 0), api.ErrDown)
	}
	for what, d := range wrongDevices(t) {
		for _, p := range powers {
			flushIs(t, what, withPower(d, p.left), withPower(d, p.left), api.ErrArg)
		}
		flushIs(t, what, withPower(d, 0), withPower(d, 0), api.ErrDown)
	}
}

// Calls one behind the other, until the power has gone; then nothing is changed any more.
func TestPowerGoes(t *testing.T) {
	for left := range 12 {
		p := withPower(formatted(t, 24), left)
		for call := range 15 {
			was := withPower(twin(p.Device), p.Left)
			q, e := Write(p, 20, fmt.Sprint(call))
			if call%3 == 2 {
				q, e = Flush(p)
			}
			if down := call >= left; down != (e == api.ErrDown) || !down && (e != api.OK || q.Left != left-call-1) {
				t.Fatalf("call %d of %d: %d, %d left", call, left, e, q.Left)
			}
			if e != api.OK && !samePower(q, was) {
				t.Fatalf("call %d of %d changed the device", call, left)
			}
			p = q
		}
	}
}

// P14.4: Fits

func TestFits(t *testing.T) {
	for _, s := range stages(t) {
		fitsIs(t, s.name, s.device, s.found, true)
		f := s.found
		f.Slot = 1 - f.Slot
		fitsIs(t, s.name+", the other slot", s.device, f, true)
		f.Ring = []string{"whatever", strings.Repeat("x", 5000), ""}
		fitsIs(t, s.name+", whatever records", s.device, f, true)
		d := withPending(s.device, api.Write{Block: 0, Bytes: "x"}, api.Write{Block: 11, Bytes: "y"})
		fitsIs(t, s.name+", with writes on their way", d, f, true)
		// What lies there is not asked.
		fitsIs(t, s.name+", an empty device", blank(len(d.Blocks)), f, true)
		f.Wood.Pages = make([]string, len(d.Blocks))
		fitsIs(t, s.name+", empty pages", d, f, true)
	}
	f := mounted(t, withBlock(formatted(t, 24), 0, superOf(top-1, 0, 10, 24)))
	fitsIs(t, "the highest Gen", blank(24), f, true)
}

// misfits are what does not fit that device, each by one thing alone.
func misfits(t *testing.T) (api.Device, map[string]api.Found) {
	d := formatted(t, 24)
	d, f := committed(t, d, changed(t, mounted(t, d), puts(3, upTo(0, 9)...)...))
	all := map[string]api.Found{}
	add := func(what string, change func(f *api.Found)) {
		g := twinFound(f)
		change(&g)
		all[what] = g
	}
	for _, slot := range []int{-1, 2, 3, math.MinInt, math.MaxInt} {
		add(fmt.Sprint("slot ", slot), func(f *api.Found) { f.Slot = slot })
	}
	for _, gen := range []int{f.Super.Gen - 1, f.Super.Gen + 1, top - 1, 1} {
		add(fmt.Sprint("a superblock of Gen ", gen), func(f *api.Found) { f.Super.Gen = gen })
	}
	for _, gen := range []int{f.Wood.Gen - 1, f.Wood.Gen + 1, top, 1, 0, -1} {
		add(fmt.Sprint("a wood of Gen ", gen), func(f *api.Found) { f.Wood.Gen = gen })
	}
	for _, gen := range []int{0, -1, top, top + 1, math.MinInt, math.MaxInt} {
		add(fmt.Sprint("both of Gen ", gen), func(f *api.Found) { f.Super.Gen, f.Wood.Gen = gen, gen+1 })
	}
	for _, size := range []int{23, 25, 0, -1, 2048, 2049, math.MaxInt} {
		add(fmt.Sprint("a superblock of Size ", size), func(f *api.Found) { f.Super.Size = size })
	}
	for _, root := range []int{-1, 1, 9, 24, 2048, f.Super.Map} {
		add(fmt.Sprint("a superblock with Root ", root), func(f *api.Found) { f.Super.Root = root })
	}
	for _, bitmap := range []int{-1, 0, 1, 9, 24, 2048, f.Super.Root, 22} {
		add(fmt.Sprint("a superblock with Map ", bitmap), func(f *api.Found) { f.Super.Map = bitmap })
	}
	for _, root := range []int{-1, 1, 9, 24, math.MinInt, math.MaxInt, f.Super.Map} {
		add(fmt.Sprint("a wood with Root ", root), func(f *api.Found) { f.Wood.Root = root })
	}
	add("a Map that Now has not", func(f *api.Found) { f.Wood.Now[f.Super.Map] = false })
	add("a Reserved block that Now has not", func(f *api.Found) { f.Wood.Now[9] = false })
	add("a Reserved block that Base has not", func(f *api.Found) { f.Wood.Base[0] = false })
	add("a place of Base too few", func(f *api.Found) { f.Wood.Base = f.Wood.Base[:23] })
	add("a place of Now too many", func(f *api.Found) { f.Wood.Now = append(f.Wood.Now, false) })
	add("a page too few", func(f *api.Found) { f.Wood.Pages = f.Wood.Pages[:23] })
	add("a page too many", func(f *api.Found) { f.Wood.Pages = append(f.Wood.Pages, "") })
	add("a page too long", func(f *api.Found) { f.Wood.Pages[23] = strings.Repeat("x", 4097) })
	add("a wood of more places", func(f *api.Found) {
		f.Wood.Base, f.Wood.Now, f.Wood.Pages = append(f.Wood.Base, false), append(f.Wood.Now, false), append(f.Wood.Pages, "")
	})
	add("a wood and a superblock of more places", func(f *api.Found) {
		f.Wood.Base, f.Wood.Now, f.Wood.Pages = append(f.Wood.Base, false), append(f.Wood.Now, false), append(f.Wood.Pages, "")
		f.Super.Size++
	})
	add("no wood", func(f *api.Found) { f.Wood = api.Wood{} })
	add("nothing", func(f *api.Found) { *f = api.Found{} })
	return d, all
}

func TestFitsNot(t *testing.T) {
	d, all := misfits(t)
	for what, f := range all {
		fitsIs(t, what, d, f, false)
	}
	f := mounted(t, d)
	fitsIs(t, "all in order", d, f, true)
	longer, shorter := twin(d), twin(d)
	longer.Blocks, shorter.Blocks = append(longer.Blocks, ""), shorter.Blocks[:23]
	fitsIs(t, "a block more", longer, f, false)
	fitsIs(t, "a block less", shorter, f, false)
	for what, d := range wrongDevices(t) {
		fitsIs(t, what, d, f, false)
	}
	f.Super.Size = 25
	fitsIs(t, "a block more and a superblock of that Size", longer, f, false)
}

// P14.4: Commit's errors

func TestCommitOfWhatDoesNotFit(t *testing.T) {
	lefts := []int{0, 1, 50, -1}
	d, all := misfits(t)
	f := mounted(t, d)
	for _, left := range lefts {
		for what, f := range all {
			commitFails(t, what, withPower(d, left), f, api.ErrArg)
		}
		for what, d := range wrongDevices(t) {
			commitFails(t, what, withPower(d, left), f, api.ErrArg)
		}
		longer := twin(d)
		longer.Blocks = append(longer.Blocks, "")
		commitFails(t, "a block more", withPower(longer, left), f, api.ErrArg)
	}
}

// Woods that fit and that check.Check does not pass; also where other errors are named behind.
func TestCommitOfWoodsThatDoNotPass(t *testing.T) {
	d := formatted(t, 24)
	d, f := committed(t, d, changed(t, mounted(t, d), puts(3, upTo(0, 9)...)...))
	wrong := map[string]func(w *api.Wood){
		"a block that nothing holds": func(w *api.Wood) { w.Now[23] = true },
		"a root that Now has not":    func(w *api.Wood) { w.Now[w.Root] = false },
		"no root":                    func(w *api.Wood) { w.Root = 0 },
		"another root":               func(w *api.Wood) { w.Root = 22 },
		"a root without bytes":       func(w *api.Wood) { w.Pages[w.Root] = "" },
		"a root that is no page":     func(w *api.Wood) { w.Pages[w.Root] += "x" },
		"a leaf that is the root":    func(w *api.Wood) { w.Pages[10], w.Pages[11] = w.Pages[11], w.Pages[10] },
		"a root of a later Gen":      func(w *api.Wood) { w.Pages[w.Root] = laid(1, uint64(w.Gen)+1, "\x01\x00\x01a\x00\x011") },
	}
	for what, spoil := range wrong {
		g := twinFound(f)
		spoil(&g.Wood)
		fitsIs(t, what, d, g, true)
		if _, e := check.Check(g.Wood, g.Super.Map); e == api.OK {
			t.Fatalf("%s: passes", what)
		}
		for _, left := range []int{0, 1, 50, -1} {
			commitFails(t, what, withPower(d, left), g, api.ErrArg)
		}
		g.Wood.Base = slices.Repeat([]bool{true}, 24)
		commitFails(t, what+", and no block is free", withPower(d, -1), g, api.ErrArg)
		g.Super.Gen, g.Wood.Gen = top-1, top
		if what != "a root of a later Gen" {
			commitFails(t, what+", and Gen 2^40", withPower(d, -1), g, api.ErrArg)
		}
	}
}

func TestCommitOfTheLastGen(t *testing.T) {
	for _, changes := range [][]api.Change{nil, puts(1, 1)} {
		d := withBlock(formatted(t, 24), 0, superOf(top-1, 0, 10, 24))
		f := changed(t, mounted(t, d), changes...)
		for _, left := range []int{0, 1, 50, -1} {
			commitFails(t, "Gen 2^40", withPower(d, left), f, api.ErrLong)
		}
		f.Wood.Base = slices.Repeat([]bool{true}, 24)
		commitFails(t, "Gen 2^40, and no block is free", withPower(d, -1), f, api.ErrLong)
		full := twin(d)
		full.Pending = slices.Repeat([]api.Write{{Block: 23}}, 2048)
		commitFails(t, "Gen 2^40, and no more writes", withPower(full, -1), f, api.ErrLong)

		// The last but one still comes to count, and none behind it.
		d = withBlock(d, 0, superOf(top-2, 0, 10, 24))
		f = changed(t, mounted(t, d), changes...)
		commitAsWritten(t, "Gen 2^40 - 1", d, f)
		d, f = committed(t, d, f)
		if f.Super.Gen != top-1 || f.Wood.Gen != top {
			t.Error(showFound(f))
		}
		commitFails(t, "behind it", withPower(d, -1), f, api.ErrLong)
		mountAsWritten(t, "Gen 2^40 - 1", d)
		if g := mounted(t, d); g.Super != f.Super || g.Wood.Gen != top {
			t.Error(showFound(g))
		}
	}
}

func TestCommitWithoutAFreeBlock(t *testing.T) {
	d := formatted(t, 24)
	d, f := committed(t, d, changed(t, mounted(t, d), puts(3, upTo(0, 9)...)...))
	all := slices.Repeat([]bool{true}, 24)
	g := twinFound(f)
	g.Wood.Base = slices.Clone(all)
	for _, left := range []int{0, 1, 50, -1} {
		commitFails(t, "none is free", withPower(d, left), g, api.ErrSpace)
	}
	full := twin(d)
	full.Pending = slices.Repeat([]api.Write{{Block: 23}}, 2048)
	commitFails(t, "none is free, and no more writes", withPower(full, -1), g, api.ErrSpace)

	// One is: the new map's. It may be the old map's, too, if that does not count.
	for block := 10; block < 24; block++ {
		g := twinFound(f)
		g.Wood.Base = slices.Clone(all)
		g.Wood.Base[block] = false
		commitAsWritten(t, fmt.Sprint("but ", block), d, g)
		if g.Wood.Now[block] && block != f.Super.Map {
			commitFails(t, fmt.Sprint("but ", block), withPower(d, -1), g, api.ErrSpace)
			continue
		}
		if _, h := committed(t, d, g); h.Super.Map != block || !h.Wood.Now[block] {
			t.Error(showFound(h))
		}
	}
}

// A tree that grows until there is no room for it, each pair committed.
func TestCommitUntilNoBlockIsFree(t *testing.T) {
	d := formatted(t, 24)
	f := mounted(t, d)
	for n := 0; n < 200; n++ {
		w, e := prune.Change(f.Wood, puts(200, n)...)
		if e == api.ErrSpace {
			if len(pairsOf(t, mounted(t, d).Wood)) != n || n < 20 {
				t.Fatalf("no room behind %d pairs", n)
			}
			return
		}
		g := f
		g.Wood = w
		commitAsWritten(t, fmt.Sprint(n, " pairs"), d, g)
		p, h, e := Commit(withPower(d, -1), g)
		if e == api.ErrSpace {
			// A pair had the last block that was free; without it there is one.
			if alloc.Free(w.Alloc) != 0 {
				t.Fatalf("%d pairs: ErrSpace, though %d blocks are free", n, alloc.Free(w.Alloc))
			}
			d, f = committed(t, d, f)
			foundIs(t, "without it", d, f)
			return
		}
		if e != api.OK {
			t.Fatalf("%d pairs: %d", n, e)
		}
		d, f = p.Device, h
		foundIs(t, fmt.Sprint(n, " pairs"), d, f)
	}
	t.Fatal("there is always room")
}

// A call that tells another error than ErrDown: no more writes may be on their way.
func TestCommitWithManyWritesOnTheirWay(t *testing.T) {
	d := formatted(t, 24)
	f := changed(t, mounted(t, d), puts(3, upTo(0, 9)...)...) // three pages and a map
	for pending := 2040; pending <= 2048; pending++ {
		at := twin(d)
		at.Pending = slices.Repeat([]api.Write{{Block: 23, Bytes: "x"}}, pending)
		commitAsWritten(t, fmt.Sprint(pending, " on their way"), at, f)
		_, _, e := Commit(withPower(at, -1), f)
		if want := pending > 2044; want != (e == api.ErrLong) || !want && e != api.OK {
			t.Errorf("%d on their way: %d", pending, e)
		}
	}
	full := twin(d)
	full.Pending = slices.Repeat([]api.Write{{Block: 23, Bytes: "x"}}, 2048)
	commitIs(t, "neither power nor room", withPower(full, 0), f, withPower(full, 0), api.Found{}, api.ErrDown)
}

// P14.4: what Commit does

// Each call and its order, written out.
func TestCommitWrittenOut(t *testing.T) {
	d := formatted(t, 24)
	f := changed(t, mounted(t, d), api.Change{Key: "a", Val: "1"})
	leaf := laid(1, 2, "\x01\x00\x01a\x00\x011")
	// Blocks 0 to 9, the leaf's, 11, and the new map's, 12; no more the old one's, 10.
	bitmap := laid(3, 2, "\xff\x1b\x00")
	newer := laid(4, 2, "\x00\x0b\x00\x0c\x00\x18")
	states := []api.Device{d}
	states = append(states, withPending(d, api.Write{Block: 11, Bytes: leaf}))
	states = append(states, withPending(states[1], api.Write{Block: 12, Bytes: bitmap}))
	states = append(states, withBlock(withBlock(d, 11, leaf), 12, bitmap))
	states = append(states, withPending(states[3], api.Write{Block: 1, Bytes: newer}))
	states = append(states, withBlock(states[3], 1, newer))
	for left := range 5 {
		commitIs(t, "one pair", withPower(d, left), f, withPower(states[left], 0), api.Found{}, api.ErrDown)
	}
	pages := slices.Clone(f.Wood.Pages)
	pages[12] = bitmap
	want := api.Found{
		Super: api.Super{Gen: 2, Root: 11, Map: 12, Size: 24},
		Slot:  1,
		Wood:  api.Wood{Alloc: api.Alloc{Base: used(24, 11, 12), Now: used(24, 11, 12)}, Pages: pages, Root: 11, Gen: 3},
	}
	for _, c := range []struct{ left, behind int }{{5, 0}, {6, 1}, {math.MaxInt, math.MaxInt - 5}, {-1, -1}, {math.MinInt, math.MinInt}} {
		commitIs(t, "one pair", withPower(d, c.left), f, withPower(states[5], c.behind), want, api.OK)
	}

	// Again, with nothing changed: the map alone, the superblock in the other slot. Block 10 is free by now.
	d2 := states[5]
	bitmap = laid(3, 3, "\xff\x0f\x00")
	newer = laid(4, 3, "\x00\x0b\x00\x0a\x00\x18")
	states = []api.Device{d2, withPending(d2, api.Write{Block: 10, Bytes: bitmap}), withBlock(d2, 10, bitmap)}
	states = append(states, withPending(states[2], api.Write{Block: 0, Bytes: newer}))
	states = append(states, withBlock(states[2], 0, newer))
	for left := range 4 {
		commitIs(t, "nothing", withPower(d2, left), want, withPower(states[left], 0), api.Found{}, api.ErrDown)
	}
	pages = slices.Clone(want.Wood.Pages)
	pages[10] = bitmap
	third := api.Found{
		Super: api.Super{Gen: 3, Root: 11, Map: 10, Size: 24},
		Wood:  api.Wood{Alloc: api.Alloc{Base: used(24, 10, 11), Now: used(24, 10, 11)}, Pages: pages, Root: 11, Gen: 4},
	}
	commitIs(t, "nothing", withPower(d2, 4), want, withPower(states[4], 0), third, api.OK)
	commitIs(t, "nothing", withPower(d2, -7), want, withPower(states[4], -7), third, api.OK)
}

func TestCommitAsWritten(t *testing.T) {
	t.Parallel()
	for _, s := range stages(t) {
		commitAsWritten(t, s.name, s.device, s.found)
		f := twinFound(s.found)
		f.Slot = 1 - f.Slot
		f.Ring = []string{"left out"}
		commitAsWritten(t, s.name+", the other slot", s.device, f)
		d := withPending(s.device, api.Write{Block: 9, Bytes: "a record"}, api.Write{Block: len(s.device.Blocks) - 1, Bytes: "x"})
		commitAsWritten(t, s.name+", with writes on their way", d, f)
		commitAsWritten(t, s.name+", on an empty device", blank(len(d.Blocks)), f)
		f.Wood.Base = used(len(d.Blocks))
		commitAsWritten(t, s.name+", with nothing that counts", s.device, f)
	}
}

// A Page that the device tells already is not written, also if that write is on its way.
func TestCommitLeavesOutWhatTheDeviceTells(t *testing.T) {
	d := formatted(t, 24)
	f := changed(t, mounted(t, d), puts(100, upTo(0, 9)...)...)
	c, _ := commitOf(d, f)
	blocks, _ := check.Blocks(f.Wood)
	if len(blocks) != 3 || c.calls() != 7 {
		t.Fatal(blocks, c.calls())
	}
	for mask := range 8 {
		for _, how := range []string{"lying", "on its way", "on its way over others", "under another write"} {
			at, calls := twin(d), 7
			for i, block := range blocks {
				if mask>>i%2 == 0 {
					continue
				}
				page := f.Wood.Pages[block]
				switch how {
				case "lying":
					at = withBlock(at, block, page)
					calls--
				case "on its way":
					at = withPending(at, api.Write{Block: block, Bytes: page})
					calls--
				case "on its way over others":
					at = withPending(withBlock(at, block, "x"), api.Write{Block: block, Bytes: "y"}, api.Write{Block: block, Bytes: page})
					calls--
				case "under another write":
					at = withPending(withBlock(at, block, page), api.Write{Block: block, Bytes: page}, api.Write{Block: block, Bytes: "z"})
				}
			}
			what := fmt.Sprint(how, " ", mask)
			if p, _, e := Commit(withPower(at, calls), f); e != api.OK || p.Left != 0 {
				t.Errorf("%s: %d with power for %d calls, %d left", what, e, calls, p.Left)
			}
			if _, _, e := Commit(withPower(at, calls-1), f); e != api.ErrDown {
				t.Errorf("%s: %d with power for %d calls", what, e, calls-1)
			}
			commitAsWritten(t, what, at, f)
		}
	}
	// The map is written, also where it lies there already.
	at := withBlock(d, c.found.Super.Map, c.now().Blocks[c.found.Super.Map])
	if p, _, e := Commit(withPower(at, 9), f); e != api.OK || p.Left != 2 {
		t.Error(e, p.Left)
	}
	// And so is the superblock.
	at = withBlock(d, 1, c.now().Blocks[1])
	if p, _, e := Commit(withPower(at, 9), f); e != api.OK || p.Left != 2 {
		t.Error(e, p.Left)
	}
}

// Pages of blocks that Now has not, and of the Reserved ones, are not written.
func TestCommitWritesWhatIsUsedAlone(t *testing.T) {
	d := formatted(t, 24)
	f := changed(t, mounted(t, d), puts(1, 1)...)
	for block := range d.Blocks {
		if block >= 10 && f.Wood.Now[block] && block != f.Super.Map {
			continue
		}
		g := twinFound(f)
		g.Wood.Pages[block] = "no one's"
		commitAsWritten(t, fmt.Sprint("page ", block), d, g)
		if p, _, e := Commit(withPower(d, 5), g); e != api.OK || p.Left != 0 || slices.Contains(p.Blocks, "no one's") {
			t.Errorf("page %d: %s, %d", block, showPower(p), e)
		}
	}
}

// Nodes in the first and in the last block behind the Reserved ones are written, too.
func TestCommitOfTheOutermostBlocks(t *testing.T) {
	for _, n := range []int{24, 25, 2048} {
		d := withBlock(formatted(t, n), 0, superOf(1, 0, 12, n))
		d = withBlock(withBlock(d, 10, ""), 12, mapOf(1, used(n, 12)))
		for _, block := range []int{10, n - 1} {
			f := mounted(t, d)
			f.Wood.Base = slices.Repeat([]bool{true}, n)
			f.Wood.Base[block], f.Wood.Base[12] = false, false
			f = changed(t, f, puts(1, 1)...)
			if f.Wood.Root != block {
				t.Fatal(showFound(f))
			}
			commitAsWritten(t, fmt.Sprint("block ", block), d, f)
			at, g := committed(t, d, f)
			foundIs(t, fmt.Sprint("block ", block), at, g)
		}
	}
}

// A Page with zeros at its end is not what a device tells, byte by byte: it is written, and lies there without them.
func TestCommitOfPagesWithZeros(t *testing.T) {
	d := formatted(t, 24)
	d, f := committed(t, d, changed(t, mounted(t, d), puts(1, 1)...))
	f.Wood.Pages[f.Wood.Root] += zeros(3)
	commitAsWritten(t, "zeros", d, f)
	at, _ := committed(t, d, f)
	if m := mounted(t, at); m.Wood.Pages[m.Super.Root] != d.Blocks[m.Super.Root] {
		t.Error(showFound(m))
	}
}

// P14.5

// foundIs holds a mount against what Commit told: superblock, Slot, the blocks that are used, the pages behind the Reserved ones that are, and no records.
func foundIs(t *testing.T, what string, d api.Device, f api.Found) {
	t.Helper()
	m := mounted(t, d)
	w, v := m.Wood, f.Wood
	if m.Super != f.Super || m.Slot != f.Slot || w.Root != v.Root || w.Gen != v.Gen || !slices.Equal(w.Base, v.Base) || !slices.Equal(w.Now, v.Now) {
		t.Fatalf("%s: mounted %s; told %s", what, showFound(m), showFound(f))
	}
	if len(m.Ring) != 0 || len(f.Ring) != 0 {
		t.Fatalf("%s: records: %q, %q", what, m.Ring, f.Ring)
	}
	for block := 10; block < len(w.Now); block++ {
		if w.Now[block] && w.Pages[block] != v.Pages[block] {
			t.Fatalf("%s: page %d: %s; told %s", what, block, brief(w.Pages[block]), brief(v.Pages[block]))
		}
	}
	if !slices.Equal(pairsOf(t, w), pairsOf(t, v)) {
		t.Fatalf("%s: other pairs", what)
	}
}

func TestWhatIsFormattedIsMounted(t *testing.T) {
	for n := 24; n <= 2048; n += 1 + n%7 {
		f := mounted(t, formatted(t, n))
		if f.Super != (api.Super{Gen: 1, Map: 10, Size: n}) || len(pairsOf(t, f.Wood)) != 0 || len(f.Ring) != 0 {
			t.Fatal(showFound(f))
		}
	}
}

func TestWhatCommitTellsIsMounted(t *testing.T) {
	for _, s := range stages(t) {
		d, f := committed(t, s.device, s.found)
		foundIs(t, s.name, d, f)
		if !slices.Equal(pairsOf(t, f.Wood), pairsOf(t, s.found.Wood)) {
			t.Errorf("%s: other pairs than were committed", s.name)
		}
		// And again, of what was told, and of what is mounted.
		m := mounted(t, d)
		d1, f1 := committed(t, d, f)
		foundIs(t, s.name+", again", d1, f1)
		d2, f2 := committed(t, d, m)
		foundIs(t, s.name+", again as mounted", d2, f2)
		if !same(d1, d2) || f1.Super != f2.Super || f1.Slot != s.found.Slot {
			t.Errorf("%s: %s; as mounted %s", s.name, showFound(f1), showFound(f2))
		}
	}
}

func TestCommitOfAGreatTree(t *testing.T) {
	t.Parallel()
	d := formatted(t, 2048)
	f := changed(t, mounted(t, d), puts(8, upTo(0, 1500)...)...)
	d, f = committed(t, d, f)
	foundIs(t, "great", d, f)
	if pairs := pairsOf(t, mounted(t, d).Wood); len(pairs) != 1500 {
		t.Error(len(pairs))
	}
	g := changed(t, f, takes(upTo(100, 700)...)...)
	at, g := committed(t, d, g)
	foundIs(t, "great, some gone", at, g)
	if pairs := pairsOf(t, mounted(t, at).Wood); len(pairs) != 900 {
		t.Error(len(pairs))
	}
}

// P14.6

// masks are ways in which sectors of so many writes stay.
func masks(writes int, seed *noise) [][]int {
	all := [][]int{nil}
	for _, mask := range []int{0, 255, 1, 2, 254, 127, 128, 0x55, 0xaa} {
		all = append(all, slices.Repeat([]int{mask}, writes))
	}
	for k := range writes {
		one := make([]int, writes)
		one[k] = 255
		rest := slices.Repeat([]int{255}, writes)
		rest[k] = seed.below(255)
		all = append(all, one, rest, rest[:k])
	}
	for range 20 {
		l := make([]int, writes)
		for k := range l {
			l[k] = seed.below(256)
		}
		all = append(all, l)
	}
	return all
}

// crashed holds what is mounted behind a crash against the promise. The elder records must be first ones of elder.Ring, at least so many; the new superblock is there for sure, if Commit told OK.
func crashed(t *testing.T, what string, d api.Device, masks []int, elder, newer api.Found, sure int, ok bool) bool {
	t.Helper()
	left, e := device.Crash(d, masks...)
	if e != api.OK {
		t.Fatalf("%s: Crash: %d", what, e)
	}
	m, e := Mount(left)
	if e != api.OK {
		t.Fatalf("%s, masks %v: Mount: %d", what, masks, e)
	}
	mountAsWritten(t, what, left)
	if m.Super == newer.Super {
		if m.Slot != newer.Slot || len(m.Ring) != 0 || !slices.Equal(pairsOf(t, m.Wood), pairsOf(t, newer.Wood)) {
			t.Fatalf("%s, masks %v: the new superblock with %s", what, masks, showFound(m))
		}
		return true
	}
	if ok || m.Super != elder.Super || m.Slot != elder.Slot || !slices.Equal(pairsOf(t, m.Wood), pairsOf(t, elder.Wood)) {
		t.Fatalf("%s, masks %v: %s; elder %v, newer %v", what, masks, showFound(m), elder.Super, newer.Super)
	}
	if len(m.Ring) < sure || len(m.Ring) > len(elder.Ring) || !slices.Equal(m.Ring, elder.Ring[:len(m.Ring)]) {
		t.Fatalf("%s, masks %v: records %q of %q", what, masks, m.Ring, elder.Ring)
	}
	return false
}

// powerGoes has the power go behind each call of a commit, with many sectors staying. It tells whether both superblocks were found.
func powerGoes(t *testing.T, what string, d api.Device, elder, f api.Found, sure int) (old, fresh bool) {
	t.Helper()
	seed := noise(len(what))
	all, newer := committed(t, d, f)
	for left := 0; ; left++ {
		p, g, e := Commit(withPower(d, left), f)
		if e == api.ErrDown && (p.Left != 0 || !sameFound(g, api.Found{})) || e != api.ErrDown && e != api.OK {
			t.Fatalf("%s: %d", what, e)
		}
		if e == api.OK && !same(p.Device, all) {
			t.Fatalf("%s: another device", what)
		}
		for _, l := range masks(len(p.Pending), &seed) {
			if crashed(t, fmt.Sprint(what, " behind ", left), p.Device, l, elder, newer, sure, e == api.OK) {
				fresh = true
			} else {
				old = true
			}
		}
		if e == api.OK {
			return old, fresh
		}
	}
}

func TestPowerGoesInCommit(t *testing.T) {
	t.Parallel()
	for _, s := range stages(t) {
		old, fresh := powerGoes(t, s.name, s.device, s.elder, s.found, len(s.elder.Ring))
		if !old || !fresh {
			t.Errorf("%s: elder %v, newer %v", s.name, old, fresh)
		}
	}
}

// Every mask of every write of a short commit.
func TestEverySectorOfACommit(t *testing.T) {
	t.Parallel()
	d := formatted(t, 24)
	d, elder := committed(t, d, changed(t, mounted(t, d), puts(200, upTo(0, 5)...)...))
	f := changed(t, elder, puts(199, 2)...)
	_, newer := committed(t, d, f)
	for left := range 6 {
		p, _, e := Commit(withPower(d, left), f)
		for mask := range 256 {
			for k := range max(1, len(p.Pending)) {
				l := slices.Repeat([]int{255}, k+1)
				l[k] = mask
				is := crashed(t, fmt.Sprint(left, " calls"), p.Device, l, elder, newer, 0, e == api.OK)
				// A superblock lies within its first sector.
				if want := left == 5 || left == 4 && mask%2 == 1; is != want {
					t.Fatalf("%d calls, mask %d: the new one: %v", left, mask, is)
				}
			}
		}
	}
}

// Records that are on their way when a commit begins are there in part, if the elder superblock is found: some first ones.
func TestPowerGoesWithRecordsOnTheirWay(t *testing.T) {
	t.Parallel()
	d := formatted(t, 40)
	d, elder := committed(t, d, changed(t, mounted(t, d), puts(30, upTo(0, 20)...)...))
	gen := elder.Super.Gen
	for sure := range 9 {
		at := d
		elder.Ring = nil
		for no := range 8 {
			if no == sure {
				at = flushed(t, at)
			}
			body := strings.Repeat(string(rune('a'+no)), 60*no)
			at = written(t, at, 2+no, recordOf(t, gen, no, body))
			elder.Ring = append(elder.Ring, body)
		}
		if sure == 8 {
			at = flushed(t, at)
			if m := mounted(t, at); !slices.Equal(m.Ring, elder.Ring) {
				t.Fatal(showFound(m))
			}
		}
		powerGoes(t, fmt.Sprint(sure, " records for sure"), at, elder, changed(t, elder, puts(9, 1, 50)...), sure)
	}
}

// A long play: changes, records, commits with power for some calls, crashes and mounts. All that is mounted is what was committed last, or what was being committed.
func TestPlays(t *testing.T) {
	t.Parallel()
	for seed := noise(1); seed < 9; seed++ {
		at := seed
		play(t, &at, 24+8*int(seed))
	}
}

func play(t *testing.T, seed *noise, n int) {
	t.Helper()
	d := formatted(t, n)
	f := mounted(t, d)
	elder := f
	for step := range 120 {
		var changes []api.Change
		for range seed.below(4) {
			key := seed.below(n / 3)
			if seed.below(5) < 2 {
				changes = append(changes, takes(key)...)
			} else {
				changes = append(changes, puts(seed.below(201), key)...)
			}
		}
		f = changed(t, f, changes...)
		if seed.below(3) == 0 && len(elder.Ring) < 8 {
			body := fmt.Sprint("step ", step)
			d = flushed(t, written(t, d, 2+len(elder.Ring), recordOf(t, elder.Super.Gen, len(elder.Ring), body)))
			elder.Ring = append(slices.Clone(elder.Ring), body)
		}
		_, newer := committed(t, d, f)
		p, g, e := Commit(withPower(d, seed.below(12)), f)
		if e == api.OK && seed.below(3) > 0 {
			foundIs(t, "play", p.Device, g)
			d, f, elder = p.Device, g, g
			continue
		}
		l := make([]int, len(p.Pending))
		for k := range l {
			l[k] = []int{0, 255, seed.below(256)}[seed.below(3)]
		}
		crashed(t, "play", p.Device, l, elder, newer, len(elder.Ring), e == api.OK)
		d, _ = device.Crash(p.Device, l...)
		f = mounted(t, d)
		elder = f
	}
}

// The rules, and P1

func TestAnswersAreNewMemory(t *testing.T) {
	d := withPending(formatted(t, 24), api.Write{Block: 20, Bytes: "x"})
	f := changed(t, mounted(t, formatted(t, 24)), puts(1, 1)...)
	f.Ring = []string{"a"}
	for _, left := range []int{0, 1, 2, 3, 4, -1} {
		was, wasFound := twin(d), twinFound(f)
		p, g, _ := Commit(withPower(d, left), f)
		q, _ := Write(withPower(d, left), 11, "y")
		bad, _ := Write(withPower(d, left), -1, "y")
		r, _ := Flush(withPower(d, left))
		for i, answer := range []struct {
			p api.Power
			f api.Found
		}{{p, g}, {p: q}, {p: bad}, {p: r}} {
			apart(t, answer.p.Device, answer.f)
			if !same(d, was) || !sameFound(f, wasFound) {
				t.Fatalf("answer %d with power for %d shares a list with an argument", i, left)
			}
		}
	}
	for i, d := range []api.Device{{}, withBlock(blank(24), 3, "a\x00")} {
		was := twin(d)
		for left := range 2 {
			q, _ := Write(withPower(d, left), 1, "y")
			apart(t, q.Device, api.Found{})
			r, _ := Flush(withPower(d, left))
			apart(t, r.Device, api.Found{})
		}
		if !same(d, was) {
			t.Errorf("a device that may not be, %d: a list is shared", i)
		}
	}
	d, _, _ = both(t)
	d = withBlock(d, 2, recordOf(t, 5, 0, "first"))
	was := twin(d)
	apart(t, api.Device{}, mounted(t, d))
	apart(t, formatted(t, 24), api.Found{})
	if !same(d, was) {
		t.Error("Mount shares a list with the device")
	}
}

// apart writes over all lists of an answer, one behind the other, and holds those that are still to come against what they were.
func apart(t *testing.T, d api.Device, f api.Found) {
	t.Helper()
	whole, wholeFound := twin(d), twinFound(f)
	over := func(l []string) {
		for i := range l {
			l[i] = "over"
		}
	}
	turn := func(l []bool) {
		for i := range l {
			l[i] = !l[i]
		}
	}
	over(d.Blocks)
	for i := range d.Pending {
		d.Pending[i] = api.Write{Block: -1, Bytes: "over"}
	}
	if !sameFound(f, wholeFound) {
		t.Fatal("a device and what is found share a list")
	}
	turn(f.Wood.Base)
	if !slices.Equal(f.Wood.Now, wholeFound.Wood.Now) {
		t.Fatal("Base and Now are one list")
	}
	turn(f.Wood.Now)
	over(f.Wood.Pages)
	if !slices.Equal(f.Ring, wholeFound.Ring) {
		t.Fatal("pages and records are one list")
	}
	over(f.Ring)
	// A list that is still as it was has no elements.
	if len(d.Blocks) > 0 && slices.Equal(d.Blocks, whole.Blocks) {
		t.Fatal("nothing was written over")
	}
}

// Lists with room behind their ends: nothing is written there.
func TestRoomBehindListsStays(t *testing.T) {
	d := formatted(t, 24)
	f := changed(t, mounted(t, d), puts(1, 1)...)
	d.Pending = append(make([]api.Write, 0, 10), api.Write{Block: 22, Bytes: "x"})
	d.Blocks = append(make([]string, 0, 60), d.Blocks...)
	f.Wood.Pages = append(make([]string, 0, 60), f.Wood.Pages...)
	f.Wood.Now = append(make([]bool, 0, 60), f.Wood.Now...)
	f.Wood.Base = append(make([]bool, 0, 60), f.Wood.Base...)
	for _, left := range []int{0, 1, 5, -1} {
		Commit(withPower(d, left), f)
		Write(withPower(d, left), 11, "y")
		Flush(withPower(d, left))
	}
	clean := func(l []string) bool { return !slices.ContainsFunc(l, func(s string) bool { return s != "" }) }
	if d.Pending[:2][1] != (api.Write{}) || !clean(d.Blocks[:60][24:]) || !clean(f.Wood.Pages[:60][24:]) {
		t.Error("something is written behind a list's end")
	}
	if slices.Contains(f.Wood.Now[:60][24:], true) || slices.Contains(f.Wood.Base[:60][24:], true) {
		t.Error("a place is set behind a list's end")
	}
}

// One list may stand for several that are handed in.
func TestOneListAsMany(t *testing.T) {
	d := formatted(t, 24)
	f := mounted(t, d)
	f.Wood.Base = f.Wood.Now
	f.Wood.Pages = d.Blocks
	want, found, e := Commit(withPower(d, -1), twinFound(f))
	commitIs(t, "one list", withPower(d, -1), f, want, found, e)
	if e != api.OK {
		t.Error(e)
	}
}

func TestNilIsEmpty(t *testing.T) {
	d, f := formatted(t, 24), mounted(t, formatted(t, 24))
	g := f
	d.Pending, f.Ring, g.Ring = []api.Write{}, []string{}, nil
	e := twin(d)
	e.Pending = nil
	p, h, _ := Commit(withPower(d, -1), f)
	q, i, _ := Commit(withPower(e, -1), g)
	if !samePower(p, q) || !sameFound(h, i) || h.Super.Gen != 2 {
		t.Error(showFound(h), showFound(i))
	}
	fitsIs(t, "no lists", api.Device{}, api.Found{}, false)
	fitsIs(t, "empty lists", api.Device{Blocks: []string{}, Pending: []api.Write{}}, api.Found{}, false)
	mountFails(t, "empty lists", api.Device{Blocks: []string{}, Pending: []api.Write{}}, api.ErrArg)
}

func TestCallsKeepNothing(t *testing.T) {
	d, _, f := both(t)
	g := changed(t, f, puts(1, 1)...)
	first, found, e := Commit(withPower(d, -1), g)
	for range 3 {
		Format(99)
		Mount(blank(24))
		Commit(withPower(d, 2), g)
		Flush(withPower(d, 0))
		Write(withPower(d, 1), 3, "x")
		commitIs(t, "again", withPower(d, -1), g, first, found, e)
		mountIs(t, "again", d, f, api.OK)
	}
}

// Whatever the arguments, calls end, none panics, and what is told is what the chapter says.
func TestNoCallPanics(t *testing.T) {
	t.Parallel()
	d, all := misfits(t)
	good := mounted(t, d)
	numbers := []int{0, 1, -1, 2, 9, 10, 11, 23, 24, 25, 2048, top - 1, top, top + 1, math.MinInt, math.MaxInt}
	seed := noise(7)
	pick := func() int { return numbers[seed.below(len(numbers))] }
	devices := []api.Device{d, {}, blank(1), blank(23), blank(24), blank(2048), blank(2049), withPending(d, api.Write{Block: 3})}
	for _, d := range wrongDevices(t) {
		devices = append(devices, d)
	}
	founds := []api.Found{good, {}}
	for _, f := range all {
		founds = append(founds, f)
	}
	for range 4000 {
		f := twinFound(founds[seed.below(len(founds))])
		for range seed.below(3) {
			for i, place := range []*int{&f.Super.Gen, &f.Super.Root, &f.Super.Map, &f.Super.Size, &f.Slot, &f.Wood.Root, &f.Wood.Gen} {
				if seed.below(7) == i {
					*place = pick()
				}
			}
		}
		switch seed.below(8) {
		case 0:
			f.Wood.Now = nil
		case 1:
			f.Wood.Base = f.Wood.Base[:len(f.Wood.Base)/2]
		case 2:
			f.Wood.Pages = nil
		}
		d := devices[seed.below(len(devices))]
		fitsIs(t, "strewn", d, f, fitsOf(d, f))
		commitAsWritten(t, "strewn", d, f)
		mountAsWritten(t, "strewn", d)
		Write(withPower(d, pick()), pick(), "x")
		Flush(withPower(d, pick()))
	}
}
