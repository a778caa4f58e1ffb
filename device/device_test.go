package device

import (
	"fmt"
	"math"
	"slices"
	"strings"
	"testing"

	"penelope/api"
)

// noise is bytes that look like no pattern, none of them zero, the same ones each time.
func noise(size int, seed uint32) string {
	b := make([]byte, size)
	for i := range b {
		seed = seed*1664525 + 1013904223
		b[i] = byte(seed>>24) | 1
	}
	return string(b)
}

func zeros(n int) string { return strings.Repeat("\x00", n) }

// at is bytes of a block that begin so far behind its beginning.
func at(place int, s string) string { return zeros(place) + s }

func trimmed(s string) string { return strings.TrimRight(s, "\x00") }

// full is all 4096 bytes of a block, whatever was left out or is too much.
func full(s string) string { return (s + zeros(4096))[:4096] }

// mixed is Mix word for word as the chapter tells it, byte by byte.
func mixed(old, now string, mask int) string {
	a, b, out := full(old), full(now), make([]byte, 4096)
	bits := uint8(mask)
	for i := range out {
		out[i] = a[i]
		if bits&(1<<(i/512)) != 0 {
			out[i] = b[i]
		}
	}
	return trimmed(string(out))
}

// texts are blocks' bytes, trimmed: at the edges of a sector and of a block, with and without zeros within.
func texts() []string {
	all := []string{"", "a", "old", "new", "\x00a", "\xff", at(4095, "z"), at(511, "y"), at(512, "y"), at(1024, "sector 2"), at(3584, "sector 7")}
	for _, size := range []int{1, 2, 480, 511, 512, 513, 1023, 1024, 1025, 3583, 3584, 3585, 4095, 4096} {
		all = append(all, noise(size, uint32(size)), at(size/2, noise(size-size/2, uint32(size)+1)))
	}
	return all
}

// loose are bytes that a block may not hold as they are: untrimmed, or too many.
func loose() []string {
	return []string{
		"\x00", "a\x00", "a\x00\x00\x00", zeros(511), zeros(512), zeros(4095), zeros(4096), zeros(4097), zeros(10000),
		noise(4095, 1) + "\x00", noise(512, 2) + zeros(3584),
		noise(4096, 3) + "\x00", noise(4096, 4) + "x", noise(4097, 5), noise(10000, 6), "a" + zeros(4096),
		noise(4000, 7) + zeros(96) + "beyond",
	}
}

func masks() []int {
	all := []int{-1, -2, -128, -129, -255, -256, -257, 256, 257, 511, 512, 1 << 32, 1<<32 | 5, math.MinInt, math.MinInt + 1, math.MaxInt, math.MaxInt - 1}
	for m := 0; m < 256; m++ {
		all = append(all, m)
	}
	return all
}

func blank(t *testing.T, n int) api.Device {
	t.Helper()
	d, e := New(n)
	if e != api.OK {
		t.Fatalf("New(%d): %d", n, e)
	}
	return d
}

func write(t *testing.T, d api.Device, block int, s string) api.Device {
	t.Helper()
	w, e := Write(d, block, s)
	if e != api.OK {
		t.Fatalf("Write(block %d, %d bytes): %d", block, len(s), e)
	}
	return w
}

func read(t *testing.T, d api.Device, block int) string {
	t.Helper()
	s, e := Read(d, block)
	if e != api.OK {
		t.Fatalf("Read(block %d): %d", block, e)
	}
	return s
}

func flush(t *testing.T, d api.Device) api.Device {
	t.Helper()
	f, e := Flush(d)
	if e != api.OK {
		t.Fatalf("Flush: %d", e)
	}
	return f
}

func crash(t *testing.T, d api.Device, masks ...int) api.Device {
	t.Helper()
	c, e := Crash(d, masks...)
	if e != api.OK {
		t.Fatalf("Crash(%v): %d", masks, e)
	}
	return c
}

func copied(d api.Device) api.Device {
	return api.Device{Blocks: slices.Clone(d.Blocks), Pending: slices.Clone(d.Pending)}
}

func same(a, b api.Device) bool {
	return slices.Equal(a.Blocks, b.Blocks) && slices.Equal(a.Pending, b.Pending)
}

func isZero(d api.Device) bool { return d.Blocks == nil && d.Pending == nil }

func pending(n, block int, s string) []api.Write {
	return slices.Repeat([]api.Write{{Block: block, Bytes: s}}, n)
}

// wrong are devices that may not be, each by one thing alone.
func wrong() map[string]api.Device {
	all := map[string]api.Device{
		"no blocks (nil)":              {},
		"no blocks":                    {Blocks: []string{}, Pending: []api.Write{}},
		"no blocks, a write":           {Pending: pending(1, 0, "a")},
		"a block too many":             {Blocks: make([]string, 2049)},
		"many blocks too many":         {Blocks: make([]string, 100000)},
		"a write too many":             {Blocks: make([]string, 2), Pending: pending(2049, 1, "a")},
		"a write too many, no bytes":   {Blocks: make([]string, 2048), Pending: pending(2049, 0, "")},
		"a write behind the blocks":    {Blocks: make([]string, 2), Pending: pending(1, 2, "a")},
		"a write ahead of the blocks":  {Blocks: make([]string, 2), Pending: pending(1, -1, "a")},
		"a write of no bytes to none":  {Blocks: make([]string, 2), Pending: pending(1, 2, "")},
		"a write far behind":           {Blocks: make([]string, 2), Pending: pending(1, math.MaxInt, "a")},
		"a write far ahead":            {Blocks: make([]string, 2), Pending: pending(1, math.MinInt, "a")},
		"the last of three writes":     {Blocks: make([]string, 2), Pending: append(pending(2, 1, "a"), api.Write{Block: 2, Bytes: "a"})},
		"the last of many writes":      {Blocks: make([]string, 2), Pending: append(pending(2047, 1, "a"), api.Write{Block: 1, Bytes: "a\x00"})},
		"the last block's bytes":       {Blocks: append(make([]string, 2047), "a\x00")},
		"too many blocks with a write": {Blocks: make([]string, 2049), Pending: pending(1, 0, "a")},
	}
	for i, s := range loose() {
		all[fmt.Sprint("block 0 of loose ", i)] = api.Device{Blocks: []string{s}}
		all[fmt.Sprint("block 1 of loose ", i)] = api.Device{Blocks: []string{"a", s, "b"}, Pending: pending(1, 1, "new")}
		all[fmt.Sprint("a write of loose ", i)] = api.Device{Blocks: []string{"a", "b"}, Pending: pending(1, 1, s)}
		all[fmt.Sprint("an early write of loose ", i)] = api.Device{Blocks: []string{"a", "b"}, Pending: append(pending(1, 0, s), pending(3, 0, "a")...)}
	}
	return all
}

// right are devices that may be, at the edges of all that is counted.
func right() map[string]api.Device {
	all := map[string]api.Device{
		"one block":                       {Blocks: []string{""}},
		"one block, an empty list":        {Blocks: []string{"a"}, Pending: []api.Write{}},
		"all blocks":                      {Blocks: make([]string, 2048)},
		"all blocks, a write to the last": {Blocks: make([]string, 2048), Pending: pending(1, 2047, "a")},
		"all writes to one block":         {Blocks: []string{"old"}, Pending: pending(2048, 0, "a")},
		"one write short of all":          {Blocks: make([]string, 2), Pending: pending(2047, 1, "a")},
		"writes of no bytes":              {Blocks: []string{"a", "b"}, Pending: pending(3, 1, "")},
	}
	for i, s := range texts() {
		all[fmt.Sprint("a block of text ", i)] = api.Device{Blocks: []string{s}}
		all[fmt.Sprint("a write of text ", i)] = api.Device{Blocks: []string{"a", s}, Pending: []api.Write{{Block: 0, Bytes: s}, {Block: 1, Bytes: "b"}, {Block: 1, Bytes: s}}}
	}
	return all
}

// P3.1

func TestNew(t *testing.T) {
	for _, n := range []int{1, 2, 10, 24, 40, 2047, 2048} {
		d, e := New(n)
		if e != api.OK || len(d.Blocks) != n || len(d.Pending) != 0 {
			t.Errorf("New(%d): %d blocks, %d writes, %d", n, len(d.Blocks), len(d.Pending), e)
		}
		for i, s := range d.Blocks {
			if s != "" {
				t.Errorf("New(%d): block %d has %d bytes", n, i, len(s))
			}
		}
		if !Right(d) {
			t.Errorf("New(%d) may not be", n)
		}
	}
	for _, n := range []int{0, -1, -2048, 2049, 4096, math.MinInt, math.MaxInt, 1 << 32} {
		if d, e := New(n); e != api.ErrArg || !isZero(d) {
			t.Errorf("New(%d): %d blocks, %d", n, len(d.Blocks), e)
		}
	}
}

func TestRight(t *testing.T) {
	for name, d := range right() {
		if !Right(d) {
			t.Errorf("%s: may not be", name)
		}
	}
	for name, d := range wrong() {
		if Right(d) {
			t.Errorf("%s: may be", name)
		}
	}
}

func TestADeviceThatMayNotBe(t *testing.T) {
	for name, d := range wrong() {
		before := copied(d)
		for _, block := range []int{0, 1, -1, 5000, math.MinInt, math.MaxInt} {
			if s, e := Read(d, block); s != "" || e != api.ErrArg {
				t.Errorf("%s: Read(%d): %d bytes, %d", name, block, len(s), e)
			}
			// ErrArg comes ahead of ErrBlock and ErrLong.
			for _, s := range []string{"", "a", noise(4097, 1)} {
				if w, e := Write(d, block, s); !isZero(w) || e != api.ErrArg {
					t.Errorf("%s: Write(%d, %d bytes): %d", name, block, len(s), e)
				}
			}
		}
		if f, e := Flush(d); !isZero(f) || e != api.ErrArg {
			t.Errorf("%s: Flush: %d", name, e)
		}
		for _, m := range [][]int{nil, {}, {0}, {255, 255, 255}, {-1}} {
			if c, e := Crash(d, m...); !isZero(c) || e != api.ErrArg {
				t.Errorf("%s: Crash(%v): %d", name, m, e)
			}
		}
		if !same(before, d) {
			t.Errorf("%s: was changed", name)
		}
	}
}

// P3.2

func TestRead(t *testing.T) {
	d := api.Device{
		Blocks:  []string{"zero", "one", "two", ""},
		Pending: []api.Write{{Block: 1, Bytes: "first"}, {Block: 3, Bytes: "three"}, {Block: 1, Bytes: "last"}, {Block: 2, Bytes: ""}},
	}
	for block, want := range []string{"zero", "last", "", "three"} {
		if s, e := Read(d, block); s != want || e != api.OK {
			t.Errorf("Read(%d) = %q, %d; want %q", block, s, e, want)
		}
	}
	for _, block := range []int{4, -1, 5, 2048, math.MinInt, math.MaxInt} {
		if s, e := Read(d, block); s != "" || e != api.ErrBlock {
			t.Errorf("Read(%d) = %q, %d", block, s, e)
		}
	}
	all := blank(t, 2048)
	if s, e := Read(all, 2047); s != "" || e != api.OK {
		t.Errorf("the last block: %q, %d", s, e)
	}
	if _, e := Read(all, 2048); e != api.ErrBlock {
		t.Errorf("behind the last block: %d", e)
	}
}

func TestWrite(t *testing.T) {
	for name, d := range right() {
		if len(d.Pending) == 2048 {
			continue
		}
		before := copied(d)
		for _, s := range append(texts(), zeros(1), zeros(4096), "a\x00", noise(4000, 8)+zeros(96), noise(4095, 9)+"\x00") {
			for _, block := range []int{0, len(d.Blocks) - 1} {
				w, e := Write(d, block, s)
				want := copied(before)
				want.Pending = append(want.Pending, api.Write{Block: block, Bytes: trimmed(s)})
				if e != api.OK || !same(w, want) || !Right(w) {
					t.Errorf("%s: Write(%d, %d bytes): %d", name, block, len(s), e)
				}
				if len(d.Blocks) > 1000 {
					break
				}
			}
		}
		if !same(before, d) {
			t.Errorf("%s: was changed", name)
		}
	}
}

func TestWriteThatMayNotBe(t *testing.T) {
	fullOf := api.Device{Blocks: []string{"a", "b"}, Pending: pending(2048, 1, "c")}
	short := api.Device{Blocks: []string{"a", "b"}, Pending: pending(2047, 1, "c")}
	d := api.Device{Blocks: []string{"a", "b"}}
	for _, c := range []struct {
		name  string
		d     api.Device
		block int
		s     string
		want  api.Errno
	}{
		{"4096 bytes", d, 1, noise(4096, 1), api.OK},
		{"4097 bytes", d, 1, noise(4097, 1), api.ErrLong},
		{"4096 zeros", d, 1, zeros(4096), api.OK},
		{"4097 zeros", d, 1, zeros(4097), api.ErrLong}, // they are counted as they are handed in
		{"4096 bytes and a zero", d, 1, noise(4096, 1) + "\x00", api.ErrLong},
		{"behind the last block", d, 2, "a", api.ErrBlock},
		{"ahead of the first block", d, -1, "a", api.ErrBlock},
		{"far behind", d, math.MaxInt, "a", api.ErrBlock},
		{"far ahead", d, math.MinInt, "a", api.ErrBlock},
		{"no block, too long", d, 2, noise(4097, 1), api.ErrBlock},
		{"the last write", short, 0, "a", api.OK},
		{"the last write, of no bytes", short, 0, "", api.OK},
		{"a write too many", fullOf, 0, "a", api.ErrLong},
		{"a write too many, of no bytes", fullOf, 0, "", api.ErrLong},
		{"a write too many, too long", fullOf, 0, noise(4097, 1), api.ErrLong},
		{"a write too many, to no block", fullOf, 2, "a", api.ErrBlock},
	} {
		w, e := Write(c.d, c.block, c.s)
		if e != c.want || e != api.OK && !isZero(w) {
			t.Errorf("%s: %d; want %d", c.name, e, c.want)
		}
	}
	if s := read(t, fullOf, 1); s != "c" {
		t.Errorf("a full device tells %q", s)
	}
}

// Two writes to one device do not come into each other's way, even if its list has room to spare.
func TestWriteKeepsToItself(t *testing.T) {
	roomy := make([]api.Write, 1, 16)
	roomy[0] = api.Write{Block: 0, Bytes: "first"}
	d := api.Device{Blocks: []string{"", ""}, Pending: roomy}
	a := write(t, d, 1, "a")
	b := write(t, d, 1, "b")
	if read(t, a, 1) != "a" || read(t, b, 1) != "b" || read(t, d, 1) != "" {
		t.Error("two writes share a place")
	}
	if roomy[:2][1] != (api.Write{}) {
		t.Error("a list that was handed in is written behind its end")
	}
	a.Blocks[0], a.Pending[0].Bytes = "other", "other"
	if d.Blocks[0] != "" || d.Pending[0].Bytes != "first" || b.Blocks[0] != "" || b.Pending[0].Bytes != "first" {
		t.Error("an answer shares a list with its argument")
	}
}

// P3.3

func TestFlush(t *testing.T) {
	d := api.Device{
		Blocks:  []string{"zero", "one", "two", ""},
		Pending: []api.Write{{Block: 1, Bytes: "first"}, {Block: 3, Bytes: at(4095, "x")}, {Block: 1, Bytes: "last"}, {Block: 2, Bytes: ""}},
	}
	if f, want := flush(t, d), []string{"zero", "last", "", at(4095, "x")}; !slices.Equal(f.Blocks, want) || len(f.Pending) != 0 {
		t.Errorf("Flush: %q, %d on their way", f.Blocks, len(f.Pending))
	}
	for name, d := range right() {
		before := copied(d)
		f := flush(t, d)
		if len(f.Pending) != 0 || len(f.Blocks) != len(d.Blocks) || !Right(f) {
			t.Errorf("%s: %d writes on their way", name, len(f.Pending))
		}
		for _, block := range []int{0, len(d.Blocks) / 2, len(d.Blocks) - 1} {
			if read(t, f, block) != read(t, d, block) {
				t.Errorf("%s: block %d is flushed to other bytes", name, block)
			}
		}
		if again := flush(t, f); !same(again, f) {
			t.Errorf("%s: a second flush changes it", name)
		}
		f.Blocks[0] = "other"
		if !same(before, d) {
			t.Errorf("%s: was changed", name)
		}
	}
}

func TestCrash(t *testing.T) {
	two := noise(512, 1) + noise(512, 2)
	other := noise(512, 3) + noise(512, 4)
	d := api.Device{
		Blocks:  []string{"old", two},
		Pending: []api.Write{{Block: 0, Bytes: "new"}, {Block: 1, Bytes: other}, {Block: 0, Bytes: "last"}},
	}
	half := two[:512] + other[512:]
	for _, c := range []struct {
		masks []int
		want  []string
	}{
		{nil, []string{"old", two}},
		{[]int{}, []string{"old", two}},
		{[]int{0}, []string{"old", two}},
		{[]int{1}, []string{"new", two}},
		{[]int{255}, []string{"new", two}},
		{[]int{254}, []string{"old", two}},
		{[]int{0, 1}, []string{"old", other[:512] + two[512:]}},
		{[]int{0, 2}, []string{"old", half}},
		{[]int{0, 3}, []string{"old", other}},
		{[]int{0, 252}, []string{"old", two}},
		{[]int{1, 2, 0}, []string{"new", half}},
		{[]int{1, 2, 1}, []string{"last", half}},
		{[]int{0, 0, 1}, []string{"last", two}},
		{[]int{255, 255, 255}, []string{"last", other}},
		{[]int{255, 255, 255, 0, 0, 0}, []string{"last", other}},
		{[]int{0, 0, 0, 255, 255}, []string{"old", two}},
		{[]int{-1, -1, -1}, []string{"last", other}},
		{[]int{-2, -2, -256}, []string{"old", half}},
		{[]int{256, 258, 512}, []string{"old", half}},
		{[]int{257, 511, 1 << 40}, []string{"new", other}},
		{[]int{math.MinInt, math.MaxInt, math.MinInt + 1}, []string{"last", other}},
	} {
		before, beforeMasks := copied(d), slices.Clone(c.masks)
		got := crash(t, d, c.masks...)
		if !slices.Equal(got.Blocks, c.want) || len(got.Pending) != 0 || !Right(got) {
			t.Errorf("Crash(%v): %d bytes, %d bytes, %d on their way", c.masks, len(got.Blocks[0]), len(got.Blocks[1]), len(got.Pending))
		}
		if !same(before, d) || !slices.Equal(beforeMasks, c.masks) {
			t.Errorf("Crash(%v) changed what it was handed", c.masks)
		}
	}
}

// Writes to one block are mixed one onto what the other left, not each onto what lay there first.
func TestCrashOfWritesToOneBlock(t *testing.T) {
	d := api.Device{Blocks: []string{noise(4096, 1)}}
	want := d.Blocks[0]
	var some []int
	torn := 0 // how often the block is as none of its writes
	for k := 0; k < 60; k++ {
		s := texts()[k%len(texts())]
		mask := k * 37 % 256
		d = write(t, d, 0, s)
		some = append(some, mask)
		want = mixed(want, s, mask)
		if got := crash(t, d, some...).Blocks[0]; got != want {
			t.Fatalf("behind %d writes: %d bytes; want %d", k+1, len(got), len(want))
		}
		if !slices.ContainsFunc(d.Pending, func(w api.Write) bool { return w.Bytes == want }) {
			torn++
		}
	}
	if torn < 20 {
		t.Errorf("only %d blocks were torn", torn)
	}
}

func TestCrashOfAllWrites(t *testing.T) {
	d := api.Device{Blocks: make([]string, 2048)}
	some := make([]int, 2048)
	want := make([]string, 2048)
	for k := range some {
		s := fmt.Sprint("block of ", k)
		d.Pending = append(d.Pending, api.Write{Block: k * 5 % 1000, Bytes: s})
		some[k] = k % 3
		if k%3 == 1 {
			want[k*5%1000] = s
		}
	}
	if got := crash(t, d, some...); !slices.Equal(got.Blocks, want) || len(got.Pending) != 0 {
		t.Error("a crash of all writes that may be on their way is wrong")
	}
	if got := crash(t, d); !slices.Equal(got.Blocks, d.Blocks) {
		t.Error("a crash without masks leaves something")
	}
	got := crash(t, d, slices.Repeat([]int{255}, 5000)...)
	if f := flush(t, d); !same(got, f) {
		t.Error("a crash of which all stays is no flush")
	}
}

// P3.4

func TestSector(t *testing.T) {
	for _, s := range append(texts(), loose()...) {
		for i := -3; i < 12; i++ {
			want := ""
			if i >= 0 && i < 8 {
				want = trimmed(full(s)[512*i : 512*i+512])
			}
			if got := Sector(s, i); got != want {
				t.Errorf("Sector(%d bytes, %d): %d bytes; want %d", len(s), i, len(got), len(want))
			}
		}
		for _, i := range []int{math.MinInt, math.MaxInt, -1 << 55, 1 << 55, 1 << 32, 256} {
			if got := Sector(s, i); got != "" {
				t.Errorf("Sector(%d bytes, %d): %d bytes", len(s), i, len(got))
			}
		}
	}
	long := noise(5000, 1)
	for _, c := range []struct {
		s    string
		i    int
		want string
	}{
		{"abc", 0, "abc"},
		{"abc", 1, ""},
		{"abc\x00", 0, "abc"},
		{at(512, "abc"), 1, "abc"},
		{at(510, "abcd"), 0, at(510, "ab")},
		{at(510, "abcd"), 1, "cd"},
		{at(513, "abc"), 1, "\x00abc"},
		{long, 7, long[3584:4096]},
		{long, 8, ""},
		{long, -1, ""},
	} {
		if got := Sector(c.s, c.i); got != c.want {
			t.Errorf("Sector(%d bytes, %d) = %q; want %q", len(c.s), c.i, got, c.want)
		}
	}
}

func TestMix(t *testing.T) {
	for _, c := range []struct {
		old, now string
		mask     int
		want     string
	}{
		{"old", "new", 1, "new"},
		{"old", "new", 2, "old"},
		{"old", "new", 0, "old"},
		{"old", "new", 255, "new"},
		{"old", "new", 254, "old"},
		{"old", "new", -1, "new"},
		{"old", "new", -2, "old"},
		{"old", "new", 256, "old"},
		{"old", "new", 257, "new"},
		{"older", "new", 1, "new"}, // a sector goes as a whole, with the zeros that are not told
		{"old", "newer", 1, "newer"},
		{"old", "", 1, ""},
		{"", "new", 1, "new"},
		{"", "", 255, ""},
		{"old", at(512, "new"), 2, "old" + zeros(509) + "new"},
		{"old", at(512, "new"), 1, ""},
		{"old", at(512, "new"), 3, at(512, "new")},
		{at(512, "old"), "new", 1, "new" + zeros(509) + "old"},
		{at(3584, "old"), "new", 128, ""},
		{"old", at(4095, "n"), 128, "old" + zeros(4092) + "n"},
		{"old\x00", "new\x00\x00", 0, "old"},
		{"old\x00", "new\x00\x00", 1, "new"},
	} {
		if got := Mix(c.old, c.now, c.mask); got != c.want {
			t.Errorf("Mix(%d bytes, %d bytes, %d): %d bytes; want %d", len(c.old), len(c.now), c.mask, len(got), len(c.want))
		}
	}
}

func TestMixByEveryMask(t *testing.T) {
	pairs := [][2]string{
		{noise(4096, 1), noise(4096, 2)},
		{noise(700, 3), noise(2600, 4)},
		{noise(2600, 5), noise(700, 6)},
		{"", noise(4096, 7)},
		{noise(4096, 8), ""},
		{noise(5000, 9), noise(9000, 10)},
		{noise(1000, 11) + zeros(4000), "a" + zeros(4095) + "beyond"},
	}
	for _, p := range pairs {
		for _, mask := range masks() {
			if got := Mix(p[0], p[1], mask); got != mixed(p[0], p[1], mask) {
				t.Errorf("Mix(%d bytes, %d bytes, %d): %d bytes", len(p[0]), len(p[1]), mask, len(got))
			}
		}
	}
}

func TestMixOfAnyBytes(t *testing.T) {
	all := append(texts(), loose()...)
	for _, old := range all {
		for _, now := range all {
			for _, mask := range []int{0, 1, 0x5a, 0x80, 255, -3} {
				got := Mix(old, now, mask)
				if got != mixed(old, now, mask) {
					t.Errorf("Mix(%d bytes, %d bytes, %d): %d bytes", len(old), len(now), mask, len(got))
				}
				for i := 0; i < 8; i++ {
					from := old
					if mask>>i&1 == 1 {
						from = now
					}
					if Sector(got, i) != Sector(from, i) {
						t.Errorf("Mix(%d bytes, %d bytes, %d): sector %d is of neither", len(old), len(now), mask, i)
					}
				}
			}
		}
	}
}

// P3.5

func TestWhatIsWrittenIsRead(t *testing.T) {
	d := blank(t, 7)
	told := make([]string, 7) // what each block must tell
	seed := uint32(1)
	for step := 0; step < 500; step++ {
		seed = seed*1664525 + 1013904223
		block := int(seed>>16) % 7
		s := texts()[int(seed>>20)%len(texts())]
		switch seed >> 28 {
		case 0:
			d = flush(t, d)
		default:
			d = write(t, d, block, s)
			told[block] = s
		}
		for i, want := range told {
			if got := read(t, d, i); got != want {
				t.Fatalf("step %d: block %d tells %d bytes; want %d", step, i, len(got), len(want))
			}
		}
	}
}

func TestBehindAFlushNothingIsLost(t *testing.T) {
	for name, d := range right() {
		f := flush(t, d)
		for _, m := range [][]int{nil, {0}, {255}, {-1, 3, 0}, slices.Repeat([]int{0}, 3000)} {
			if c := crash(t, f, m...); !same(c, f) {
				t.Errorf("%s: a crash behind a flush changes it", name)
			}
		}
		// A write behind the flush may go, but only its own block is touched.
		if len(f.Blocks) < 2 {
			continue
		}
		w := write(t, f, 1, "behind")
		for _, mask := range []int{0, 1, 0xaa, 255} {
			c := crash(t, w, mask)
			if read(t, c, 0) != read(t, d, 0) {
				t.Errorf("%s: a crash reaches another block", name)
			}
			if got, want := read(t, c, 1), mixed(read(t, d, 1), "behind", mask); got != want {
				t.Errorf("%s: a block is %d bytes; want %d", name, len(got), len(want))
			}
		}
	}
}

func TestWithinOneSectorACrashLeavesWholeWrites(t *testing.T) {
	for sector := 0; sector < 8; sector++ {
		within := func(s string) string { return trimmed(at(512*sector, s)) }
		first := []string{within("was there"), within(noise(512, 1)), ""}
		all := []string{within("first"), within(noise(512, 2)), "", within("x"), within(at(511, "y"))}
		for seed := 0; seed < 300; seed++ {
			d := api.Device{Blocks: slices.Clone(first)}
			may := [][]string{{first[0]}, {first[1]}, {first[2]}}
			var some []int
			n := seed
			for k := 0; k < 6; k++ {
				n = (n*1103515245 + 12345) & math.MaxInt32
				block, s := n>>8%3, all[n>>12%len(all)]
				d = write(t, d, block, s)
				may[block] = append(may[block], s)
				some = append(some, n>>16&255)
			}
			c := crash(t, d, some[:seed%7]...)
			for i, s := range c.Blocks {
				if !slices.Contains(may[i], s) {
					t.Fatalf("sector %d: block %d is as no write, nor as it was: %d bytes", sector, i, len(s))
				}
			}
		}
	}
}

// The chapter's examples.
func TestExamples(t *testing.T) {
	d := blank(t, 2)
	if s, e := Read(d, 1); s != "" || e != api.OK {
		t.Errorf("Read(New(2), 1) = %q, %d", s, e)
	}
	if s, e := Read(d, 2); s != "" || e != api.ErrBlock {
		t.Errorf("Read(New(2), 2) = %q, %d", s, e)
	}
	if a, b := Mix("old", "new", 1), Mix("old", "new", 2); a != "new" || b != "old" {
		t.Errorf("Mix: %q, %q", a, b)
	}
	if c := crash(t, write(t, blank(t, 1), 0, "a"), 0); c.Blocks[0] != "" {
		t.Errorf("block 0 is %q", c.Blocks[0])
	}
}

// P1, R1, R2: every call ends, answers the same each time, and beside an error all else is zero.
func TestNoCallPanics(t *testing.T) {
	devices := right()
	for name, d := range wrong() {
		devices[name] = d
	}
	numbers := []int{math.MinInt, -1, 0, 1, 7, 8, 255, 2047, 2048, math.MaxInt}
	for name, d := range devices {
		before := copied(d)
		for _, n := range numbers {
			for _, s := range []string{"", "a\x00", noise(4097, 1)} {
				w, e := Write(d, n, s)
				again, f := Write(d, n, s)
				if !same(w, again) || e != f || e != api.OK && !isZero(w) {
					t.Errorf("%s: Write(%d, %d bytes): %d, %d", name, n, len(s), e, f)
				}
			}
			if s, e := Read(d, n); e != api.OK && s != "" {
				t.Errorf("%s: Read(%d): %d bytes, %d", name, n, len(s), e)
			}
			if c, e := Crash(d, n, n); e != api.OK && !isZero(c) {
				t.Errorf("%s: Crash(%d, %d): %d", name, n, n, e)
			}
		}
		if !same(before, d) {
			t.Errorf("%s: was changed", name)
		}
	}
	for _, n := range numbers {
		if d, e := New(n); e != api.OK && !isZero(d) {
			t.Errorf("New(%d): %d", n, e)
		}
		for _, s := range append(loose(), noise(1<<20, 2)) {
			if Sector(s, n) != Sector(s, n) || Mix(s, "new", n) != Mix(s, "new", n) || Mix("old", s, n) != mixed("old", s, n) {
				t.Errorf("%d bytes, %d: answered twice unlike", len(s), n)
			}
		}
	}
}
