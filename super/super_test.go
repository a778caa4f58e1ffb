package super

import (
	"encoding/binary"
	"fmt"
	"hash/crc32"
	"math"
	"slices"
	"strings"
	"testing"

	"penelope/api"
	"penelope/device"
	"penelope/page"
)

const top = 1 << 40 // the highest Gen

func zeros(n int) string { return strings.Repeat("\x00", n) }

func trimmed(s string) string { return strings.TrimRight(s, "\x00") }

// noise is bytes that look like no pattern, none of them zero, the same ones each time.
func noise(size int, seed uint32) string {
	b := make([]byte, size)
	for i := range b {
		seed = seed*1664525 + 1013904223
		b[i] = byte(seed>>24) | 1
	}
	return string(b)
}

// sealed puts a text's sum behind it, the lowest byte first.
func sealed(s string) string {
	sum := crc32.Checksum([]byte(s), crc32.MakeTable(crc32.Castagnoli))
	return string(binary.LittleEndian.AppendUint32([]byte(s), sum))
}

// ahead is all bytes of a page ahead of its sum, also of one that may not be: size is what the two bytes of the length tell.
func ahead(kind byte, gen uint64, size int, body string) string {
	b := binary.BigEndian.AppendUint64([]byte{kind}, gen<<16)[:7]
	return string(binary.BigEndian.AppendUint16(b, uint16(size))) + body
}

// laid is all bytes of a page with its sum, untrimmed, also of one that may not be.
func laid(kind byte, gen uint64, body string) string {
	return sealed(ahead(kind, gen, len(body), body))
}

// three are numbers in two bytes each, the highest first.
func three(root, bitmap, size int) string {
	var b []byte
	for _, n := range []int{root, bitmap, size} {
		b = append(b, byte(n>>8), byte(n))
	}
	return string(b)
}

// bytesOf is a superblock's bytes, untrimmed, also of one that may not be, as far as its numbers have room.
func bytesOf(s api.Super) string {
	return laid(4, uint64(s.Gen), three(s.Root, s.Map, s.Size))
}

// mayBe is the chapter's words.
func mayBe(s api.Super) bool {
	block := func(n int) bool { return 10 <= n && n <= s.Size-1 }
	switch {
	case s.Gen < 1, s.Gen > top:
		return false
	case s.Size < 24, s.Size > 2048:
		return false
	case s.Root != 0 && !block(s.Root):
		return false
	}
	return block(s.Map) && s.Map != s.Root
}

// got is Get word for word as the chapter tells it.
func got(s string) (api.Super, api.Errno) {
	p, e := page.Want(s, 4)
	if e != api.OK {
		return api.Super{}, e
	}
	if len(p.Body) != 6 {
		return api.Super{}, api.ErrForm
	}
	number := func(at int) int { return int(p.Body[at])*256 + int(p.Body[at+1]) }
	told := api.Super{Gen: p.Gen, Root: number(0), Map: number(2), Size: number(4)}
	if !mayBe(told) {
		return api.Super{}, api.ErrForm
	}
	return told, api.OK
}

// chosen is Choose word for word as the chapter tells it.
func chosen(texts []string) (api.Super, int, api.Errno) {
	var best api.Super
	at, some := 0, false
	for i, s := range texts {
		told, e := got(s)
		if e == api.OK && (!some || told.Gen > best.Gen) {
			best, at, some = told, i, true
		}
	}
	if !some {
		return api.Super{}, 0, api.ErrCorrupt
	}
	return best, at, api.OK
}

// supers are superblocks that may be.
func supers() []api.Super {
	var all []api.Super
	for _, gen := range []int{1, 2, 255, 256, 1<<32 - 1, 1 << 32, top - 1, top} {
		for _, size := range []int{24, 25, 40, 255, 256, 257, 2047, 2048} {
			for _, root := range []int{0, 10, 11, size - 2, size - 1} {
				for _, bitmap := range []int{10, 11, 12, size - 2, size - 1} {
					if bitmap != root {
						all = append(all, api.Super{Gen: gen, Root: root, Map: bitmap, Size: size})
					}
				}
			}
		}
	}
	return all
}

// wrongSupers are superblocks that may not be, each by one thing alone.
func wrongSupers() []api.Super {
	var all []api.Super
	for _, gen := range []int{0, -1, -top, top + 1, top + 2, 2 * top, 1<<48 - 1, 1 << 48, 1<<48 + 7, math.MinInt, math.MaxInt} {
		all = append(all, api.Super{Gen: gen, Root: 11, Map: 10, Size: 24}, api.Super{Gen: gen, Map: 10, Size: 2048})
	}
	for _, size := range []int{23, 22, 12, -1, -24, 2049, 2050, 4096, 65535, 65536, 65536 + 24, math.MinInt, math.MaxInt} {
		all = append(all, api.Super{Gen: 7, Root: 11, Map: 10, Size: size}, api.Super{Gen: 7, Map: 10, Size: size})
	}
	for _, size := range []int{24, 100, 2048} {
		for _, block := range []int{-1, -10, 1, 2, 8, 9, size, size + 1, 2048, 65535, 65536, 65536 + 11, math.MinInt, math.MaxInt} {
			all = append(all, api.Super{Gen: 7, Root: block, Map: 10, Size: size}, api.Super{Gen: 7, Root: block, Map: size - 1, Size: size})
			all = append(all, api.Super{Gen: 7, Map: block, Size: size}, api.Super{Gen: 7, Root: 12, Map: block, Size: size})
		}
		all = append(all, api.Super{Gen: 7, Size: size}, api.Super{Gen: 7, Root: 10, Size: size})
		for _, block := range []int{10, 11, size - 1} {
			all = append(all, api.Super{Gen: 7, Root: block, Map: block, Size: size})
		}
	}
	return append(all, api.Super{})
}

// fits tells whether the numbers have room in a page's bytes.
func fits(s api.Super) bool {
	if s.Gen < 0 || s.Gen >= 1<<48 {
		return false
	}
	for _, n := range []int{s.Root, s.Map, s.Size} {
		if n < 0 || n > 65535 {
			return false
		}
	}
	return true
}

// zeroEnded is a superblock whose sum ends with a zero byte, so that its bytes are fewer.
func zeroEnded() api.Super {
	for gen := 1; ; gen++ {
		s := api.Super{Gen: gen, Root: 11, Map: 10, Size: 24}
		if b := bytesOf(s); trimmed(b) != b {
			return s
		}
	}
}

// none are bytes of which Get tells an error, with that error.
func none() map[string]api.Errno {
	good := laid(4, 7, three(11, 10, 24))
	return map[string]api.Errno{
		"":                               api.ErrSum,
		zeros(1):                         api.ErrSum,
		zeros(19):                        api.ErrSum,
		zeros(512):                       api.ErrSum,
		zeros(4096):                      api.ErrSum,
		zeros(4097):                      api.ErrArg,
		noise(4097, 1):                   api.ErrArg,
		noise(19, 2):                     api.ErrForm,
		good + zeros(4097-len(good)):     api.ErrArg,
		ahead(4, 7, 4001, "x"):           api.ErrForm,
		good[:len(good)-1] + "x":         api.ErrSum,
		good[:len(good)-1]:               api.ErrSum,
		good[:9]:                         api.ErrSum,
		laid(0, 7, three(11, 10, 24)):    api.ErrKind,
		laid(1, 7, three(11, 10, 24)):    api.ErrKind,
		laid(5, 7, three(11, 10, 24)):    api.ErrKind,
		laid(6, 7, three(11, 10, 24)):    api.ErrKind,
		laid(4, 7, ""):                   api.ErrForm,
		laid(4, 7, noise(5, 1)):          api.ErrForm,
		laid(4, 7, noise(7, 1)):          api.ErrForm,
		good + "x":                       api.ErrForm,
		laid(4, top+1, three(0, 10, 24)): api.ErrForm,
		laid(4, 0, three(0, 10, 24)):     api.ErrForm,
		laid(4, 9, three(10, 10, 24)):    api.ErrForm,
		laid(4, top, three(0, 0, 24)):    api.ErrForm,
		laid(4, top, three(0, 10, 23)):   api.ErrForm,
	}
}

func put(t *testing.T, s api.Super) string {
	t.Helper()
	b, e := Put(s)
	if e != api.OK {
		t.Fatalf("Put(%v): %d", s, e)
	}
	return b
}

func getIs(t *testing.T, what, s string, want api.Super, wantE api.Errno) {
	t.Helper()
	if told, e := Get(s); told != want || e != wantE {
		t.Errorf("%s: Get: %v %d, want %v %d", what, told, e, want, wantE)
	}
}

// chooseIs also holds the texts against what they were (R4).
func chooseIs(t *testing.T, what string, texts []string, want api.Super, wantAt int, wantE api.Errno) {
	t.Helper()
	room := texts[:cap(texts)]
	was := slices.Clone(room)
	if s, at, e := Choose(texts...); s != want || at != wantAt || e != wantE {
		t.Errorf("%s: Choose: %v at %d, %d; want %v at %d, %d", what, s, at, e, want, wantAt, wantE)
	}
	if !slices.Equal(room, was) {
		t.Errorf("%s: Choose changed what it was handed", what)
	}
}

func turnBit(s string, bit int) string {
	b := []byte(s)
	b[bit/8] ^= 1 << (bit % 8)
	return string(b)
}

// orders are all rows of those texts.
func orders(l []string) [][]string {
	if len(l) == 0 {
		return [][]string{nil}
	}
	var rows [][]string
	for i := range l {
		for _, row := range orders(slices.Concat(l[:i], l[i+1:])) {
			rows = append(rows, append([]string{l[i]}, row...))
		}
	}
	return rows
}

// The chapter's examples.
func TestExamples(t *testing.T) {
	chooseIs(t, "empty, empty", []string{"", ""}, api.Super{}, 0, api.ErrCorrupt)
	third, fourth := api.Super{Gen: 3, Map: 10, Size: 24}, api.Super{Gen: 4, Root: 11, Map: 10, Size: 24}
	chooseIs(t, "Gen 3, Gen 4", []string{put(t, third), put(t, fourth)}, fourth, 1, api.OK)
}

// P12.1: each edge that the chapter names, written out.
func TestRightWrittenOut(t *testing.T) {
	for _, c := range []struct {
		gen, root, bitmap, size int
		is                      bool
	}{
		{1, 0, 10, 24, true}, {0, 0, 10, 24, false}, {-1, 0, 10, 24, false},
		{1 << 40, 0, 10, 24, true}, {1<<40 + 1, 0, 10, 24, false},
		{1, 0, 10, 23, false}, {1, 0, 10, 2048, true}, {1, 0, 10, 2049, false},
		{1, -1, 10, 24, false}, {1, 1, 10, 24, false}, {1, 9, 10, 24, false}, {1, 10, 11, 24, true}, {1, 23, 10, 24, true}, {1, 24, 10, 24, false},
		{1, 0, -1, 24, false}, {1, 0, 0, 24, false}, {1, 11, 0, 24, false}, {1, 0, 9, 24, false}, {1, 0, 23, 24, true}, {1, 0, 24, 24, false},
		{1, 10, 10, 24, false}, {1, 23, 23, 24, false}, {1, 2047, 10, 2048, true}, {1, 2048, 10, 2048, false}, {1, 0, 2047, 2048, true}, {1, 0, 2048, 2048, false},
	} {
		s := api.Super{Gen: c.gen, Root: c.root, Map: c.bitmap, Size: c.size}
		if Right(s) != c.is {
			t.Errorf("Right(%v): %t", s, !c.is)
		}
		if mayBe(s) != c.is {
			t.Fatalf("%v: the test's own model tells %t", s, !c.is)
		}
		if _, e := Put(s); (e == api.OK) != c.is {
			t.Errorf("Put(%v): %d", s, e)
		}
		if fits(s) {
			if _, e := Get(bytesOf(s)); (e == api.OK) != c.is {
				t.Errorf("Get(%v): %d", s, e)
			}
		}
	}
}

// P12.1: which superblocks may be.
func TestRight(t *testing.T) {
	for _, s := range supers() {
		if !mayBe(s) {
			t.Fatalf("the test's own superblock may not be: %v", s)
		}
		if !Right(s) {
			t.Errorf("Right(%v): false", s)
		}
	}
	for _, s := range wrongSupers() {
		if mayBe(s) {
			t.Fatalf("the test's own superblock may be: %v", s)
		}
		if Right(s) {
			t.Errorf("Right(%v): true", s)
		}
	}
}

// P12.1, P1: the edges of each number held against all the others', also by Put and Get.
func TestAtEdges(t *testing.T) {
	for _, gen := range []int{math.MinInt, -1, 0, 1, top, top + 1, math.MaxInt} {
		for _, size := range []int{math.MinInt, -1, 0, 10, 11, 23, 24, 25, 2047, 2048, 2049, 65560, math.MaxInt} {
			blocks := []int{math.MinInt, -1, 0, 1, 9, 10, 11, 22, 23, 24, 25, size - 1, size, 2047, 2048, 65546, math.MaxInt}
			for _, root := range blocks {
				for _, bitmap := range blocks {
					s := api.Super{Gen: gen, Root: root, Map: bitmap, Size: size}
					want, wantE := "", api.ErrArg
					if mayBe(s) {
						want, wantE = trimmed(bytesOf(s)), api.OK
					}
					if Right(s) != (wantE == api.OK) {
						t.Fatalf("Right(%v): %t", s, Right(s))
					}
					if b, e := Put(s); b != want || e != wantE {
						t.Fatalf("Put(%v): %q %d, want %q %d", s, b, e, want, wantE)
					}
					if wantE == api.OK {
						getIs(t, fmt.Sprint(s), want, s, api.OK)
					}
				}
			}
		}
	}
}

// P12.1: each Size that may be, with its last block, and with the one behind it.
func TestEverySize(t *testing.T) {
	for size := range 2100 {
		is := size >= 24 && size <= 2048
		if Right(api.Super{Gen: 5, Root: size - 1, Map: 10, Size: size}) != is || Right(api.Super{Gen: 5, Root: 10, Map: size - 1, Size: size}) != is {
			t.Errorf("Size %d: its last block: %t", size, !is)
		}
		if Right(api.Super{Gen: 5, Root: size, Map: 10, Size: size}) || Right(api.Super{Gen: 5, Map: size, Size: size}) {
			t.Errorf("Size %d: a block behind its last one", size)
		}
	}
}

// P12.1: a superblock's bytes: a page of PSuper and its Gen with Root, Map and Size, in that order.
func TestPut(t *testing.T) {
	for _, s := range supers() {
		if b, e := Put(s); b != trimmed(bytesOf(s)) || e != api.OK {
			t.Errorf("Put(%v): %q %d, want %q", s, b, e, trimmed(bytesOf(s)))
		}
		p, e := page.Get(put(t, s))
		if want := (api.Page{Kind: api.PSuper, Gen: s.Gen, Body: three(s.Root, s.Map, s.Size)}); p != want || e != api.OK {
			t.Errorf("Put(%v) tells the page {%d %d %q}, %d", s, p.Kind, p.Gen, p.Body, e)
		}
	}
}

// P12.1: one superblock's bytes, written out.
func TestPutWrittenOut(t *testing.T) {
	text := "\x04" + "\x00\x01\x02\x03\x04\x05" + "\x00\x06" + "\x01\x02" + "\x03\x04" + "\x07\xd1"
	s := api.Super{Gen: 0x0102030405, Root: 0x0102, Map: 0x0304, Size: 2001}
	if b := put(t, s); b != sealed(text) || len(b) != 19 {
		t.Errorf("%q", b)
	}
	getIs(t, "written out", sealed(text), s, api.OK)
}

// P12.1, R2: of a superblock that may not be nothing is told but ErrArg.
func TestPutWrong(t *testing.T) {
	for _, s := range wrongSupers() {
		if b, e := Put(s); b != "" || e != api.ErrArg {
			t.Errorf("Put(%v): %q %d", s, b, e)
		}
	}
}

// P12.3: what is put is got again, whatever zeros stand behind it as far as the block's end, and lies within one sector.
func TestPutIsGot(t *testing.T) {
	for _, s := range append(supers(), zeroEnded()) {
		b := put(t, s)
		if len(b) > 512 || trimmed(b) != b {
			t.Errorf("Put(%v): %d bytes, or zeros at their end", s, len(b))
		}
		for _, size := range []int{len(b), len(b) + 1, 19, 20, 511, 512, 513, 4095, 4096} {
			getIs(t, fmt.Sprint(s, " in ", size), b+zeros(size-len(b)), s, api.OK)
		}
		getIs(t, fmt.Sprint(s, " in 4097"), b+zeros(4097-len(b)), api.Super{}, api.ErrArg)
	}
}

// P12.1, R6: bytes that stand without the zero at their sum's end.
func TestBytesThatEndEarly(t *testing.T) {
	s := zeroEnded()
	b := put(t, s)
	if len(b) >= 19 {
		t.Errorf("Put(%v): %d bytes", s, len(b))
	}
	getIs(t, "trimmed", b, s, api.OK)
	getIs(t, "untrimmed", bytesOf(s), s, api.OK)
	chooseIs(t, "trimmed", []string{b, "", bytesOf(s)}, s, 0, api.OK)
}

// P12.1: bytes that are no superblock, each with its error.
func TestGetOfNone(t *testing.T) {
	for s, e := range none() {
		if _, modelE := got(s); modelE != e {
			t.Fatalf("%d bytes: the test's own model tells %d, not %d", len(s), modelE, e)
		}
		getIs(t, fmt.Sprintf("%.40q", s), s, api.Super{}, e)
	}
}

// P12.1: page.Want's errors come in its order, and ahead of a Body that tells no superblock.
func TestGetOrder(t *testing.T) {
	right := three(11, 10, 24)
	for _, body := range []string{"", "abcde", right, "abcdefg", three(10, 10, 24), three(0, 0, 0), noise(4000, 1)} {
		for kind := range 8 {
			s := laid(byte(kind), 7, body)
			what := fmt.Sprintf("Kind %d, %d bytes of Body", kind, len(body))
			getIs(t, what+", too many", s+zeros(4097-len(s)), api.Super{}, api.ErrArg)
			getIs(t, what+", a wrong length", ahead(byte(kind), 7, 4001, body), api.Super{}, api.ErrForm)
			getIs(t, what+", a wrong sum", turnBit(s, 8*len(s)-3), api.Super{}, api.ErrSum)
			getIs(t, what+", a wrong sum and more", turnBit(s, 8*len(s)-3)+"x", api.Super{}, api.ErrSum)
			outside := kind < 1 || kind > 5
			late := api.ErrForm // what is behind the sum, and Gen, come ahead of a kind that is not wanted
			if outside {
				late = api.ErrKind
			}
			getIs(t, what+", more", s+"x", api.Super{}, late)
			getIs(t, what+", a wrong Gen", laid(byte(kind), top+1, body), api.Super{}, late)
			switch {
			case kind != 4:
				getIs(t, what, s, api.Super{}, api.ErrKind)
			case body != right:
				getIs(t, what, s, api.Super{}, api.ErrForm)
			default:
				getIs(t, what, s, api.Super{Gen: 7, Root: 11, Map: 10, Size: 24}, api.OK)
			}
		}
	}
}

// P12.1: a Body has six bytes, no more and no fewer, also if the first ones would tell a superblock.
func TestGetBodySize(t *testing.T) {
	right := three(11, 10, 24)
	for size := range 40 {
		body := (right + zeros(40))[:size]
		want, wantE := api.Super{}, api.ErrForm
		if size == 6 {
			want, wantE = api.Super{Gen: 9, Root: 11, Map: 10, Size: 24}, api.OK
		}
		getIs(t, fmt.Sprint(size, " bytes"), laid(4, 9, body), want, wantE)
	}
	for _, body := range []string{"\x00\x0b\x00\x0a\x18", right + "x", "x" + right, "\x00" + right, right + right, right + zeros(3994)} {
		getIs(t, fmt.Sprintf("%.20q", body), laid(4, 9, body), api.Super{}, api.ErrForm)
	}
	// Two bytes that a shorter Body would need from beyond its end.
	getIs(t, "without the highest byte of the Root", laid(4, 9, right[1:]), api.Super{}, api.ErrForm)
	getIs(t, "without the Size's bytes", laid(4, 9, right[:4]), api.Super{}, api.ErrForm)
}

// P12.1: numbers that tell a superblock that may not be are ErrForm.
func TestGetWrong(t *testing.T) {
	some := 0
	for _, s := range wrongSupers() {
		if fits(s) {
			some++
			getIs(t, fmt.Sprint(s), bytesOf(s), api.Super{}, api.ErrForm)
		}
	}
	if some < 40 {
		t.Errorf("only %d of them have bytes", some)
	}
}

// P12.1: all numbers at the edges, read.
func TestGetAsWritten(t *testing.T) {
	numbers := []int{0, 1, 9, 10, 11, 22, 23, 24, 25, 255, 256, 2047, 2048, 2049, 4096, 32768, 65535}
	for _, gen := range []uint64{0, 1, 7, top, top + 1} {
		for _, root := range numbers {
			for _, bitmap := range numbers {
				for _, size := range numbers {
					s := laid(4, gen, three(root, bitmap, size))
					want, wantE := got(s)
					getIs(t, fmt.Sprint(gen, root, bitmap, size), s, want, wantE)
				}
			}
		}
	}
}

// P12.1: each bit of a superblock turned leaves none, and neither do beginnings of its bytes.
func TestGetTorn(t *testing.T) {
	for _, s := range []api.Super{{Gen: 1, Map: 10, Size: 24}, {Gen: top, Root: 2047, Map: 2046, Size: 2048}, {Gen: 77, Root: 11, Map: 10, Size: 300}, zeroEnded()} {
		all := bytesOf(s)
		for bit := range 8 * len(all) {
			turned := turnBit(all, bit)
			_, wantE := got(turned)
			if wantE == api.OK {
				t.Fatalf("%v: bit %d: the test's own model tells OK", s, bit)
			}
			getIs(t, fmt.Sprint(s, ", bit ", bit), turned, api.Super{}, wantE)
		}
		for n := range len(trimmed(all)) {
			getIs(t, fmt.Sprint(s, ", ", n, " bytes"), all[:n], api.Super{}, api.ErrSum)
		}
	}
}

// P12.3: a superblock that is written over another one is that one or the other, whatever sectors stay; over a page of several sectors it is none, unless all of it is gone.
func TestSectors(t *testing.T) {
	old, now := api.Super{Gen: 3, Root: 11, Map: 10, Size: 24}, api.Super{Gen: 5, Root: 12, Map: 13, Size: 24}
	long := laid(1, 4, noise(4000, 1))
	for mask := range 256 {
		want := old
		if mask&1 == 1 {
			want = now
		}
		getIs(t, fmt.Sprint("over another one, mask ", mask), device.Mix(put(t, old), put(t, now), mask), want, api.OK)
		over := device.Mix(long, put(t, now), mask)
		want, wantE := api.Super{}, api.ErrSum
		switch {
		case mask == 0:
			wantE = api.ErrKind
		case mask == 255:
			want, wantE = now, api.OK
		case mask&1 == 1:
			wantE = api.ErrForm
		}
		getIs(t, fmt.Sprint("over a long page, mask ", mask), over, want, wantE)
	}
}

// P12.2: nothing, and bytes that are no superblock alone: the superblock and the place are 0.
func TestChooseOfNone(t *testing.T) {
	chooseIs(t, "nothing", nil, api.Super{}, 0, api.ErrCorrupt)
	chooseIs(t, "an empty list", []string{}, api.Super{}, 0, api.ErrCorrupt)
	if s, at, e := Choose(); s != (api.Super{}) || at != 0 || e != api.ErrCorrupt {
		t.Errorf("Choose(): %v %d %d", s, at, e)
	}
	for n := range 6 {
		chooseIs(t, fmt.Sprint(n, " empty ones"), make([]string, n), api.Super{}, 0, api.ErrCorrupt)
	}
	var all []string
	for s := range none() {
		chooseIs(t, fmt.Sprintf("%.40q", s), []string{s}, api.Super{}, 0, api.ErrCorrupt)
		chooseIs(t, fmt.Sprintf("%.40q behind an empty one", s), []string{"", s}, api.Super{}, 0, api.ErrCorrupt)
		all = append(all, s)
	}
	chooseIs(t, "all of them", all, api.Super{}, 0, api.ErrCorrupt)
}

// P12.2: one superblock, at each place among bytes that are none: the place counts these, too.
func TestChooseOne(t *testing.T) {
	for _, s := range supers() {
		chooseIs(t, "one", []string{put(t, s)}, s, 0, api.OK)
	}
	s := api.Super{Gen: 1, Root: 11, Map: 10, Size: 24}
	for wrong := range none() {
		for n := range 5 {
			for at := range n + 1 {
				texts := slices.Insert(slices.Repeat([]string{wrong}, n), at, put(t, s))
				chooseIs(t, fmt.Sprintf("%d of %d, others %.40q", at, n+1, wrong), texts, s, at, api.OK)
			}
		}
	}
}

// P12.2: of several the one of the greatest Gen, in any order.
func TestChooseNewest(t *testing.T) {
	gens := []int{1, 2, 255, 256, top}
	var texts []string
	for i, gen := range gens {
		// All else falls where Gen rises.
		texts = append(texts, put(t, api.Super{Gen: gen, Root: 30 - i, Map: 20 - i, Size: 100 - i}))
	}
	for n := range len(texts) + 1 {
		for _, row := range orders(texts[:n]) {
			if n == 0 {
				continue
			}
			want := api.Super{Gen: gens[n-1], Root: 31 - n, Map: 21 - n, Size: 101 - n}
			chooseIs(t, fmt.Sprintf("%q", row), row, want, slices.Index(row, texts[n-1]), api.OK)
		}
	}
}

// P12.2: of several with the same Gen the first one.
func TestChooseFirst(t *testing.T) {
	a, b, c := api.Super{Gen: 8, Root: 11, Map: 10, Size: 24}, api.Super{Gen: 8, Root: 12, Map: 10, Size: 24}, api.Super{Gen: 8, Map: 23, Size: 2048}
	elder := put(t, api.Super{Gen: 7, Map: 10, Size: 24})
	of := map[string]api.Super{put(t, a): a, put(t, b): b, put(t, c): c}
	for _, row := range orders([]string{put(t, a), put(t, b), put(t, c)}) {
		chooseIs(t, "three", row, of[row[0]], 0, api.OK)
		chooseIs(t, "behind none", append([]string{"", "x"}, row...), of[row[0]], 2, api.OK)
		chooseIs(t, "behind an elder one", append([]string{elder}, row...), of[row[0]], 1, api.OK)
		chooseIs(t, "ahead of an elder one", append(slices.Clone(row), elder), of[row[0]], 0, api.OK)
	}
	for _, s := range []api.Super{{Gen: 1, Map: 10, Size: 24}, {Gen: top, Map: 10, Size: 24}} {
		chooseIs(t, "the same one", slices.Repeat([]string{put(t, s)}, 4), s, 0, api.OK)
		chooseIs(t, "the same one, with zeros", []string{put(t, s) + zeros(9), put(t, s)}, s, 0, api.OK)
	}
}

// P12.3: what is chosen does not hang on those that may not be, also if their Gen is greater.
func TestChooseAmongNone(t *testing.T) {
	newest := api.Super{Gen: 6, Root: 12, Map: 13, Size: 30}
	good := []string{put(t, api.Super{Gen: 5, Map: 10, Size: 24}), put(t, newest), put(t, api.Super{Gen: 6, Map: 10, Size: 24})}
	wrong := []string{"", bytesOf(api.Super{Gen: 7, Root: 10, Map: 10, Size: 24}), bytesOf(api.Super{Gen: top, Map: 10, Size: 23}), laid(5, 8, three(11, 10, 24)), bytesOf(api.Super{Gen: top + 1, Map: 10, Size: 24}), laid(4, 9, three(11, 10, 24)+"x"), turnBit(put(t, api.Super{Gen: 9, Map: 10, Size: 24}), 1)}
	for set := range 1 << len(wrong) {
		for at := range len(good) + 1 {
			texts := slices.Clone(good)
			want := 1
			for i, s := range wrong {
				if set>>i&1 == 1 {
					texts = slices.Insert(texts, at, s)
					if at <= 1 {
						want++
					}
				}
			}
			chooseIs(t, fmt.Sprintf("set %d at %d", set, at), texts, newest, want, api.OK)
		}
	}
}

// P12.2: rows of all sorts are chosen from as the chapter tells it.
func TestChooseAsWritten(t *testing.T) {
	texts := []string{"", "x", zeros(4096), put(t, api.Super{Gen: 1, Map: 10, Size: 24}), put(t, api.Super{Gen: 2, Map: 10, Size: 24}), put(t, api.Super{Gen: 2, Map: 11, Size: 24}), put(t, api.Super{Gen: top, Root: 11, Map: 10, Size: 24}), bytesOf(api.Super{Gen: 3, Map: 0, Size: 24})}
	for _, a := range texts {
		for _, b := range texts {
			for _, c := range texts {
				for _, row := range [][]string{{a}, {a, b}, {a, b, c}} {
					s, at, e := chosen(row)
					chooseIs(t, fmt.Sprintf("%.20q", row), row, s, at, e)
				}
			}
		}
	}
}

// P12.2, R4: many texts, of a list with room behind them, which stays as it was.
func TestChooseOfMany(t *testing.T) {
	texts := make([]string, 0, 6000)
	for i := range 2500 {
		texts = append(texts, put(t, api.Super{Gen: 1 + i*7919%2503, Map: 10, Size: 24}), noise(i%30, uint32(i)))
	}
	room := texts[:cap(texts)]
	for i := len(texts); i < len(room); i++ {
		room[i] = "behind"
	}
	s, at, e := chosen(texts)
	chooseIs(t, "many", texts, s, at, e)
	slices.Reverse(texts)
	s, at, e = chosen(texts)
	chooseIs(t, "many, turned round", texts, s, at, e)
}

// R1: the same call, made again behind others, answers the same.
func TestKeepsNothing(t *testing.T) {
	elder := api.Super{Gen: 2, Root: 11, Map: 10, Size: 24}
	b := put(t, elder)
	for _, s := range supers() {
		put(t, s)
		Get(put(t, s))
		Choose(b, put(t, s))
		Get(noise(20, 3))
	}
	if put(t, elder) != b {
		t.Error("Put answers otherwise behind other calls")
	}
	getIs(t, "behind other calls", b, elder, api.OK)
	chooseIs(t, "behind other calls", []string{"", b}, elder, 1, api.OK)
	chooseIs(t, "behind other calls, nothing", nil, api.Super{}, 0, api.ErrCorrupt)
}
