package sum

import (
	"fmt"
	"hash/crc32"
	"math"
	"slices"
	"strings"
	"testing"

	"penelope/api"
)

// asWritten is the sum word for word as the chapter tells it: one bit after the other, each held against the register's lowest one.
func asWritten(s string) uint32 {
	register := uint32(math.MaxUint32)
	for i := 0; i < len(s); i++ {
		for bit := 0; bit < 8; bit++ {
			lowest := register & 1
			register >>= 1
			if lowest != uint32(s[i]>>bit&1) {
				register ^= 0x82f63b78
			}
		}
	}
	return ^register
}

// noise is bytes that look like no pattern, the same ones each time.
func noise(size int, seed uint32) string {
	b := make([]byte, size)
	for i := range b {
		seed = seed*1664525 + 1013904223
		b[i] = byte(seed >> 24)
	}
	return string(b)
}

func texts() []string {
	all := []string{
		"", "\x00", "\x01", "\x80", "\xff", "a", "abc", "123456789",
		"\x00\x00\x00", "\x00\x00\x00\x00", "\xff\xff\xff\xff",
		"\x00a", "a\x00", "gr\xc3\xbc\xc3\x9fe", "\xc3", "\xff\xfe\xfd",
		strings.Repeat("\x00", 4096), strings.Repeat("\xff", 511), strings.Repeat("xy", 2000),
	}
	for _, size := range []int{1, 2, 3, 4, 5, 7, 8, 9, 31, 32, 33, 100, 480, 512, 4000, 4096} {
		all = append(all, noise(size, uint32(size)))
	}
	return all
}

func turnBit(s string, bit int) string {
	b := []byte(s)
	b[bit/8] ^= 1 << (bit % 8)
	return string(b)
}

// turnBits turns those of the 32 bits from a bit on that are 1 in mask.
func turnBits(s string, from int, mask uint32) string {
	for i := 0; i < 32; i++ {
		if mask>>i&1 == 1 {
			s = turnBit(s, from+i)
		}
	}
	return s
}

// P2.1

func TestOf(t *testing.T) {
	for _, c := range []struct {
		s    string
		want uint32
	}{
		{"123456789", 0xe3069283},
		{"", 0},
		{"\x00", 0x527d5351},
		{"a", 0xc1d04330},
		{"\x00\x00\x00\x00", 0x48674bc7},
		{strings.Repeat("\x00", 32), 0x8a9136aa},
		{strings.Repeat("\xff", 32), 0x62a8ab43},
	} {
		if n := Of(c.s); n != c.want {
			t.Errorf("Of(%x) = %08x; want %08x", c.s, n, c.want)
		}
	}
}

func TestOfEveryText(t *testing.T) {
	table := crc32.MakeTable(crc32.Castagnoli)
	all := texts()
	for b := 0; b < 256; b++ {
		all = append(all, string([]byte{byte(b)}), string([]byte{'p', byte(b), 'q'}))
	}
	for _, s := range all {
		n := Of(s)
		if want := asWritten(s); n != want {
			t.Errorf("%d bytes: %08x; as written %08x", len(s), n, want)
		}
		if want := crc32.Checksum([]byte(s), table); n != want {
			t.Errorf("%d bytes: %08x; the library says %08x", len(s), n, want)
		}
	}
}

func TestOfParts(t *testing.T) {
	for _, c := range [][]string{
		nil,
		{},
		{""},
		{"", "", ""},
		{"123456789"},
		{"123456789", ""},
		{"", "123456789"},
		{"1234", "56789"},
		{"1", "2", "3", "4", "5", "6", "7", "8", "9"},
		{"12", "", "34567", "", "", "89"},
		{"\x00", "\x00"},
		{"b", "a"},
		{"\xff\x00", noise(4096, 1), "\x00"},
		slices.Repeat([]string{"ab"}, 10000),
		slices.Repeat([]string{""}, 10000),
	} {
		before := slices.Clone(c)
		if n, want := Of(c...), asWritten(strings.Join(c, "")); n != want {
			t.Errorf("Of(%d parts) = %08x; want %08x", len(c), n, want)
		}
		if !slices.Equal(before, c) {
			t.Errorf("Of changed its parts: %d of them", len(c))
		}
	}
	if n := Of(); n != 0 {
		t.Errorf("Of() = %08x", n)
	}
	if Of("a", "b") == Of("b", "a") {
		t.Error("the order of parts is not told apart")
	}
}

func TestOfAtEverySplit(t *testing.T) {
	s := noise(64, 7)
	for i := 0; i <= len(s); i++ {
		for j := i; j <= len(s); j++ {
			if n := Of(s[:i], s[i:j], s[j:]); n != Of(s) {
				t.Errorf("split at %d and %d: %08x; want %08x", i, j, n, Of(s))
			}
		}
	}
}

func TestOn(t *testing.T) {
	for _, a := range texts() {
		if n := On(0, a); n != Of(a) {
			t.Errorf("On(0, %d bytes) = %08x; want %08x", len(a), n, Of(a))
		}
		for _, b := range texts() {
			if n, want := On(Of(a), b), asWritten(a+b); n != want {
				t.Errorf("%d bytes on from %d bytes: %08x; want %08x", len(b), len(a), n, want)
			}
		}
	}
	if n := On(On(On(0, "123"), ""), "456789"); n != 0xe3069283 {
		t.Errorf("123456789 in three steps: %08x", n)
	}
}

// textOf is the text of four bytes that has that sum. The register at its end is led back by 32 shifts: what is left is its beginning, all 1, with the four bytes turned in.
func textOf(sum uint32) string {
	end := ^sum
	for i := 0; i < 32; i++ {
		top := end >> 31
		if top == 1 { // a shift lets in 0 at the top: 82F63B78 was turned in, as the lowest bit was 1
			end ^= 0x82f63b78
		}
		end = end<<1 | top
	}
	end = ^end
	return string([]byte{byte(end), byte(end >> 8), byte(end >> 16), byte(end >> 24)})
}

func TestOnFromAnySum(t *testing.T) {
	sums := []uint32{0, 1, 2, 0x7fffffff, 0x80000000, 0x82f63b78, 0xdeadbeef, math.MaxUint32 - 1, math.MaxUint32}
	for i := 0; i < 200; i++ {
		sums = append(sums, Of(noise(4, uint32(i)), "any"))
	}
	for _, sum := range sums {
		if n := On(sum, ""); n != sum {
			t.Errorf("On(%08x, empty) = %08x", sum, n)
		}
		s := textOf(sum)
		if n := Of(s); n != sum {
			t.Fatalf("%x has the sum %08x, not %08x", s, n, sum)
		}
		for b := 0; b < 256; b++ {
			one := string([]byte{byte(b)})
			if n, want := On(sum, one), asWritten(s+one); n != want {
				t.Errorf("On(%08x, %02x) = %08x; want %08x", sum, b, n, want)
			}
		}
		if n, want := On(sum, "123456789"), asWritten(s+"123456789"); n != want {
			t.Errorf("On(%08x, 123456789) = %08x; want %08x", sum, n, want)
		}
	}
}

// P2.2

func TestSeal(t *testing.T) {
	for _, c := range []struct{ s, want string }{
		{"", "\x00\x00\x00\x00"},
		{"123456789", "123456789\x83\x92\x06\xe3"}, // E3069283, its lowest byte first
		{"\x00", "\x00\x51\x53\x7d\x52"},
		{"a", "a\x30\x43\xd0\xc1"},
		{"\x00\x00\x00\x00", "\x00\x00\x00\x00\xc7\x4b\x67\x48"},
	} {
		if s := Seal(c.s); s != c.want {
			t.Errorf("Seal(%x) = %x; want %x", c.s, s, c.want)
		}
	}
	for _, s := range texts() {
		n := asWritten(s)
		want := s + string([]byte{byte(n), byte(n >> 8), byte(n >> 16), byte(n >> 24)})
		if got := Seal(s); got != want {
			t.Errorf("a sealed text of %d bytes is wrong: %d bytes", len(s), len(got))
		}
	}
}

func TestOpen(t *testing.T) {
	for _, c := range []struct {
		s, want string
		err     api.Errno
	}{
		{"\x00\x00\x00\x00", "", api.OK},
		{"\x00\x51\x53\x7d\x52", "\x00", api.OK},
		{"a\x30\x43\xd0\xc1", "a", api.OK},
		{"123456789\x83\x92\x06\xe3", "123456789", api.OK},
		// fewer than four bytes, be they a sum's or not
		{"", "", api.ErrShort},
		{"\x00", "", api.ErrShort},
		{"\x00\x00", "", api.ErrShort},
		{"\x00\x00\x00", "", api.ErrShort},
		{"abc", "", api.ErrShort},
		{"\xff\xff\xff", "", api.ErrShort},
		// four bytes that are not the empty text's sum
		{"abcd", "", api.ErrSum},
		{"\x00\x00\x00\x01", "", api.ErrSum},
		{"\x01\x00\x00\x00", "", api.ErrSum},
		{"\xff\xff\xff\xff", "", api.ErrSum},
		// five bytes
		{"\x00\x00\x00\x00\x00", "", api.ErrSum},
		{"a\x30\x43\xd0\xc0", "", api.ErrSum},
		{"a\xc1\xd0\x43\x30", "", api.ErrSum}, // the sum's highest byte first
		{"b\x30\x43\xd0\xc1", "", api.ErrSum},
		{"abcde", "", api.ErrSum},
		// a sum ahead of its text, one byte more, one byte fewer
		{"\x83\x92\x06\xe3123456789", "", api.ErrSum},
		{"123456789\xe3\x06\x92\x83", "", api.ErrSum},
		{"123456789\x83\x92\x06\xe3\x00", "", api.ErrSum},
		{"123456789\x83\x92\x06", "", api.ErrSum},
		{"23456789\x83\x92\x06\xe3", "", api.ErrSum},
		{strings.Repeat("\x00", 4096), "", api.ErrSum},
	} {
		if s, e := Open(c.s); s != c.want || e != c.err {
			t.Errorf("Open(%x) = %x, %d; want %x, %d", c.s, s, e, c.want, c.err)
		}
	}
}

// P2.3

func TestWhatIsSealedIsOpened(t *testing.T) {
	for _, s := range texts() {
		if got, e := Open(Seal(s)); got != s || e != api.OK {
			t.Errorf("%d bytes, sealed: %d bytes, %d", len(s), len(got), e)
		}
		if got, e := Open(Seal(Seal(s))); got != Seal(s) || e != api.OK {
			t.Errorf("%d bytes, sealed twice: %d bytes, %d", len(s), len(got), e)
		}
	}
}

func TestWhatIsOpenedIsSealed(t *testing.T) {
	opened := 0
	for _, s := range texts() {
		for _, sealed := range []string{s, Seal(s), Seal(s) + "\x00", s + textOf(0), s + strings.Repeat("\xff", 4)} {
			got, e := Open(sealed)
			if e != api.OK {
				continue
			}
			opened++
			if Seal(got) != sealed {
				t.Errorf("%d bytes were opened, %d bytes are sealed", len(sealed), len(Seal(got)))
			}
		}
	}
	if opened < len(texts()) {
		t.Errorf("only %d were opened", opened)
	}
}

func TestAnotherSumThanItsOwnIsNone(t *testing.T) {
	s := "abc"
	right := Seal(s)[3:]
	for b := 0; b < 4; b++ {
		for x := 0; x < 256; x++ {
			wrong := []byte(right)
			wrong[b] = byte(x)
			got, e := Open(s + string(wrong))
			if string(wrong) == right && (got != s || e != api.OK) || string(wrong) != right && (got != "" || e != api.ErrSum) {
				t.Errorf("Open(abc and %x) = %q, %d", wrong, got, e)
			}
		}
	}
}

// masks are bits turned within 32: alone, at both ends, side by side, all, and such as the sum itself is made of.
func masks() []uint32 {
	all := []uint32{0x80000001, 0xffffffff, 0x82f63b78, 0x82f63b79, 0x05ec76f1, 0xaaaaaaaa, 0x55555555, 0xc0000003, 0x0000ffff, 0xffff0000, 0xdeadbeef}
	for i := 0; i < 32; i++ {
		all = append(all, 1<<i, 1<<i|1<<31, uint32(1<<i)-1|1<<i)
	}
	for i := 0; i < 64; i++ {
		all = append(all, Of(noise(8, uint32(i)))|1)
	}
	return all
}

func TestBitsTurnedWithin32OfAText(t *testing.T) {
	for _, s := range []string{noise(20, 3), strings.Repeat("\x00", 20), strings.Repeat("\xff", 20)} {
		for from := 0; from+32 <= 8*len(s); from++ {
			for _, mask := range masks() {
				other := turnBits(s, from, mask)
				if Of(other) == Of(s) {
					t.Errorf("%x and %x have one sum", s, other)
				}
			}
		}
	}
}

func TestBitsTurnedWithin32OfASealedText(t *testing.T) {
	for _, s := range []string{"", "a", noise(3, 5), noise(12, 5), strings.Repeat("\x00", 12)} {
		sealed := Seal(s)
		// Each window of 32 bits: within the text, across the text and its sum, and within the sum alone.
		for from := 0; from+32 <= 8*len(sealed); from++ {
			for _, mask := range masks() {
				other := turnBits(sealed, from, mask)
				if got, e := Open(other); got != "" || e != api.ErrSum {
					t.Errorf("%x, of %x, is opened: %x, %d", other, sealed, got, e)
				}
			}
		}
	}
}

func TestOneBitTurned(t *testing.T) {
	for _, s := range texts() {
		sealed := Seal(s)
		bits := 8 * len(sealed)
		for bit := 0; bit < bits; bit++ {
			if bits > 5000 && bit%97 != 0 && bit < bits-64 { // of a long text some bits, and all of its end
				continue
			}
			if got, e := Open(turnBit(sealed, bit)); got != "" || e != api.ErrSum {
				t.Errorf("%d bytes, bit %d turned: %d bytes, %d", len(s), bit, len(got), e)
			}
		}
	}
}

// P1, R1, R2: every call ends, answers the same each time, and beside an error all else is zero.
func TestNoCallPanics(t *testing.T) {
	all := append(texts(), noise(1<<20, 9))
	for _, s := range all {
		for _, sum := range []uint32{0, 1, 0x80000000, math.MaxUint32} {
			if On(sum, s) != On(sum, s) {
				t.Errorf("On(%08x, %d bytes) answers twice unlike", sum, len(s))
			}
		}
		first := fmt.Sprint(Open(s))
		if got, e := Open(s); e != api.OK && got != "" || fmt.Sprint(got, e) != first {
			t.Errorf("Open(%d bytes) = %d bytes, %d", len(s), len(got), e)
		}
		if Of(s) != Of(s) || Seal(s) != Seal(s) {
			t.Errorf("%d bytes are answered twice unlike", len(s))
		}
	}
}
