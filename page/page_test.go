package page

import (
	"encoding/binary"
	"fmt"
	"hash/crc32"
	"math"
	"slices"
	"strings"
	"testing"

	"penelope/api"
)

const top = 1 << 40 // the highest Gen

func zeros(n int) string { return strings.Repeat("\x00", n) }

func trimmed(s string) string { return strings.TrimRight(s, "\x00") }

// noise is bytes that look like no pattern, none of them zero, the same ones each time.
func noise(size int, seed uint32) string {
	b := make([]byte, size)
	for i := range b {
		seed = seed*1664525 + 1013904223
		b[i] = byte(seed>>24) | 1
	}
	return string(b)
}

func crc(s string) uint32 { return crc32.Checksum([]byte(s), crc32.MakeTable(crc32.Castagnoli)) }

// sealed puts a text's sum behind it, the lowest byte first.
func sealed(s string) string { return string(binary.LittleEndian.AppendUint32([]byte(s), crc(s))) }

// ahead is all bytes of a page ahead of its sum, also of one that may not be: size is what the two bytes of the length tell.
func ahead(kind byte, gen uint64, size int, body string) string {
	b := binary.BigEndian.AppendUint64([]byte{kind}, gen<<16)[:7]
	return string(binary.BigEndian.AppendUint16(b, uint16(size))) + body
}

// laid is all bytes of a page with its sum, untrimmed, also of one that may not be.
func laid(kind byte, gen uint64, body string) string {
	return sealed(ahead(kind, gen, len(body), body))
}

func mayBe(p api.Page) bool {
	if p.Kind < 1 || p.Kind > 5 {
		return false
	}
	return p.Gen >= 0 && p.Gen <= top && len(p.Body) <= 4000
}

// told is Get word for word as the chapter tells it.
func told(s string) (api.Page, api.Errno) {
	if len(s) > 4096 {
		return api.Page{}, api.ErrArg
	}
	all := []byte(s + zeros(8192))
	size := int(all[7])*256 + int(all[8])
	if size > 4000 {
		return api.Page{}, api.ErrForm
	}
	if binary.LittleEndian.Uint32(all[9+size:]) != crc(string(all[:9+size])) {
		return api.Page{}, api.ErrSum
	}
	if all[0] < 1 || all[0] > 5 {
		return api.Page{}, api.ErrKind
	}
	gen := uint64(0)
	for _, b := range all[1:7] {
		gen = gen*256 + uint64(b)
	}
	if gen > top || trimmed(string(all[13+size:])) != "" {
		return api.Page{}, api.ErrForm
	}
	return api.Page{Kind: int(all[0]), Gen: int(gen), Body: string(all[9 : 9+size])}, api.OK
}

// back is the register that so many bits ago, all of them 0, led to this one.
func back(register uint32, bits int) uint32 {
	for range bits {
		if register>>31 == 1 {
			register = (register^0x82f63b78)<<1 | 1
		} else {
			register <<= 1
		}
	}
	return register
}

// patch is four bytes that, behind head and ahead of so many zero bytes, make the sum 0.
func patch(head string, behind int) string {
	word := back(back(math.MaxUint32, 8*behind), 32) ^ ^crc(head)
	return string(binary.LittleEndian.AppendUint32(nil, word))
}

// withoutSum is a page whose sum is 0, so that its bytes end ahead of it, and ahead of the zeros at its Body's end.
func withoutSum(kind, gen int, body string, behind int) api.Page {
	size := len(body) + 4 + behind
	head := ahead(byte(kind), uint64(gen), size, body)
	return api.Page{Kind: kind, Gen: gen, Body: body + patch(head, behind) + zeros(behind)}
}

// onlyGen is a page whose Body is empty and whose sum is 0: of its bytes those of Kind and Gen are left.
func onlyGen(kind int) api.Page {
	low := patch(string(rune(kind))+"\x00\x00", 2)
	return api.Page{Kind: kind, Gen: int(binary.BigEndian.Uint32([]byte(low)))}
}

// zeroEnded is a page whose sum ends with just one zero byte or more.
func zeroEnded(kind int, body string) api.Page {
	for gen := 0; ; gen++ {
		s := laid(byte(kind), uint64(gen), body)
		if s[len(s)-1] == 0 {
			return api.Page{Kind: kind, Gen: gen, Body: body}
		}
	}
}

func bodies() []string {
	all := []string{"", "a", "abc", "\x00", "\x00\x00\x00", "\x00a", "a\x00", "a\x00\x00\x00\x00\x00", "gr\xc3\xbc\xc3\x9fe", "\xff\xfe\xfd", zeros(4000), zeros(3999), "a" + zeros(3999), zeros(3999) + "a"}
	for _, size := range []int{2, 255, 256, 257, 467, 480, 499, 500, 512, 3999, 4000} {
		all = append(all, noise(size, uint32(size)), noise(size-1, uint32(size)+1)+"\x00")
	}
	return all
}

func gens() []int { return []int{0, 1, 7, 255, 256, 1<<32 - 1, 1 << 32, top - 1, top} }

// pages are pages that may be.
func pages() []api.Page {
	var all []api.Page
	for kind := 1; kind <= 5; kind++ {
		for _, gen := range gens() {
			all = append(all, api.Page{Kind: kind, Gen: gen}, api.Page{Kind: kind, Gen: gen, Body: "abc"})
		}
		all = append(all, onlyGen(kind), zeroEnded(kind, "abc"), zeroEnded(kind, "ab\x00\x00"))
		for _, behind := range []int{0, 1, 3, 20, 3990} {
			all = append(all, withoutSum(kind, 7, "text", behind), withoutSum(kind, top, "", behind))
		}
	}
	for _, body := range bodies() {
		all = append(all, api.Page{Kind: api.PMap, Gen: 12, Body: body}, api.Page{Kind: api.PSuper, Gen: top, Body: body})
	}
	return all
}

// wrongPages are pages that may not be, each by one thing alone, and some by all.
func wrongPages() []api.Page {
	var all []api.Page
	for _, kind := range []int{0, 6, 7, -1, 255, 256, 257, 261, math.MinInt, math.MinInt + 1, math.MaxInt} {
		all = append(all, api.Page{Kind: kind, Gen: 7, Body: "abc"}, api.Page{Kind: kind})
	}
	for _, gen := range []int{-1, top + 1, top + 2, 1<<48 - 1, 1 << 48, 1<<48 + 7, math.MinInt, math.MinInt + 7, math.MaxInt} {
		all = append(all, api.Page{Kind: api.PLeaf, Gen: gen, Body: "abc"}, api.Page{Kind: api.PRing, Gen: gen})
	}
	for _, size := range []int{4001, 4002, 4096, 65535, 65536, 65539, 100000} {
		all = append(all, api.Page{Kind: api.PInner, Gen: 7, Body: noise(size, 1)}, api.Page{Kind: api.PInner, Gen: 7, Body: zeros(size)})
	}
	return append(all, api.Page{Kind: 6, Gen: -1, Body: noise(4001, 2)}, api.Page{Gen: top + 1})
}

func put(t *testing.T, p api.Page) string {
	t.Helper()
	s, e := Put(p)
	if e != api.OK {
		t.Fatalf("Put(Kind %d, Gen %d, %d bytes): %d", p.Kind, p.Gen, len(p.Body), e)
	}
	return s
}

func name(p api.Page) string {
	if len(p.Body) > 20 {
		return fmt.Sprintf("{%d %d, %d bytes}", p.Kind, p.Gen, len(p.Body))
	}
	return fmt.Sprintf("{%d %d %q}", p.Kind, p.Gen, p.Body)
}

func getIs(t *testing.T, what, s string, want api.Page, wantE api.Errno) {
	t.Helper()
	if p, e := Get(s); p != want || e != wantE {
		t.Errorf("%s: Get: %s %d, want %s %d", what, name(p), e, name(want), wantE)
	}
}

func turnBit(s string, bit int) string {
	b := []byte(s)
	b[bit/8] ^= 1 << (bit % 8)
	return string(b)
}

// The chapter's examples.
func TestExamples(t *testing.T) {
	if s, e := Put(api.Page{Kind: 0}); s != "" || e != api.ErrArg {
		t.Errorf("Put(Kind 0): %q %d", s, e)
	}
	getIs(t, "empty", "", api.Page{}, api.ErrSum)
}

// P4.1: which pages may be.
func TestRight(t *testing.T) {
	for _, p := range pages() {
		if !mayBe(p) {
			t.Fatalf("the test's own page may not be: %s", name(p))
		}
		if !Right(p) {
			t.Errorf("Right(%s): false", name(p))
		}
	}
	for _, p := range wrongPages() {
		if Right(p) {
			t.Errorf("Right(%s): true", name(p))
		}
	}
}

// P4.1: the edges of Kind, Gen and Body, each held against all the others.
func TestRightAtEdges(t *testing.T) {
	for kind := -1; kind <= 7; kind++ {
		for _, gen := range []int{-1, 0, top, top + 1} {
			for _, size := range []int{0, 4000, 4001} {
				p := api.Page{Kind: kind, Gen: gen, Body: zeros(size)}
				want := kind >= 1 && kind <= 5 && gen >= 0 && gen <= top && size <= 4000
				if Right(p) != want {
					t.Errorf("Right(%s): %t", name(p), !want)
				}
				if _, e := Put(p); (e == api.OK) != want {
					t.Errorf("Put(%s): %d", name(p), e)
				}
			}
		}
	}
}

// P4.1: a page's bytes: Kind, Gen, length, Body, sum, trimmed.
func TestPut(t *testing.T) {
	for _, p := range pages() {
		want := trimmed(laid(byte(p.Kind), uint64(p.Gen), p.Body))
		if s, e := Put(p); s != want || e != api.OK {
			t.Errorf("Put(%s): %q %d, want %q", name(p), s, e, want)
		}
	}
}

// P4.1: one page's bytes, written out.
func TestPutWrittenOut(t *testing.T) {
	text := "\x02" + "\x00\x01\x02\x03\x04\x05" + "\x00\x03" + "abc"
	if s := put(t, api.Page{Kind: 2, Gen: 0x0102030405, Body: "abc"}); s != sealed(text) {
		t.Errorf("%q", s)
	}
	text = "\x05" + "\x01\x00\x00\x00\x00\x00" + "\x0f\xa0" + zeros(4000)
	if s := put(t, api.Page{Kind: 5, Gen: top, Body: zeros(4000)}); s != sealed(text) || len(s) != 4013 {
		t.Errorf("%d bytes", len(s))
	}
}

// P4.1: no page's bytes have a zero at their end, and those of a small Body stay within one sector.
func TestPutIsTrimmed(t *testing.T) {
	for _, p := range pages() {
		s := put(t, p)
		if trimmed(s) != s || len(s) > 4096 {
			t.Errorf("Put(%s): %d bytes, with zeros at their end", name(p), len(s))
		}
		if len(p.Body) <= api.MaxSmall && len(s) > api.SectorSize {
			t.Errorf("Put(%s): %d bytes", name(p), len(s))
		}
	}
}

// P4.1, R2: of a page that may not be nothing is told but ErrArg.
func TestPutWrong(t *testing.T) {
	for _, p := range wrongPages() {
		if s, e := Put(p); s != "" || e != api.ErrArg {
			t.Errorf("Put(%s): %q %d", name(p), s, e)
		}
	}
}

// P4.4: what is put is got again, whatever zeros stand behind it, as far as the block's end.
func TestPutIsGot(t *testing.T) {
	for _, p := range pages() {
		s := put(t, p)
		for _, size := range []int{len(s), len(s) + 1, len(s) + 4, 512, 4013, 4095, 4096} {
			if size < len(s) {
				continue
			}
			getIs(t, fmt.Sprint(name(p), " in ", size), s+zeros(size-len(s)), p, api.OK)
		}
		getIs(t, name(p)+" in 4097", s+zeros(4097-len(s)), api.Page{}, api.ErrArg)
	}
}

// P4.4: what is got, put, is the bytes without the zeros at their end.
func TestGotIsPut(t *testing.T) {
	for _, p := range pages() {
		for _, behind := range []int{0, 1, 83} {
			s := laid(byte(p.Kind), uint64(p.Gen), p.Body) + zeros(behind)
			got, e := Get(s)
			if e != api.OK {
				t.Errorf("Get(%s and %d zeros): %d", name(p), behind, e)
				continue
			}
			if again := put(t, got); again != trimmed(s) {
				t.Errorf("%s: put %q, was %q", name(p), again, trimmed(s))
			}
		}
	}
}

// P4.2, P4.4: bytes that stand without the zeros of the sum, of the Body, and of the Body's length.
func TestBytesThatEndEarly(t *testing.T) {
	for kind := 1; kind <= 5; kind++ {
		few := onlyGen(kind)
		if s := put(t, few); len(s) > 7 {
			t.Errorf("%s: %d bytes, though all behind Gen are zeros", name(few), len(s))
		} else {
			getIs(t, "Kind and Gen alone", s, few, api.OK)
		}
		for _, behind := range []int{0, 1, 5, 3996} {
			p := withoutSum(kind, 9, "", behind)
			if s := put(t, p); len(s) > 9+4 {
				t.Errorf("%s: %d bytes", name(p), len(s))
			} else {
				getIs(t, "without sum", s, p, api.OK)
			}
		}
		p := zeroEnded(kind, "abc")
		if s := put(t, p); len(s) >= 9+3+4 {
			t.Errorf("%s: %d bytes", name(p), len(s))
		} else {
			getIs(t, "without the sum's last byte", s, p, api.OK)
		}
	}
}

// P4.2, P4.4: no bytes, and zeros alone, are no page: their sum does not fit.
func TestNoBytes(t *testing.T) {
	for _, n := range []int{0, 1, 8, 9, 13, 14, 511, 512, 4095, 4096} {
		getIs(t, fmt.Sprint(n, " zeros"), zeros(n), api.Page{}, api.ErrSum)
	}
	for _, n := range []int{4097, 4098, 10000, 1 << 20} {
		getIs(t, fmt.Sprint(n, " zeros"), zeros(n), api.Page{}, api.ErrArg)
	}
	// With their sum behind them they are told by their Kind, which is 0.
	getIs(t, "zeros and their sum", sealed(zeros(9)), api.Page{}, api.ErrKind)
}

// P4.2: more than 4096 bytes are ErrArg ahead of all else.
func TestGetTooMany(t *testing.T) {
	good := laid(1, 7, "abc")
	for what, s := range map[string]string{
		"zeros behind a page":   good + zeros(4097-len(good)),
		"bytes behind a page":   good + noise(4097-len(good), 1),
		"a wrong length":        ahead(1, 7, 4001, "") + zeros(5000),
		"a wrong sum":           noise(5, 2) + zeros(4092),
		"a wrong Kind":          laid(6, 7, "abc") + zeros(4096),
		"a wrong Gen":           laid(1, top+1, "abc") + zeros(4096),
		"noise":                 noise(4097, 3),
		"much noise":            noise(100000, 4),
		"a byte beyond 4096":    good + zeros(4096-len(good)) + "x",
		"a page, twice a block": good + zeros(4096-len(good)) + good + zeros(4096-len(good)),
	} {
		getIs(t, what, s, api.Page{}, api.ErrArg)
	}
}

// P4.2: a length above 4000 is ErrForm, ahead of the sum, Kind and Gen.
func TestGetLength(t *testing.T) {
	for _, size := range []int{4001, 4002, 4083, 4084, 4087, 4096, 8191, 32768, 65535} {
		for _, kind := range []byte{0, 1, 5, 6} {
			for _, gen := range []uint64{7, top + 1} {
				getIs(t, fmt.Sprint("length ", size), ahead(kind, gen, size, "abc"), api.Page{}, api.ErrForm)
				getIs(t, fmt.Sprint("length ", size, " and a sum"), sealed(ahead(kind, gen, size, "abc")), api.Page{}, api.ErrForm)
			}
		}
	}
	for _, size := range []int{4001, 4050, 4083} { // all of it, and its sum, has room in a block
		getIs(t, fmt.Sprint("length ", size, " sealed"), laid(1, 7, noise(size, 1)), api.Page{}, api.ErrForm)
	}
	// At 4000 it is the sum that tells.
	getIs(t, "length 4000, no Body", ahead(1, 7, 4000, ""), api.Page{}, api.ErrSum)
	getIs(t, "length 4000, noise", ahead(1, 7, 4000, noise(4000, 3)), api.Page{}, api.ErrSum)
	body := noise(4000, 2)
	getIs(t, "length 4000", laid(1, 7, body), api.Page{Kind: 1, Gen: 7, Body: body}, api.OK)
}

// P4.2: a sum that does not fit is ErrSum, ahead of Kind, Gen and what stands behind it.
func TestGetSum(t *testing.T) {
	for _, kind := range []byte{0, 1, 5, 6, 255} {
		for _, gen := range []uint64{0, top, top + 1, 1<<48 - 1} {
			for _, behind := range []string{"", "x", zeros(70) + "x"} {
				s := laid(kind, gen, "abc")
				for bit := 8 * (len(s) - 4); bit < 8*len(s); bit++ {
					getIs(t, fmt.Sprint("bit ", bit), turnBit(s, bit)+behind, api.Page{}, api.ErrSum)
				}
			}
		}
	}
	text := ahead(1, 7, 3, "abc")
	highest := string(binary.BigEndian.AppendUint32([]byte(text), crc(text)))
	getIs(t, "the sum's highest byte first", highest, api.Page{}, api.ErrSum)
	getIs(t, "a sum of another text", text+sealed("other")[5:], api.Page{}, api.ErrSum)
	getIs(t, "the Body's sum alone", text+sealed("abc")[3:], api.Page{}, api.ErrSum)
	getIs(t, "a sum one byte late", text+"\x00"+sealed(text)[len(text):], api.Page{}, api.ErrSum)
}

// P4.2: a Kind that there is not is ErrKind, ahead of Gen and what stands behind the sum.
func TestGetKind(t *testing.T) {
	for kind := range 256 {
		for _, behind := range []string{"", "x", zeros(4082) + "x"} {
			want, wantE := api.Page{}, api.ErrKind
			if kind >= 1 && kind <= 5 {
				wantE = api.ErrForm
			}
			getIs(t, fmt.Sprint("Kind ", kind, ", Gen above"), laid(byte(kind), top+1, "")+behind, api.Page{}, wantE)
			if wantE == api.ErrForm && behind == "" {
				want, wantE = api.Page{Kind: kind, Gen: top}, api.OK
			}
			getIs(t, fmt.Sprint("Kind ", kind), laid(byte(kind), top, "")+behind, want, wantE)
		}
	}
}

// P4.2: a Gen above 2^40 is ErrForm.
func TestGetGen(t *testing.T) {
	for kind := 1; kind <= 5; kind++ {
		for _, gen := range gens() {
			getIs(t, fmt.Sprint("Gen ", gen), laid(byte(kind), uint64(gen), "abc"), api.Page{Kind: kind, Gen: gen, Body: "abc"}, api.OK)
		}
		for _, gen := range []uint64{top + 1, top + 2, top + 256, 2 * top, 1<<47 - 1, 1 << 47, 1<<48 - 1} {
			getIs(t, fmt.Sprint("Gen ", gen), laid(byte(kind), gen, "abc"), api.Page{}, api.ErrForm)
			getIs(t, fmt.Sprint("Gen ", gen, ", no Body"), laid(byte(kind), gen, ""), api.Page{}, api.ErrForm)
		}
	}
}

// P4.2: each place behind the sum, with a byte that is not zero.
func TestGetBehindSum(t *testing.T) {
	for _, body := range []string{"", "abc", noise(4000, 1)} {
		s := laid(3, 7, body)
		for place := len(s); place < 4096; place += 1 + (place-len(s))/13 {
			for _, b := range []string{"\x01", "\x80", "\xff"} {
				getIs(t, fmt.Sprint("a byte at ", place), s+zeros(place-len(s))+b, api.Page{}, api.ErrForm)
			}
		}
		last := s + zeros(4095-len(s))
		getIs(t, "zeros to the end", last+"\x00", api.Page{Kind: 3, Gen: 7, Body: body}, api.OK)
		getIs(t, "the last byte", last+"x", api.Page{}, api.ErrForm)
	}
	p := onlyGen(2) // a byte behind a sum that is 0
	s := put(t, p)
	getIs(t, "behind a sum of zeros", s+zeros(13-len(s))+"x", api.Page{}, api.ErrForm)
	getIs(t, "within a sum of zeros", s+zeros(12-len(s))+"x", api.Page{}, api.ErrSum)
}

// P4.2: each beginning of a page's bytes is that page, if only zeros are left out; else none.
func TestGetBeginnings(t *testing.T) {
	all := []api.Page{{Kind: 1, Gen: 7, Body: "abc"}, {Kind: 5, Gen: top}, {Kind: 4, Gen: 1<<40 - 1, Body: "a\x00\x00"}, {Kind: 2, Gen: 3, Body: noise(500, 1)}, withoutSum(3, 8, "ab", 6), onlyGen(4)}
	for _, p := range all {
		s := laid(byte(p.Kind), uint64(p.Gen), p.Body)
		for n := range len(s) {
			want, wantE := told(s[:n])
			if n >= len(trimmed(s)) != (wantE == api.OK) {
				t.Fatalf("%s: %d bytes: the test's own model tells %d", name(p), n, wantE)
			}
			getIs(t, fmt.Sprint(name(p), ", ", n, " bytes"), s[:n], want, wantE)
		}
	}
}

// P4.2: each bit of a short page turned leaves no page.
func TestGetBitsTurned(t *testing.T) {
	for _, p := range []api.Page{{Kind: 1, Gen: 7, Body: "abc"}, {Kind: 4, Gen: 0}, {Kind: 5, Gen: top, Body: "\x00\x00"}, onlyGen(3), withoutSum(2, 6, "abc", 2)} {
		s := laid(byte(p.Kind), uint64(p.Gen), p.Body)
		for bit := range 8 * len(s) {
			turned := turnBit(s, bit)
			want, wantE := told(turned)
			if wantE != api.ErrSum && !(wantE == api.ErrForm && bit/8 == 7) {
				t.Fatalf("%s: bit %d: the test's own model tells %d", name(p), bit, wantE)
			}
			getIs(t, fmt.Sprint(name(p), ", bit ", bit), turned, want, wantE)
		}
	}
}

// P4.2: bytes of any kind, sealed or not, are told as the chapter tells it.
func TestGetAsWritten(t *testing.T) {
	for _, kind := range []byte{0, 1, 2, 5, 6, 128, 255} {
		for _, gen := range []uint64{0, 1, top, top + 1, 1<<48 - 1} {
			for _, size := range []int{0, 1, 3, 4, 3999, 4000, 4001, 65535} {
				for _, body := range []string{"", "abc", "abcd", noise(3999, 1), noise(4000, 2), zeros(4000)} {
					text := ahead(kind, gen, size, body)
					for _, s := range []string{text, sealed(text), sealed(text) + "x", sealed(text) + "\x00\x00", text + "abcd"} {
						want, wantE := told(s)
						getIs(t, fmt.Sprintf("Kind %d, Gen %d, length %d, %d bytes", kind, gen, size, len(s)), s, want, wantE)
					}
				}
			}
		}
	}
	for size := 0; size <= 4100; size += 41 {
		s := noise(size, uint32(size))
		want, wantE := told(s)
		getIs(t, fmt.Sprint(size, " bytes of noise"), s, want, wantE)
	}
}

// P4.3: no wanted kinds, one, several, and kinds that there are not.
func TestWant(t *testing.T) {
	lists := [][]int{nil, {}, {0}, {1}, {2}, {3}, {4}, {5}, {6}, {-1}, {256}, {257}, {math.MinInt, math.MaxInt}, {1, 2}, {2, 1}, {4, 5}, {0, 6, 3}, {3, 3, 3}, {1, 2, 3, 4, 5}, {5, 4, 3, 2, 1, 0}, slices.Repeat([]int{9}, 1000)}
	for kind := 1; kind <= 5; kind++ {
		for _, p := range []api.Page{{Kind: kind, Gen: 7, Body: "abc"}, {Kind: kind}, onlyGen(kind)} {
			s := put(t, p)
			for _, kinds := range lists {
				before := slices.Clone(kinds)
				want, wantE := p, api.OK
				if !slices.Contains(kinds, kind) {
					want, wantE = api.Page{}, api.ErrKind
				}
				if got, e := Want(s, kinds...); got != want || e != wantE {
					t.Errorf("Want(%s, %v): %s %d, want %s %d", name(p), kinds, name(got), e, name(want), wantE)
				}
				if !slices.Equal(kinds, before) { // R4
					t.Errorf("Want changed the kinds %v to %v", before, kinds)
				}
			}
		}
	}
	if p, e := Want(put(t, api.Page{Kind: 1})); p != (api.Page{}) || e != api.ErrKind {
		t.Errorf("Want without kinds: %s %d", name(p), e)
	}
}

// P4.3: Get's error comes ahead of a kind that is not wanted, and is not hushed by one that is.
func TestWantOfNoPage(t *testing.T) {
	good := laid(1, 7, "abc")
	for _, c := range []struct {
		s string
		e api.Errno
	}{
		{"", api.ErrSum},
		{good + zeros(4097), api.ErrArg},
		{ahead(1, 7, 4001, ""), api.ErrForm},
		{turnBit(good, 100), api.ErrSum},
		{laid(0, 7, "abc"), api.ErrKind},
		{laid(6, 7, "abc"), api.ErrKind},
		{laid(6, top+1, "abc") + "x", api.ErrKind},
		{laid(1, top+1, "abc"), api.ErrForm},
		{good + "x", api.ErrForm},
	} {
		for _, kinds := range [][]int{nil, {0}, {1}, {2}, {6}, {0, 1, 2, 3, 4, 5, 6}} {
			if p, e := Want(c.s, kinds...); p != (api.Page{}) || e != c.e {
				t.Errorf("Want(%d bytes, %v): %s %d, want %d", len(c.s), kinds, name(p), e, c.e)
			}
		}
	}
}

// R1: the same call, made again behind others, answers the same.
func TestKeepsNothing(t *testing.T) {
	p := api.Page{Kind: 2, Gen: 7, Body: "abc"}
	s := put(t, p)
	for _, q := range pages() {
		put(t, q)
		Get(noise(len(q.Body), 5))
		Want(s, 1)
	}
	if put(t, p) != s {
		t.Error("Put answers otherwise behind other calls")
	}
	getIs(t, "behind other calls", s, p, api.OK)
}
