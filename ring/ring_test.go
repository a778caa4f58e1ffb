package ring

import (
	"encoding/binary"
	"fmt"
	"hash/crc32"
	"math"
	"slices"
	"strings"
	"testing"

	"penelope/api"
	"penelope/device"
	"penelope/page"
)

const top = 1 << 40 // the highest Gen

func zeros(n int) string { return strings.Repeat("\x00", n) }

func trimmed(s string) string { return strings.TrimRight(s, "\x00") }

// noise is bytes that look like no pattern, none of them zero, the same ones each time.
func noise(size int, seed uint32) string {
	b := make([]byte, size)
	for i := range b {
		seed = seed*1664525 + 1013904223
		b[i] = byte(seed>>24) | 1
	}
	return string(b)
}

func crc(s string) uint32 { return crc32.Checksum([]byte(s), crc32.MakeTable(crc32.Castagnoli)) }

// sealed puts a text's sum behind it, the lowest byte first.
func sealed(s string) string { return string(binary.LittleEndian.AppendUint32([]byte(s), crc(s))) }

// ahead is all bytes of a page ahead of its sum, also of one that may not be: size is what the two bytes of the length tell.
func ahead(kind byte, gen uint64, size int, body string) string {
	b := binary.BigEndian.AppendUint64([]byte{kind}, gen<<16)[:7]
	return string(binary.BigEndian.AppendUint16(b, uint16(size))) + body
}

// laid is all bytes of a page with its sum, untrimmed, also of one that may not be.
func laid(kind byte, gen uint64, body string) string {
	return sealed(ahead(kind, gen, len(body), body))
}

// recordOf is a record's bytes, untrimmed, also of one that may not be, as far as its numbers have room.
func recordOf(gen, no int, body string) string {
	return laid(5, uint64(gen), string([]byte{byte(no)})+body)
}

// back is the register that so many bits ago, all of them 0, led to this one.
func back(register uint32, bits int) uint32 {
	for range bits {
		if register>>31 == 1 {
			register = (register^0x82f63b78)<<1 | 1
		} else {
			register <<= 1
		}
	}
	return register
}

// withoutSum is a body of a record whose sum is 0, so that its bytes end ahead of it, and ahead of the zeros at the body's end.
func withoutSum(gen, no int, body string, behind int) string {
	head := ahead(5, uint64(gen), 1+len(body)+4+behind, string([]byte{byte(no)})+body)
	word := back(back(math.MaxUint32, 8*behind), 32) ^ ^crc(head)
	return body + string(binary.LittleEndian.AppendUint32(nil, word)) + zeros(behind)
}

// zeroEnded is a generation of which the record's sum ends with a zero byte.
func zeroEnded(no int, body string) int {
	for gen := 1; ; gen++ {
		if s := recordOf(gen, no, body); s[len(s)-1] == 0 {
			return gen
		}
	}
}

func turnBit(s string, bit int) string {
	b := []byte(s)
	b[bit/8] ^= 1 << (bit % 8)
	return string(b)
}

// The chapter's words, said one by one.

// written is Put word for word.
func written(gen, no int, body string) (string, api.Errno) {
	if gen < 1 || gen > top || no < 0 || no > 7 {
		return "", api.ErrArg
	}
	if len(body) > 480 {
		return "", api.ErrLong
	}
	return trimmed(recordOf(gen, no, body)), api.OK
}

// got is Get word for word.
func got(bytes string, gen int) (int, string, api.Errno) {
	p, e := page.Want(bytes, 5)
	switch {
	case e != api.OK:
		return 0, "", e
	case p.Gen != gen, p.Body == "", len(p.Body) > 481, p.Body[0] > 7:
		return 0, "", api.ErrForm
	}
	return int(p.Body[0]), p.Body[1:], api.OK
}

// scanned is Scan word for word.
func scanned(gen int, blocks []string) []string {
	var all []string
	for i := 0; i < len(blocks); i++ {
		no, body, e := got(blocks[i], gen)
		if e != api.OK || no != i {
			return all
		}
		all = append(all, body)
	}
	return all
}

func right(c api.Change) bool {
	if len(c.Key) < 1 || len(c.Key) > 32 || len(c.Val) > 200 {
		return false
	}
	return !c.Gone || len(c.Val) == 0
}

// counted is a text behind its length.
func counted(s string) string {
	return string([]byte{byte(len(s) / 256), byte(len(s) % 256)}) + s
}

// part is a change's bytes, whether it may be or not.
func part(c api.Change) string {
	if c.Gone {
		return "\x01" + counted(c.Key)
	}
	return "\x00" + counted(c.Key) + counted(c.Val)
}

// bodyWith is changes' bytes behind a count that may be wrong.
func bodyWith(count int, changes ...api.Change) string {
	s := string([]byte{byte(count)})
	for _, c := range changes {
		s += part(c)
	}
	return s
}

// packed is Pack word for word.
func packed(changes []api.Change) (string, api.Errno) {
	for _, c := range changes {
		if !right(c) {
			return "", api.ErrArg
		}
	}
	if len(changes) > 255 || len(bodyWith(0, changes...)) > 480 {
		return "", api.ErrLong
	}
	return bodyWith(len(changes), changes...), api.OK
}

// unpacked is Unpack word for word: each part is taken off what is left.
func unpacked(body string) ([]api.Change, api.Errno) {
	if len(body) > 480 {
		return nil, api.ErrLong
	}
	if body == "" {
		return nil, api.ErrShort
	}
	var all []api.Change
	count, left := int(body[0]), body[1:]
	for len(all) < count {
		if left == "" {
			return nil, api.ErrShort
		}
		kind, texts := left[0], 2
		if left = left[1:]; kind > 1 {
			return nil, api.ErrForm
		}
		if kind == 1 {
			texts = 1
		}
		var read [2]string
		for i := range texts {
			if len(left) < 2 || len(left)-2 < int(left[0])*256+int(left[1]) {
				return nil, api.ErrShort
			}
			size := int(left[0])*256 + int(left[1])
			read[i], left = left[2:2+size], left[2+size:]
		}
		all = append(all, api.Change{Key: read[0], Val: read[1], Gone: kind == 1})
	}
	if left != "" {
		return nil, api.ErrForm
	}
	for _, c := range all {
		if !right(c) {
			return nil, api.ErrForm
		}
	}
	return all, api.OK
}

// What is asked, and held against what is wanted.

func brief(s string) string {
	if len(s) > 40 {
		return fmt.Sprintf("%d bytes %x..", len(s), s[:40])
	}
	return fmt.Sprintf("%x", s)
}

func show(l []api.Change) string {
	s := fmt.Sprint(len(l), " changes")
	for _, c := range l[:min(len(l), 4)] {
		s += fmt.Sprintf(" {%s, %s, %t}", brief(c.Key), brief(c.Val), c.Gone)
	}
	return s
}

func put(t *testing.T, gen, no int, body string) string {
	t.Helper()
	s, e := Put(gen, no, body)
	if e != api.OK {
		t.Fatalf("Put(%d, %d, %s): %d", gen, no, brief(body), e)
	}
	return s
}

func putIs(t *testing.T, gen, no int, body, want string, wantE api.Errno) {
	t.Helper()
	if s, e := Put(gen, no, body); s != want || e != wantE {
		t.Errorf("Put(%d, %d, %s): %s %d, want %s %d", gen, no, brief(body), brief(s), e, brief(want), wantE)
	}
}

func getIs(t *testing.T, what, bytes string, gen, no int, body string, wantE api.Errno) {
	t.Helper()
	if n, b, e := Get(bytes, gen); n != no || b != body || e != wantE {
		t.Errorf("%s: Get(%s, %d): %d %s %d, want %d %s %d", what, brief(bytes), gen, n, brief(b), e, no, brief(body), wantE)
	}
}

// scanIs also holds the blocks, and what lies behind them in their list, against what they were (R4).
func scanIs(t *testing.T, what string, gen int, blocks []string, want ...string) {
	t.Helper()
	room := blocks[:cap(blocks)]
	was := slices.Clone(room)
	l := Scan(gen, blocks...)
	if !slices.Equal(l, want) {
		t.Errorf("%s: Scan(%d, %d blocks): %q, want %q", what, gen, len(blocks), l, want)
	}
	for i := range l {
		l[i] = "written over"
	}
	if !slices.Equal(room, was) {
		t.Errorf("%s: Scan changed what it was handed, or shares it", what)
	}
}

// packIs also holds the changes, and what lies behind them in their list, against what they were (R4).
func packIs(t *testing.T, what string, changes []api.Change, want string, wantE api.Errno) {
	t.Helper()
	room := changes[:cap(changes)]
	was := slices.Clone(room)
	if s, e := Pack(changes...); s != want || e != wantE {
		t.Errorf("%s: Pack of %d: %s %d, want %s %d", what, len(changes), brief(s), e, brief(want), wantE)
	}
	if !slices.Equal(room, was) {
		t.Errorf("%s: Pack changed what it was handed", what)
	}
}

func unpackIs(t *testing.T, what, body string, want []api.Change, wantE api.Errno) {
	t.Helper()
	if l, e := Unpack(body); !slices.Equal(l, want) || e != wantE {
		t.Errorf("%s: Unpack(%s): %s %d, want %s %d", what, brief(body), show(l), e, show(want), wantE)
	}
}

// unpackFails also asks the model, so that the two are held against one another.
func unpackFails(t *testing.T, what, body string, want api.Errno) {
	t.Helper()
	if _, e := unpacked(body); e != want {
		t.Fatalf("%s: %s: the test's own model tells %d", what, brief(body), e)
	}
	unpackIs(t, what, body, nil, want)
}

// What is asked about.

func gens() []int { return []int{1, 2, 7, 255, 256, 1<<32 - 1, 1 << 32, top - 1, top} }

func wrongGens() []int {
	return []int{0, -1, -2, -top, top + 1, top + 2, 2 * top, 1<<48 - 1, 1 << 48, 1<<48 + 7, math.MinInt, math.MinInt + 1, math.MaxInt}
}

func wrongNumbers() []int {
	return []int{-1, -2, -8, 8, 9, 255, 256, 257, 263, 65536, math.MinInt, math.MinInt + 1, math.MaxInt}
}

// bodies are bodies of records that may be.
func bodies() []string {
	all := []string{"", "a", "abc", "\x00", zeros(4), "\x00a", "a\x00", "a\x00\x00\x00\x00\x00", "gr\xc3\xbc\xc3\x9fe", "\xff\xfe\xfd", zeros(479), zeros(480), "a" + zeros(479), zeros(479) + "a"}
	for _, size := range []int{2, 254, 255, 256, 257, 478, 479, 480} {
		all = append(all, noise(size, uint32(size)), noise(size-1, uint32(size)+1)+"\x00")
	}
	return all
}

func longBodies() []string {
	var all []string
	for _, size := range []int{481, 482, 499, 500, 512, 3999, 4000, 4001, 4096, 65535, 65536, 100000} {
		all = append(all, noise(size, 1), zeros(size))
	}
	return all
}

// changes are changes that may be.
func changes() []api.Change {
	var all []api.Change
	for _, key := range []string{"a", "\x00", "ab", "\xff", noise(31, 1), noise(32, 2), zeros(32)} {
		all = append(all, api.Change{Key: key, Gone: true})
		for _, val := range []string{"", "1", "\x00", noise(199, 3), noise(200, 4), zeros(200)} {
			all = append(all, api.Change{Key: key, Val: val})
		}
	}
	return all
}

// wrongChanges are changes that may not be.
func wrongChanges() []api.Change {
	var all []api.Change
	for _, key := range []string{"", noise(33, 1), zeros(33), noise(34, 2), noise(256, 3), noise(480, 4), noise(65536, 5), noise(65537, 6)} {
		all = append(all, api.Change{Key: key}, api.Change{Key: key, Val: "1"}, api.Change{Key: key, Gone: true}, api.Change{Key: key, Val: noise(201, 1)})
	}
	for _, val := range []string{noise(201, 1), zeros(201), noise(202, 2), noise(456, 3), noise(480, 4), noise(65536, 5)} {
		all = append(all, api.Change{Key: "a", Val: val}, api.Change{Key: noise(32, 1), Val: val})
	}
	for _, val := range []string{"1", "\x00", noise(200, 1), noise(201, 2), noise(65536, 3)} {
		all = append(all, api.Change{Key: "a", Val: val, Gone: true}, api.Change{Key: noise(32, 1), Val: val, Gone: true})
	}
	return all
}

// wrongRecords are bytes of which Get tells an error for gen 7, with that error.
func wrongRecords() map[string]api.Errno {
	good := recordOf(7, 0, "abc")
	return map[string]api.Errno{
		"":                                    api.ErrSum,
		zeros(1):                              api.ErrSum,
		zeros(17):                             api.ErrSum,
		zeros(512):                            api.ErrSum,
		zeros(4096):                           api.ErrSum,
		zeros(4097):                           api.ErrArg,
		noise(4097, 1):                        api.ErrArg,
		good + zeros(4097-len(good)):          api.ErrArg,
		noise(19, 2):                          api.ErrForm,
		ahead(5, 7, 4001, "\x00abc"):          api.ErrForm,
		good[:len(good)-1] + "x":              api.ErrSum,
		good[:len(good)-1]:                    api.ErrSum,
		good[:9]:                              api.ErrSum,
		turnBit(good, 77):                     api.ErrSum,
		laid(0, 7, "\x00abc"):                 api.ErrKind,
		laid(1, 7, "\x00abc"):                 api.ErrKind,
		laid(2, 7, "\x00abc"):                 api.ErrKind,
		laid(3, 7, "\x00abc"):                 api.ErrKind,
		laid(4, 7, "\x00abc"):                 api.ErrKind,
		laid(6, 7, "\x00abc"):                 api.ErrKind,
		laid(255, 7, "\x00abc"):               api.ErrKind,
		good + "x":                            api.ErrForm,
		good + zeros(40) + "x":                api.ErrForm,
		laid(5, top+1, "\x00abc"):             api.ErrForm,
		recordOf(6, 0, "abc"):                 api.ErrForm,
		recordOf(8, 0, "abc"):                 api.ErrForm,
		laid(5, 7, ""):                        api.ErrForm,
		laid(5, 7, "\x00"+noise(481, 1)):      api.ErrForm,
		laid(5, 7, "\x00"+zeros(481)):         api.ErrForm,
		laid(5, 7, "\x00"+noise(3999, 1)):     api.ErrForm,
		recordOf(7, 8, "abc"):                 api.ErrForm,
		recordOf(7, 255, "abc"):               api.ErrForm,
		recordOf(7, 8, ""):                    api.ErrForm,
		recordOf(1<<40, 0, "abc"):             api.ErrForm,
		laid(5, 0, "\x00abc"):                 api.ErrForm,
		laid(5, 1<<47+7, "\x00abc"):           api.ErrForm,
		laid(5, 6, "") + "x":                  api.ErrForm,
		laid(1, 6, ""):                        api.ErrKind,
		laid(1, 6, "\x09"+noise(481, 1)):      api.ErrKind,
		turnBit(laid(1, 6, noise(482, 1)), 9): api.ErrSum,
	}
}

// many is so many changes that each have so many bytes of Val.
func many(n, val int) []api.Change {
	var l []api.Change
	for i := range n {
		l = append(l, api.Change{Key: string([]byte{byte(i)}), Val: noise(val, uint32(i))})
	}
	return l
}

// allGone is so many changes of four bytes each: the shortest that there are.
func allGone(n int) []api.Change {
	var l []api.Change
	for i := range n {
		l = append(l, api.Change{Key: string([]byte{byte(i)}), Gone: true})
	}
	return l
}

// sized is changes whose body has so many bytes, from 23 on.
func sized(size int) []api.Change {
	l := []api.Change{{Key: "b", Gone: true}}
	rest := size - 23
	for _, key := range []string{"c", "a", "b"} {
		val := min(rest, 200)
		l = append(l, api.Change{Key: key, Val: noise(val, uint32(size))})
		rest -= val
	}
	return l
}

// P13.1 to P13.3: the chapter's examples.
func TestExamples(t *testing.T) {
	packIs(t, "nothing", nil, "\x00", api.OK)
	packIs(t, "a is 1", []api.Change{{Key: "a", Val: "1"}}, "\x01\x00\x00\x01\x61\x00\x01\x31", api.OK)
	scanIs(t, "record 0 of 3, record 1 of 2", 3, []string{put(t, 3, 0, "first"), put(t, 2, 1, "second")}, "first")
}

// P13.1: each edge that the chapter names, written out.
func TestPutWrittenOut(t *testing.T) {
	for _, c := range []struct {
		gen, no, size int
		e             api.Errno
	}{
		{1, 0, 0, api.OK}, {0, 0, 0, api.ErrArg}, {-1, 0, 0, api.ErrArg},
		{1 << 40, 0, 0, api.OK}, {1<<40 + 1, 0, 0, api.ErrArg},
		{1, 7, 0, api.OK}, {1, 8, 0, api.ErrArg}, {1, -1, 0, api.ErrArg},
		{1, 0, 480, api.OK}, {1, 0, 481, api.ErrLong}, {1 << 40, 7, 480, api.OK}, {1 << 40, 7, 481, api.ErrLong},
		{0, 0, 481, api.ErrArg}, {1<<40 + 1, 0, 481, api.ErrArg}, {1, 8, 481, api.ErrArg}, {1, -1, 481, api.ErrArg}, {-1, -1, 481, api.ErrArg},
	} {
		for _, body := range []string{noise(c.size, 3), zeros(c.size)} {
			s, e := Put(c.gen, c.no, body)
			if e != c.e || (s == "") != (e != api.OK) {
				t.Errorf("Put(%d, %d, %d bytes): %d bytes, %d", c.gen, c.no, c.size, len(s), e)
			}
			if _, modelE := written(c.gen, c.no, body); modelE != c.e {
				t.Fatalf("Put(%d, %d, %d bytes): the test's own model tells %d", c.gen, c.no, c.size, modelE)
			}
		}
	}
	bytes := sealed("\x05" + "\x00\x01\x02\x03\x04\x05" + "\x00\x04" + "\x06" + "abc")
	putIs(t, 0x0102030405, 6, "abc", bytes, api.OK)
	getIs(t, "written out", bytes, 0x0102030405, 6, "abc", api.OK)
	bytes = sealed("\x05" + "\x01\x00\x00\x00\x00\x00" + "\x01\xe1" + "\x07" + zeros(480))
	putIs(t, top, 7, zeros(480), bytes, api.OK)
	if len(bytes) != 494 {
		t.Errorf("the longest record has %d bytes", len(bytes))
	}
}

// P13.1: a record's bytes: a page of PRing and its Gen, whose Body is the number in one byte and the body.
func TestPut(t *testing.T) {
	for _, gen := range gens() {
		for no := range 8 {
			for _, body := range bodies() {
				putIs(t, gen, no, body, trimmed(recordOf(gen, no, body)), api.OK)
			}
		}
	}
	for no := range 8 {
		for _, body := range bodies() {
			p, e := page.Get(put(t, 9, no, body))
			if want := (api.Page{Kind: api.PRing, Gen: 9, Body: string([]byte{byte(no)}) + body}); p != want || e != api.OK {
				t.Errorf("Put(9, %d, %s) tells the page {%d %d %s}, %d", no, brief(body), p.Kind, p.Gen, brief(p.Body), e)
			}
		}
	}
}

// P13.1, R2: gen and no that may not be are ErrArg, also if the body is too long; a body that is too long is ErrLong alone.
func TestPutWrong(t *testing.T) {
	all := append(bodies(), longBodies()...)
	for _, body := range all {
		for _, gen := range wrongGens() {
			for _, no := range append(wrongNumbers(), 0, 7) {
				putIs(t, gen, no, body, "", api.ErrArg)
			}
		}
		for _, no := range wrongNumbers() {
			for _, gen := range gens() {
				putIs(t, gen, no, body, "", api.ErrArg)
			}
		}
	}
	for _, body := range longBodies() {
		for _, gen := range gens() {
			for no := range 8 {
				putIs(t, gen, no, body, "", api.ErrLong)
			}
		}
	}
}

// P13.1: each length of a body up to and behind the longest.
func TestEverySize(t *testing.T) {
	for size := range 600 {
		for _, body := range []string{noise(size, 5), zeros(size)} {
			want, wantE := written(3, size%8, body)
			putIs(t, 3, size%8, body, want, wantE)
			if wantE == api.OK {
				getIs(t, "its record", want, 3, size%8, body, api.OK)
			} else {
				getIs(t, "a longer one", recordOf(3, size%8, body), 3, 0, "", api.ErrForm)
			}
		}
	}
}

// P13.4, R6: what is put is got again, whatever zeros stand behind it as far as the block's end, and lies within one sector.
func TestPutIsGot(t *testing.T) {
	for _, gen := range gens() {
		for no := range 8 {
			for _, body := range bodies() {
				b := put(t, gen, no, body)
				if len(b) > 512 || trimmed(b) != b {
					t.Errorf("Put(%d, %d, %s): %d bytes, or zeros at their end", gen, no, brief(body), len(b))
				}
				getIs(t, "put", b, gen, no, body, api.OK)
			}
		}
	}
	for _, body := range bodies() {
		b := put(t, 7, 3, body)
		for _, size := range []int{len(b) + 1, len(b) + 4, 511, 512, 513, 4095, 4096} {
			getIs(t, fmt.Sprint("in ", size), b+zeros(size-len(b)), 7, 3, body, api.OK)
		}
		getIs(t, "in 4097", b+zeros(4097-len(b)), 7, 0, "", api.ErrArg)
	}
}

// P13.1, R6: bytes that stand without the zeros of the sum and of the body, whose own zeros are told nevertheless.
func TestBytesThatEndEarly(t *testing.T) {
	for _, no := range []int{0, 7} {
		for _, body := range []string{"", "abc", "ab\x00\x00"} {
			gen := zeroEnded(no, body)
			b := put(t, gen, no, body)
			if len(b) >= 9+1+len(body)+4 {
				t.Errorf("Put(%d, %d, %q): %d bytes", gen, no, body, len(b))
			}
			getIs(t, "without the sum's last byte", b, gen, no, body, api.OK)
			getIs(t, "with it", recordOf(gen, no, body), gen, no, body, api.OK)
		}
		for _, behind := range []int{0, 1, 3, 100, 473, 476} {
			body := withoutSum(top, no, "", behind)
			b := put(t, top, no, body)
			if len(b) > 9+1+4 {
				t.Errorf("Put of a body with %d zeros at its end: %d bytes", behind, len(b))
			}
			getIs(t, "without the sum", b, top, no, body, api.OK)
			if no == 0 {
				scanIs(t, "without the sum", top, []string{b}, body)
			}
		}
	}
}

// P13.1: bytes that are no record of that generation, each with its error.
func TestGetOfNone(t *testing.T) {
	for s, e := range wrongRecords() {
		if _, _, modelE := got(s, 7); modelE != e {
			t.Fatalf("%s: the test's own model tells %d, not %d", brief(s), modelE, e)
		}
		getIs(t, "wrong", s, 7, 0, "", e)
	}
}

// P13.1: page.Want's errors come in its order, and ahead of a page that tells no record.
func TestGetOrder(t *testing.T) {
	for _, body := range []string{"", "\x00", "\x07abc", "\x08abc", "\xff", "\x00" + noise(480, 1), "\x00" + noise(481, 1), noise(4000, 1)} {
		for _, gen := range []int{7, 8} { // of 8 it is another generation
			for kind := range 8 {
				s := laid(byte(kind), 7, body)
				what := fmt.Sprintf("Kind %d, %d bytes of Body", kind, len(body))
				getIs(t, what+", too many", s+zeros(4097-len(s)), gen, 0, "", api.ErrArg)
				getIs(t, what+", a wrong length", ahead(byte(kind), 7, 4001, body), gen, 0, "", api.ErrForm)
				getIs(t, what+", a wrong sum", turnBit(s, 8*len(s)-3), gen, 0, "", api.ErrSum)
				getIs(t, what+", a wrong sum and more", turnBit(s, 8*len(s)-3)+"x", gen, 0, "", api.ErrSum)
				late := api.ErrForm // what is behind the sum, and Gen, come ahead of a kind that is not wanted
				if kind < 1 || kind > 5 {
					late = api.ErrKind
				}
				getIs(t, what+", more", s+"x", gen, 0, "", late)
				getIs(t, what+", a wrong Gen", laid(byte(kind), top+1, body), gen, 0, "", late)
				no, told, e := got(s, gen)
				if kind != 5 && e != api.ErrKind {
					t.Fatalf("%s: the test's own model tells %d", what, e)
				}
				getIs(t, what, s, gen, no, told, e)
			}
		}
	}
}

// P13.1: a record is got of its own generation alone, at all numbers that may be asked for.
func TestGetGen(t *testing.T) {
	all := append(gens(), wrongGens()...)
	for _, gen := range gens() {
		b := put(t, gen, 3, "abc")
		for _, asked := range append(all, gen-1, gen+1, gen+1<<48, -gen, ^gen) {
			if asked == gen {
				getIs(t, "its own", b, asked, 3, "abc", api.OK)
			} else {
				getIs(t, "another one", b, asked, 0, "", api.ErrForm)
				scanIs(t, "another one", asked, []string{put(t, gen, 0, "abc")})
			}
		}
	}
	for _, gen := range []uint64{top + 1, top + 256, 2 * top, 1<<48 - 1} {
		getIs(t, "a Gen that no page has", laid(5, gen, "\x00abc"), int(gen), 0, "", api.ErrForm)
	}
	// The chapter asks of the page's Gen that it is gen, and nothing else: a page may have Gen 0, though no record is put so.
	getIs(t, "Gen 0", laid(5, 0, "\x02abc"), 0, 2, "abc", api.OK)
}

// P13.1: the Body's first byte is the number, up to 7.
func TestGetNumber(t *testing.T) {
	for no := range 256 {
		for _, body := range []string{"", "abc", "\x00", noise(480, 1), zeros(480)} {
			if no <= 7 {
				getIs(t, fmt.Sprint("number ", no), recordOf(9, no, body), 9, no, body, api.OK)
			} else {
				getIs(t, fmt.Sprint("number ", no), recordOf(9, no, body), 9, 0, "", api.ErrForm)
			}
		}
	}
}

// P13.1: a Body of no byte, of one, of 481 and of 482 bytes.
func TestGetBodySize(t *testing.T) {
	for _, size := range []int{0, 1, 2, 480, 481, 482, 483, 500, 3999, 4000} {
		for _, body := range []string{zeros(size), ("\x05" + noise(4000, 1))[:size], ("\x05" + zeros(4000))[:size]} {
			if size == 0 || size > 481 {
				getIs(t, fmt.Sprint(size, " bytes"), laid(5, 9, body), 9, 0, "", api.ErrForm)
			} else {
				getIs(t, fmt.Sprint(size, " bytes"), laid(5, 9, body), 9, int(body[0]), body[1:], api.OK)
			}
		}
	}
}

// P13.1: each bit of a record turned leaves none, and neither do beginnings of its bytes.
func TestGetTorn(t *testing.T) {
	for _, c := range []struct {
		gen, no int
		body    string
	}{{1, 0, ""}, {7, 3, "abc"}, {top, 7, noise(480, 1)}, {5, 2, zeros(30)}, {9, 1, withoutSum(9, 1, "ab", 20)}} {
		all := recordOf(c.gen, c.no, c.body)
		for bit := range 8 * len(all) {
			turned := turnBit(all, bit)
			_, _, wantE := got(turned, c.gen)
			if wantE != api.ErrSum && !(wantE == api.ErrForm && bit/8 == 7) {
				t.Fatalf("bit %d: the test's own model tells %d", bit, wantE)
			}
			getIs(t, fmt.Sprint("bit ", bit), turned, c.gen, 0, "", wantE)
		}
		for n := range len(all) {
			if n < len(trimmed(all)) {
				getIs(t, fmt.Sprint(n, " bytes"), all[:n], c.gen, 0, "", api.ErrSum)
			} else {
				getIs(t, fmt.Sprint(n, " bytes"), all[:n], c.gen, c.no, c.body, api.OK)
			}
		}
	}
}

// P13.4: a record that is written over another one is that one or the other, whatever sectors stay; the elder one is of another generation.
func TestSectors(t *testing.T) {
	elder, now := put(t, 4, 2, noise(480, 1)), put(t, 5, 2, noise(479, 2)+"\x00")
	for mask := range 256 {
		over := device.Mix(elder, now, mask)
		scan := []string{put(t, 5, 0, "a"), put(t, 5, 1, "b"), over}
		if mask&1 == 1 {
			getIs(t, fmt.Sprint("mask ", mask), over, 5, 2, noise(479, 2)+"\x00", api.OK)
			getIs(t, fmt.Sprint("mask ", mask), over, 4, 0, "", api.ErrForm)
			scanIs(t, fmt.Sprint("mask ", mask), 5, scan, "a", "b", noise(479, 2)+"\x00")
		} else {
			getIs(t, fmt.Sprint("mask ", mask), over, 4, 2, noise(480, 1), api.OK)
			getIs(t, fmt.Sprint("mask ", mask), over, 5, 0, "", api.ErrForm)
			scanIs(t, fmt.Sprint("mask ", mask), 5, scan, "a", "b")
		}
	}
}

// P13.2, R3: nothing, empty blocks, and wrong ones alone.
func TestScanOfNone(t *testing.T) {
	if l := Scan(7); len(l) != 0 {
		t.Errorf("Scan(7): %q", l)
	}
	scanIs(t, "nil", 7, nil)
	scanIs(t, "an empty list", 7, []string{})
	scanIs(t, "empty blocks", 7, make([]string, 8))
	for s := range wrongRecords() {
		scanIs(t, brief(s), 7, []string{s})
		scanIs(t, brief(s)+" ahead of a record", 7, []string{s, put(t, 7, 0, "a"), put(t, 7, 1, "b")})
		scanIs(t, brief(s)+" in place of the first", 7, []string{s, put(t, 7, 1, "b"), put(t, 7, 2, "c")})
	}
	for _, gen := range append(wrongGens(), 6, 8) {
		scanIs(t, "another generation", gen, []string{put(t, 7, 0, "a"), put(t, 7, 1, "b"), ""})
	}
}

// P13.2, P13.4: records with the numbers 0, 1, .. are scanned, up to the last one; empty bodies count, too.
func TestScan(t *testing.T) {
	for _, gen := range gens() {
		for n := range 9 {
			var blocks, want []string
			for no := range n {
				body := bodies()[(gen+no)%len(bodies())]
				blocks, want = append(blocks, put(t, gen, no, body)), append(want, body)
			}
			scanIs(t, fmt.Sprint(n, " records"), gen, blocks, want...)
			scanIs(t, fmt.Sprint(n, " records and empty blocks"), gen, append(slices.Clone(blocks), "", "", put(t, gen, 7, "x")), want...)
		}
	}
	scanIs(t, "empty bodies", 3, []string{put(t, 3, 0, ""), put(t, 3, 1, ""), put(t, 3, 2, "")}, "", "", "")
	scanIs(t, "zeros behind them", 3, []string{put(t, 3, 0, "a") + zeros(9), put(t, 3, 1, "b") + zeros(3000)}, "a", "b")
	scanIs(t, "the same body", 3, []string{put(t, 3, 0, "a"), put(t, 3, 1, "a")}, "a", "a")
}

// P13.2: a gap at each place, of each kind: what stands behind it is not told, even if it would fit.
func TestScanGap(t *testing.T) {
	var blocks, all []string
	for no := range 8 {
		blocks, all = append(blocks, put(t, 7, no, fmt.Sprint("body ", no))), append(all, fmt.Sprint("body ", no))
	}
	for at := range 8 {
		gap := func(what, s string) {
			t.Helper()
			scanIs(t, fmt.Sprint(what, " at ", at), 7, slices.Concat(blocks[:at], []string{s}, blocks[at+1:]), all[:at]...)
		}
		for s := range wrongRecords() {
			gap(brief(s), s)
		}
		for no := range 8 {
			if no != at {
				gap(fmt.Sprint("number ", no), put(t, 7, no, "x"))
			}
		}
		gap("an elder one", put(t, 6, at, "x"))
		gap("a newer one", put(t, 8, at, "x"))
		scanIs(t, fmt.Sprint("without ", at), 7, slices.Concat(blocks[:at], blocks[at+1:]), all[:at]...)
		scanIs(t, fmt.Sprint("one more at ", at), 7, slices.Concat(blocks[:at], []string{""}, blocks[at:]), all[:at]...)
	}
	slices.Reverse(blocks)
	scanIs(t, "turned round", 7, blocks)
}

// P13.2: of more than 8 blocks only the first 8 can have their own number.
func TestScanOfMany(t *testing.T) {
	var blocks, all []string
	for no := range 8 {
		blocks, all = append(blocks, put(t, 7, no, fmt.Sprint(no))), append(all, fmt.Sprint(no))
	}
	for no := range 9 {
		more := append(slices.Clone(blocks), recordOf(7, no, "x"), recordOf(7, 9, "y"))
		scanIs(t, fmt.Sprint("number ", no, " at place 8"), 7, more, all...)
	}
	long := make([]string, 0, 9000)
	for range 1000 {
		long = append(long, blocks...)
	}
	room := long[:cap(long)]
	for i := len(long); i < len(room); i++ {
		room[i] = "behind"
	}
	scanIs(t, "a thousand times", 7, long, all...)
}

// P13.2: rows of all sorts are scanned as the chapter tells it.
func TestScanAsWritten(t *testing.T) {
	texts := []string{"", put(t, 7, 0, "a"), put(t, 7, 1, "b"), put(t, 7, 1, ""), put(t, 7, 2, "c"), put(t, 8, 0, "d"), put(t, 8, 1, "e"), recordOf(7, 3, "f") + zeros(5), turnBit(put(t, 7, 3, "g"), 3)}
	for _, a := range texts {
		for _, b := range texts {
			for _, c := range texts {
				for _, d := range texts {
					row := []string{a, b, c, d}
					for _, gen := range []int{7, 8} {
						if want := scanned(gen, row); !slices.Equal(Scan(gen, row...), want) {
							t.Errorf("Scan(%d, %x): %q, want %q", gen, row, Scan(gen, row...), want)
						}
					}
				}
			}
		}
	}
}

// P13.3: bodies of changes, written out.
func TestPackWrittenOut(t *testing.T) {
	for _, c := range []struct {
		body    string
		changes []api.Change
	}{
		{"\x00", nil},
		{"\x01\x00\x00\x01a\x00\x00", []api.Change{{Key: "a"}}},
		{"\x01\x01\x00\x01a", []api.Change{{Key: "a", Gone: true}}},
		{"\x02\x01\x00\x02ab\x00\x00\x01c\x00\x03def", []api.Change{{Key: "ab", Gone: true}, {Key: "c", Val: "def"}}},
		{"\x02\x00\x00\x01c\x00\x03def\x01\x00\x02ab", []api.Change{{Key: "c", Val: "def"}, {Key: "ab", Gone: true}}},
		{"\x03\x00\x00\x01a\x00\x011\x01\x00\x01a\x00\x00\x01a\x00\x012", []api.Change{{Key: "a", Val: "1"}, {Key: "a", Gone: true}, {Key: "a", Val: "2"}}},
		{"\x01\x00\x00\x20" + noise(32, 1) + "\x00\xc8" + noise(200, 2), []api.Change{{Key: noise(32, 1), Val: noise(200, 2)}}},
		{"\x01\x01\x00\x20" + noise(32, 1), []api.Change{{Key: noise(32, 1), Gone: true}}},
		{"\x01\x00\x00\x01\x00\x00\x02\x00\x00", []api.Change{{Key: "\x00", Val: "\x00\x00"}}},
	} {
		packIs(t, "written out", c.changes, c.body, api.OK)
		unpackIs(t, "written out", c.body, c.changes, api.OK)
	}
}

// P13.3: a Key of 0, 1, 32 and 33 bytes, a Val of 0, 200 and 201, and one that is Gone with a Val.
func TestPackEdges(t *testing.T) {
	for _, key := range []int{0, 1, 2, 31, 32, 33, 34} {
		for _, val := range []int{0, 1, 199, 200, 201, 202} {
			for _, gone := range []bool{false, true} {
				for _, c := range []api.Change{{Key: noise(key, 1), Val: noise(val, 2), Gone: gone}, {Key: zeros(key), Val: zeros(val), Gone: gone}} {
					is := key >= 1 && key <= 32 && val <= 200 && (!gone || val == 0)
					if right(c) != is {
						t.Fatalf("Key %d, Val %d, Gone %t: the test's own model tells %t", key, val, gone, !is)
					}
					want, wantE := "", api.ErrArg
					if is {
						want, wantE = "\x01"+part(c), api.OK
					}
					what := fmt.Sprint("Key ", key, ", Val ", val, ", Gone ", gone)
					packIs(t, what, []api.Change{c}, want, wantE)
				}
			}
		}
	}
	for _, c := range changes() {
		packIs(t, "may be", []api.Change{c}, "\x01"+part(c), api.OK)
	}
	for _, c := range wrongChanges() {
		packIs(t, "may not be", []api.Change{c}, "", api.ErrArg)
	}
}

// P13.3: one change that may not be, at each place among others, is ErrArg, also if there are too many, or the body would be too long.
func TestPackOrder(t *testing.T) {
	for _, n := range []int{0, 1, 2, 5, 119, 120, 254, 255, 256, 1000} {
		for _, val := range []int{0, 200} {
			l := many(n, val)
			_, e := Pack(l...)
			_, wantE := packed(l)
			if e != wantE {
				t.Errorf("%d changes with a Val of %d bytes: %d, want %d", n, val, e, wantE)
			}
			for _, at := range []int{0, n / 2, n} {
				for _, c := range wrongChanges() {
					if _, e := Pack(slices.Insert(slices.Clone(l), at, c)...); e != api.ErrArg {
						t.Errorf("%d changes, a wrong one at %d: %d", n, at, e)
					}
				}
			}
		}
	}
}

// P13.3: how many changes have room, of the shortest ones and of others, and 255 and 256 of them.
func TestPackTooMany(t *testing.T) {
	for n := range 260 {
		want, wantE := "", api.ErrLong
		if 1+4*n <= 480 {
			want, wantE = bodyWith(n, allGone(n)...), api.OK
		}
		if (wantE == api.OK) != (n <= 119) {
			t.Fatalf("%d of the shortest changes: %d", n, wantE)
		}
		packIs(t, fmt.Sprint(n, " of the shortest"), allGone(n), want, wantE)
	}
	for _, n := range []int{119, 120, 254, 255, 256, 257, 511, 512, 513, 65536, 65537, 1 << 18} {
		for _, l := range [][]api.Change{allGone(n), many(n, 0), many(n, 1)} {
			want, wantE := "", api.ErrLong
			if n < 120 && l[0].Gone {
				want, wantE = bodyWith(n, l...), api.OK
			}
			packIs(t, fmt.Sprint(n, " changes"), l, want, wantE)
		}
	}
}

// P13.3: a body of each length up to 480 bytes, of 481 and of more.
func TestPackTooLong(t *testing.T) {
	for size := 23; size <= 600; size++ {
		l := sized(size)
		body, e := bodyWith(4, l...), api.OK
		if len(body) != size {
			t.Fatalf("the test's own body has %d bytes, not %d", len(body), size)
		}
		if size <= 480 {
			unpackIs(t, fmt.Sprint(size, " bytes"), body, l, api.OK)
		} else {
			unpackFails(t, fmt.Sprint(size, " bytes"), body, api.ErrLong)
			body, e = "", api.ErrLong
		}
		packIs(t, fmt.Sprint(size, " bytes"), l, body, e)
	}
	for val := range 201 {
		// 1 + (3 + 32 + 2 + 200) + (3 + 32 + 2 + val)
		l := []api.Change{{Key: noise(32, 1), Val: noise(200, 2)}, {Key: noise(32, 3), Val: noise(val, 4)}}
		if size := len(bodyWith(2, l...)); size != 275+val {
			t.Fatalf("%d bytes", size)
		}
		packIs(t, fmt.Sprint("a Val of ", val), l, bodyWith(2, l...), api.OK)
		for _, more := range []int{0, 1, 200} {
			with := append(slices.Clone(l), api.Change{Key: "k", Val: noise(more, 5)})
			want, wantE := packed(with)
			if (wantE == api.OK) != (275+val+6+more <= 480) {
				t.Fatalf("%d bytes: the test's own model tells %d", 281+val+more, wantE)
			}
			packIs(t, fmt.Sprint("a Val of ", val, " and one of ", more), with, want, wantE)
		}
	}
	last := []api.Change{{Key: noise(32, 1), Val: noise(200, 2)}, {Key: noise(32, 3), Val: noise(200, 4)}, {Key: "k", Gone: true}}
	packIs(t, "479 bytes", last, bodyWith(3, last...), api.OK)
	last[2].Key = "kk"
	packIs(t, "480 bytes", last, bodyWith(3, last...), api.OK)
	if size := len(bodyWith(3, last...)); size != 480 {
		t.Fatalf("%d bytes, not 480", size)
	}
	last[2].Key = "kkk"
	packIs(t, "481 bytes", last, "", api.ErrLong)
	last[2] = api.Change{Key: "k"}
	packIs(t, "481 bytes, with an empty Val", last, "", api.ErrLong)
}

// P13.3: no bytes, 480 and 481 bytes.
func TestUnpackSize(t *testing.T) {
	unpackFails(t, "no bytes", "", api.ErrShort)
	unpackIs(t, "no changes", "\x00", nil, api.OK)
	l := []api.Change{{Key: noise(32, 1), Val: noise(200, 2)}, {Key: noise(32, 3), Val: noise(200, 4)}, {Key: "kk", Gone: true}}
	unpackIs(t, "480 bytes", bodyWith(3, l...), l, api.OK)
	l[2].Key = "kkk"
	unpackFails(t, "481 bytes", bodyWith(3, l...), api.ErrLong)
	unpackFails(t, "481 bytes that would be torn", bodyWith(4, l...), api.ErrLong)
	unpackFails(t, "480 bytes that are torn", bodyWith(3, l...)[:480], api.ErrShort)
	unpackFails(t, "480 zeros", zeros(480), api.ErrForm)
	unpackFails(t, "480 times 1", strings.Repeat("\x01", 480), api.ErrForm)
	unpackFails(t, "480 times 2", strings.Repeat("\x02", 480), api.ErrForm)
	for _, body := range longBodies() {
		unpackFails(t, "too long", body, api.ErrLong)
		unpackFails(t, "too long, no changes", "\x00"+body, api.ErrLong)
		unpackFails(t, "too long, one change and more", bodyWith(1, api.Change{Key: "a"})+body, api.ErrLong)
	}
}

// P13.3: a body that is torn at each place ends too soon; one with more bytes has some left.
func TestUnpackTorn(t *testing.T) {
	for _, l := range [][]api.Change{nil, {{Key: "a", Val: "1"}}, {{Key: "a"}}, {{Key: "a", Gone: true}}, {{Key: "ab", Gone: true}, {Key: "c", Val: "def"}, {Key: "g", Gone: true}}, allGone(119), sized(400), many(20, 9)} {
		body := bodyWith(len(l), l...)
		unpackIs(t, "whole", body, l, api.OK)
		for n := range len(body) {
			unpackFails(t, fmt.Sprint("torn at ", n), body[:n], api.ErrShort)
		}
		for _, more := range []string{"\x00", "\x01", "\x02", "x", zeros(3), "\x01\x00\x01z", "\x00\x00\x01z\x00\x00"} {
			if len(body+more) <= 480 {
				unpackFails(t, fmt.Sprintf("and %x", more), body+more, api.ErrForm)
			}
		}
	}
}

// P13.3: behind the first error nothing is read any more, from no other place either.
func TestUnpackFirstError(t *testing.T) {
	for size := 4; size <= 480; size++ {
		for _, count := range []string{"\x01", "\x02", "\xff"} {
			for _, rest := range []string{noise(480, 1), zeros(480), strings.Repeat("\x00\x01", 240), strings.Repeat("\x02", 480)} {
				unpackFails(t, "a Key that is torn", (count + "\x00\x01\xff" + rest)[:size], api.ErrShort)
				unpackFails(t, "a Key that is torn, Gone", (count + "\x01\x01\xff" + rest)[:size], api.ErrShort)
				if size >= 7 {
					unpackFails(t, "a Val that is torn", (count + "\x00\x00\x01a\x01\xff" + rest)[:size], api.ErrShort)
				}
				unpackFails(t, "a wrong byte", (count + "\x02\x00\x01a" + rest)[:size], api.ErrForm)
			}
		}
	}
}

// P13.3: a byte ahead of a change that is neither 0 nor 1, ahead of all that stands behind it.
func TestUnpackByteAhead(t *testing.T) {
	for b := range 256 {
		ahead := string([]byte{byte(b)})
		if b > 1 {
			for _, behind := range []string{"", "\x00", "\x00\x01", "\x00\x01a", "\x00\x01a\x00\x011", "\x00\x01a\x00\x011more", "\xff\xff", "\x00\x00"} {
				unpackFails(t, "the first one", "\x01"+ahead+behind, api.ErrForm)
				unpackFails(t, "the first one of many", "\xff"+ahead+behind, api.ErrForm)
				unpackFails(t, "the second one", "\x02\x01\x00\x01a"+ahead+behind, api.ErrForm)
				unpackFails(t, "behind a change that may not be", "\x02\x01\x00\x00"+ahead+behind, api.ErrForm)
			}
			// What ends too soon ahead of it comes first.
			unpackFails(t, "within a Key that is torn", "\x02\x01\x00\x05a"+ahead, api.ErrShort)
			unpackFails(t, "within a length that is torn", "\x02\x01"+ahead, api.ErrShort)
			// No change stands here: its bytes are left.
			unpackFails(t, "behind all changes", "\x01\x01\x00\x01a"+ahead, api.ErrForm)
		}
	}
	unpackIs(t, "0", "\x01\x00\x00\x01a\x00\x011", []api.Change{{Key: "a", Val: "1"}}, api.OK)
	unpackIs(t, "1", "\x01\x01\x00\x01a", []api.Change{{Key: "a", Gone: true}}, api.OK)
	unpackFails(t, "1 and a Val", "\x01\x01\x00\x01a\x00\x011", api.ErrForm)
	unpackFails(t, "0 without a Val", "\x01\x00\x00\x01a", api.ErrShort)
}

// P13.3: changes that may not be are ErrForm, behind each part that ends too soon, and beside bytes that are left.
func TestUnpackWrongChanges(t *testing.T) {
	good := api.Change{Key: "a", Val: "1"}
	some := 0
	for _, c := range wrongChanges() {
		if len(part(c)) > 400 || c.Gone && c.Val != "" { // the bytes of one that is Gone tell no Val
			continue
		}
		some++
		unpackFails(t, "alone", bodyWith(1, c), api.ErrForm)
		unpackFails(t, "the first one", bodyWith(2, c, good), api.ErrForm)
		unpackFails(t, "the last one", bodyWith(2, good, c), api.ErrForm)
		unpackFails(t, "and bytes that are left", bodyWith(1, c)+"x", api.ErrForm)
		unpackFails(t, "and a change that is torn", bodyWith(2, c, good)[:len(bodyWith(2, c, good))-1], api.ErrShort)
		unpackFails(t, "and a change that is not there", bodyWith(2, c), api.ErrShort)
		unpackFails(t, "and a wrong byte", bodyWith(2, c)+"\x02", api.ErrForm)
	}
	if some < 15 {
		t.Errorf("only %d of them have bytes", some)
	}
	for key := range 40 {
		for _, val := range []int{0, 1, 199, 200, 201, 202, 255, 256} {
			c := api.Change{Key: noise(key, 1), Val: noise(val, 2)}
			if key >= 1 && key <= 32 && val <= 200 {
				unpackIs(t, "may be", bodyWith(1, c), []api.Change{c}, api.OK)
			} else {
				unpackFails(t, "may not be", bodyWith(1, c), api.ErrForm)
			}
		}
		c := api.Change{Key: noise(key, 1), Gone: true}
		if key >= 1 && key <= 32 {
			unpackIs(t, "may be", bodyWith(1, c), []api.Change{c}, api.OK)
		} else {
			unpackFails(t, "may not be", bodyWith(1, c), api.ErrForm)
		}
	}
}

// P13.3: a number of changes that is not how many stand there: too many end too soon, too few leave bytes.
func TestUnpackCount(t *testing.T) {
	for _, l := range [][]api.Change{nil, {{Key: "a", Val: "1"}}, {{Key: "a", Gone: true}}, sized(300), allGone(119), many(30, 5)} {
		for count := range 256 {
			what := fmt.Sprint(count, " told, ", len(l), " there")
			switch {
			case count < len(l):
				unpackFails(t, what, bodyWith(count, l...), api.ErrForm)
			case count > len(l):
				unpackFails(t, what, bodyWith(count, l...), api.ErrShort)
			default:
				unpackIs(t, what, bodyWith(count, l...), l, api.OK)
			}
		}
	}
}

// P13.3, P1: all short bodies of a few bytes are unpacked as the chapter tells it; what is unpacked, packed, is the body (P13.4).
func TestUnpackAsWritten(t *testing.T) {
	letters := []byte{0, 1, 2, 3, 'a'}
	fine := 0
	for size := range 9 {
		body := make([]byte, size)
		var all func(at int)
		all = func(at int) {
			if at < size {
				for _, b := range letters {
					body[at] = b
					all(at + 1)
				}
				return
			}
			want, wantE := unpacked(string(body))
			l, e := Unpack(string(body))
			if !slices.Equal(l, want) || e != wantE {
				t.Fatalf("Unpack(%x): %s %d, want %s %d", body, show(l), e, show(want), wantE)
			}
			if e == api.OK {
				fine++
				if s, e := Pack(l...); s != string(body) || e != api.OK {
					t.Fatalf("Unpack(%x), packed: %x %d", body, s, e)
				}
			}
		}
		all(0)
	}
	if fine < 100 {
		t.Errorf("only %d of them are bodies", fine)
	}
	for size := range 500 {
		for _, s := range []string{noise(size, uint32(size)), "\x01\x00\x00\x01" + noise(size, 3), "\x03\x01" + zeros(size)} {
			want, wantE := unpacked(s)
			unpackIs(t, "noise", s, want, wantE)
		}
	}
}

// P13.3: each bit of a body turned is told as the chapter tells it.
func TestUnpackBitsTurned(t *testing.T) {
	for _, l := range [][]api.Change{nil, {{Key: "a", Val: "1"}}, {{Key: "ab", Gone: true}, {Key: "c", Val: "def"}}, sized(480), allGone(119)} {
		body := bodyWith(len(l), l...)
		for bit := range 8 * len(body) {
			s := turnBit(body, bit)
			want, wantE := unpacked(s)
			unpackIs(t, fmt.Sprint("bit ", bit), s, want, wantE)
			if wantE == api.OK {
				packIs(t, fmt.Sprint("bit ", bit), want, s, api.OK)
			}
		}
	}
}

// P13.4: changes that are packed are unpacked again, also through a record; what is unpacked, packed, is the body.
func TestPackedIsUnpacked(t *testing.T) {
	all := changes()
	for i, a := range all {
		for j, b := range all {
			l := []api.Change{a, b, all[(i*7+j*3)%len(all)]}[:1+(i+j)%3]
			body, e := Pack(l...)
			want, wantE := packed(l)
			if body != want || e != wantE {
				t.Fatalf("Pack(%s): %s %d, want %s %d", show(l), brief(body), e, brief(want), wantE)
			}
			if e != api.OK {
				continue
			}
			unpackIs(t, "packed", body, l, api.OK)
			_, told, e := Get(put(t, 5, i%8, body), 5)
			if e != api.OK {
				t.Fatalf("a record of %s: %d", brief(body), e)
			}
			unpackIs(t, "through a record", told, l, api.OK)
		}
	}
	body, _ := Pack(sized(480)...)
	l, _ := Unpack(body)
	packIs(t, "unpacked", l, body, api.OK)
}

// R4: lists with room behind them stay as they were, and what is told shares none of them.
func TestListsStay(t *testing.T) {
	l := make([]api.Change, 0, 8)
	l = append(l, api.Change{Key: "b", Val: "2"}, api.Change{Key: "a", Gone: true}, api.Change{Key: "b", Val: "1"})
	room := l[:8]
	for i := 3; i < 8; i++ {
		room[i] = api.Change{Key: "behind"}
	}
	packIs(t, "with room", l, bodyWith(3, l...), api.OK)
	packIs(t, "with room, a wrong one", append(l[:3:3], api.Change{}), "", api.ErrArg)
	body := bodyWith(3, l...)
	first, _ := Unpack(body)
	second, _ := Unpack(body)
	first[0] = api.Change{Key: "written over"}
	if !slices.Equal(second, l) {
		t.Error("two answers share a list")
	}
	blocks := make([]string, 0, 5)
	blocks = append(blocks, put(t, 7, 0, "a"), put(t, 7, 1, "b"), "")
	blocks[:5][3], blocks[:5][4] = "behind", put(t, 7, 4, "behind")
	scanIs(t, "with room", 7, blocks, "a", "b")
}

// R1: the same call, made again behind others, answers the same.
func TestKeepsNothing(t *testing.T) {
	l := []api.Change{{Key: "a", Val: "1"}, {Key: "b", Gone: true}}
	body, _ := Pack(l...)
	b := put(t, 7, 0, body)
	for _, other := range bodies() {
		Get(put(t, 9, 3, other), 9)
		Get(other, 7)
		Scan(9, put(t, 9, 0, other), b)
		Unpack(other)
		Pack(changes()...)
		Pack(wrongChanges()...)
	}
	putIs(t, 7, 0, body, b, api.OK)
	getIs(t, "behind other calls", b, 7, 0, body, api.OK)
	scanIs(t, "behind other calls", 7, []string{b, b}, body)
	packIs(t, "behind other calls", l, body, api.OK)
	unpackIs(t, "behind other calls", body, l, api.OK)
	packIs(t, "behind other calls, nothing", nil, "\x00", api.OK)
}
