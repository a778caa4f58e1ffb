package code

import (
	"math"
	"slices"
	"strings"
	"testing"

	"penelope/api"
)

// lowest and highest are arguments at which careless sums and shifts go wrong.
const (
	lowest  = math.MinInt
	highest = math.MaxInt
)

func short(s string) string {
	if len(s) > 20 {
		return s[:20] + ".."
	}
	return s
}

// P1.1

func TestPut(t *testing.T) {
	for _, c := range []struct {
		n, size int
		want    string
		err     api.Errno
	}{
		{258, 2, "\x01\x02", api.OK},
		{256, 1, "", api.ErrArg},
		{0, 1, "\x00", api.OK},
		{255, 1, "\xff", api.OK},
		{0, 6, "\x00\x00\x00\x00\x00\x00", api.OK},
		{5, 4, "\x00\x00\x00\x05", api.OK},
		{65535, 2, "\xff\xff", api.OK},
		{65536, 2, "", api.ErrArg},
		{65536, 3, "\x01\x00\x00", api.OK},
		{0x010203040506, 6, "\x01\x02\x03\x04\x05\x06", api.OK},
		{1<<48 - 1, 6, "\xff\xff\xff\xff\xff\xff", api.OK},
		{1 << 48, 6, "", api.ErrArg},
		{highest, 6, "", api.ErrArg},
		{-1, 1, "", api.ErrArg},
		{-1, 6, "", api.ErrArg},
		{lowest, 6, "", api.ErrArg},
		{0, 0, "", api.ErrArg},
		{1, 0, "", api.ErrArg},
		{0, 7, "", api.ErrArg},
		{1, 7, "", api.ErrArg},
		{1, 8, "", api.ErrArg},
		{0, -1, "", api.ErrArg},
		{0, lowest, "", api.ErrArg},
		{0, highest, "", api.ErrArg},
		{highest, highest, "", api.ErrArg},
		{lowest, lowest, "", api.ErrArg},
	} {
		if s, e := Put(c.n, c.size); s != c.want || e != c.err {
			t.Errorf("Put(%d, %d) = %x, %d; want %x, %d", c.n, c.size, s, e, c.want, c.err)
		}
	}
}

func TestPutAtTheEdgeOfEachSize(t *testing.T) {
	for size := 1; size <= 6; size++ {
		above := 1 << (8 * size)
		if s, e := Put(above-1, size); s != strings.Repeat("\xff", size) || e != api.OK {
			t.Errorf("Put(%d, %d) = %x, %d", above-1, size, s, e)
		}
		if s, e := Put(above, size); s != "" || e != api.ErrArg {
			t.Errorf("Put(%d, %d) = %x, %d", above, size, s, e)
		}
		if s, e := Put(-1, size); s != "" || e != api.ErrArg {
			t.Errorf("Put(-1, %d) = %x, %d", size, s, e)
		}
	}
}

func TestText(t *testing.T) {
	long := strings.Repeat("x", 65535)
	for _, c := range []struct {
		s, want string
		err     api.Errno
	}{
		{"ab", "\x00\x02ab", api.OK},
		{"", "\x00\x00", api.OK},
		{"\x00", "\x00\x01\x00", api.OK},
		{"\xff\xfe", "\x00\x02\xff\xfe", api.OK},
		{strings.Repeat("y", 255), "\x00\xff" + strings.Repeat("y", 255), api.OK},
		{strings.Repeat("y", 256), "\x01\x00" + strings.Repeat("y", 256), api.OK},
		{long, "\xff\xff" + long, api.OK},
		{long + "x", "", api.ErrLong},
		{long + long, "", api.ErrLong},
	} {
		if s, e := Text(c.s); s != c.want || e != c.err {
			t.Errorf("Text(%d bytes) = %d bytes %x, %d; want %d bytes, %d", len(c.s), len(s), short(s), e, len(c.want), c.err)
		}
	}
}

func TestAll(t *testing.T) {
	for _, c := range []struct {
		parts []string
		want  string
	}{
		{nil, ""},
		{[]string{}, ""},
		{[]string{""}, ""},
		{[]string{"a"}, "a"},
		{[]string{"a", "", "\x00", "bc"}, "a\x00bc"},
		{[]string{"b", "a", "b"}, "bab"},
		{[]string{"\xff", "\xfe\x00"}, "\xff\xfe\x00"},
	} {
		before := slices.Clone(c.parts)
		if s := All(c.parts...); s != c.want {
			t.Errorf("All(%q) = %q; want %q", c.parts, s, c.want)
		}
		if !slices.Equal(before, c.parts) {
			t.Errorf("All changed its parts: %q, %q", before, c.parts)
		}
	}
	if s := All(); s != "" {
		t.Errorf("All() = %q", s)
	}
	if s := All(slices.Repeat([]string{"ab"}, 100000)...); s != strings.Repeat("ab", 100000) {
		t.Errorf("All of many parts has %d bytes", len(s))
	}
}

// P1.2

func TestGet(t *testing.T) {
	for _, c := range []struct {
		s        string
		at, size int
		n, end   int
		err      api.Errno
	}{
		{"\x01\x02\x03", 1, 2, 515, 3, api.OK},
		{"\x01\x02\x03", 0, 1, 1, 1, api.OK},
		{"\x01\x02\x03", 0, 3, 0x010203, 3, api.OK},
		{"\x01\x02\x03", 2, 1, 3, 3, api.OK},
		{"\x00\x00\x07", 0, 3, 7, 3, api.OK},
		{"\x01\x02\x03\x04\x05\x06\x07", 0, 6, 0x010203040506, 6, api.OK},
		{"\x01\x02\x03\x04\x05\x06\x07", 1, 6, 0x020304050607, 7, api.OK},
		{"\xff\xff\xff\xff\xff\xff", 0, 6, 1<<48 - 1, 6, api.OK},
		// too few bytes from a place that there is, the end among them
		{"\x01\x02\x03", 2, 2, 0, 0, api.ErrShort},
		{"\x01\x02\x03", 0, 4, 0, 0, api.ErrShort},
		{"\x01\x02\x03", 3, 1, 0, 0, api.ErrShort},
		{"\x01\x02\x03", 3, 6, 0, 0, api.ErrShort},
		{"", 0, 1, 0, 0, api.ErrShort},
		{"", 0, 6, 0, 0, api.ErrShort},
		// places that there are not
		{"\x01\x02\x03", 4, 1, 0, 0, api.ErrArg},
		{"\x01\x02\x03", -1, 1, 0, 0, api.ErrArg},
		{"\x01\x02\x03", highest, 1, 0, 0, api.ErrArg},
		{"\x01\x02\x03", highest, 6, 0, 0, api.ErrArg},
		{"\x01\x02\x03", lowest, 6, 0, 0, api.ErrArg},
		{"", 1, 1, 0, 0, api.ErrArg},
		{"", -1, 1, 0, 0, api.ErrArg},
		// sizes that there are not; ErrArg comes ahead of ErrShort
		{"\x01\x02\x03", 0, 0, 0, 0, api.ErrArg},
		{"\x01\x02\x03", 3, 0, 0, 0, api.ErrArg},
		{"\x01\x02\x03", 0, 7, 0, 0, api.ErrArg},
		{"\x01\x02\x03\x04\x05\x06\x07\x08", 0, 7, 0, 0, api.ErrArg},
		{"\x01\x02\x03", 0, -1, 0, 0, api.ErrArg},
		{"\x01\x02\x03", 3, 7, 0, 0, api.ErrArg},
		{"\x01\x02\x03", 1, highest, 0, 0, api.ErrArg},
		{"\x01\x02\x03", 1, lowest, 0, 0, api.ErrArg},
	} {
		if n, end, e := Get(c.s, c.at, c.size); n != c.n || end != c.end || e != c.err {
			t.Errorf("Get(%x, %d, %d) = %d, %d, %d; want %d, %d, %d", c.s, c.at, c.size, n, end, e, c.n, c.end, c.err)
		}
	}
}

func TestCut(t *testing.T) {
	long := strings.Repeat("z", 65535)
	for _, c := range []struct {
		s    string
		at   int
		want string
		end  int
		err  api.Errno
	}{
		{"x\x00\x02abc", 1, "ab", 5, api.OK},
		{"\x00\x02ab", 0, "ab", 4, api.OK},
		{"\x00\x00", 0, "", 2, api.OK},
		{"ab\x00\x00", 2, "", 4, api.OK},
		{"\x00\x01\x00", 0, "\x00", 3, api.OK},
		{"\x01\x00" + long, 0, long[:256], 258, api.OK},
		{"\xff\xff" + long, 0, long, 65537, api.OK},
		{"\xff\xff" + long + "z", 0, long, 65537, api.OK},
		// no two bytes of a length
		{"", 0, "", 0, api.ErrShort},
		{"\x00", 0, "", 0, api.ErrShort},
		{"\x00\x00", 1, "", 0, api.ErrShort},
		{"\x00\x00", 2, "", 0, api.ErrShort},
		// fewer bytes than the length says
		{"\x00\x01", 0, "", 0, api.ErrShort},
		{"\x00\x03ab", 0, "", 0, api.ErrShort},
		{"\xff\xff" + long[1:], 0, "", 0, api.ErrShort},
		// places that there are not
		{"\x00\x00", 3, "", 0, api.ErrArg},
		{"\x00\x02ab", -1, "", 0, api.ErrArg},
		{"", 1, "", 0, api.ErrArg},
		{"\x00\x02ab", highest, "", 0, api.ErrArg},
		{"\x00\x02ab", lowest, "", 0, api.ErrArg},
	} {
		if s, end, e := Cut(c.s, c.at); s != c.want || end != c.end || e != c.err {
			t.Errorf("Cut(%d bytes %x, %d) = %x, %d, %d; want %x, %d, %d", len(c.s), short(c.s), c.at, short(s), end, e, short(c.want), c.end, c.err)
		}
	}
}

// P1.3

func TestTrim(t *testing.T) {
	for _, c := range []struct{ s, want string }{
		{"a\x00\x00", "a"},
		{"", ""},
		{"\x00", ""},
		{strings.Repeat("\x00", 5000), ""},
		{"a", "a"},
		{"a0", "a0"},
		{"a ", "a "},
		{"\x00a", "\x00a"},
		{"\x00a\x00b\x00", "\x00a\x00b"},
		{"\xff\x00", "\xff"},
		{"\xc3\x00", "\xc3"},
		{"a\x01\x00", "a\x01"},
	} {
		if s := Trim(c.s); s != c.want {
			t.Errorf("Trim(%x) = %x; want %x", short(c.s), short(s), c.want)
		}
	}
}

func TestPad(t *testing.T) {
	block := strings.Repeat("b", 4096)
	for _, c := range []struct {
		s    string
		size int
		want string
		err  api.Errno
	}{
		{"a", 3, "a\x00\x00", api.OK},
		{"a", 1, "a", api.OK},
		{"", 0, "", api.OK},
		{"", 2, "\x00\x00", api.OK},
		{"a\x00", 3, "a\x00\x00", api.OK},
		{"", 4096, strings.Repeat("\x00", 4096), api.OK},
		{"a", 4096, "a" + strings.Repeat("\x00", 4095), api.OK},
		{block, 4096, block, api.OK},
		{"a", 0, "", api.ErrLong},
		{"ab", 1, "", api.ErrLong},
		{"a\x00", 1, "", api.ErrLong},
		{block, 4095, "", api.ErrLong},
		{block + "b", 4096, "", api.ErrLong},
		{"", 4097, "", api.ErrArg},
		{"a", 4097, "", api.ErrArg},
		{"", -1, "", api.ErrArg},
		{"", highest, "", api.ErrArg},
		{"", lowest, "", api.ErrArg},
		// too long as well: ErrArg comes first
		{"a", -1, "", api.ErrArg},
		{block + "bb", 4097, "", api.ErrArg},
	} {
		if s, e := Pad(c.s, c.size); s != c.want || e != c.err {
			t.Errorf("Pad(%d bytes, %d) = %d bytes %x, %d; want %d bytes, %d", len(c.s), c.size, len(s), short(s), e, len(c.want), c.err)
		}
	}
}

// P1.4

// surroundings are texts that may stand ahead of and behind what is put.
func surroundings() []string {
	return []string{"", "\x00", "\xff", "\x00\x02ab", strings.Repeat("\x00", 9), strings.Repeat("q\xff", 300)}
}

func TestWhatIsPutIsGot(t *testing.T) {
	for size := 1; size <= 6; size++ {
		top := 1<<(8*size) - 1
		for _, n := range []int{0, 1, 2, 127, 128, 255, top / 3, top / 2, top/2 + 1, top - 1, top} {
			put, e := Put(n, size)
			if len(put) != size || e != api.OK {
				t.Fatalf("Put(%d, %d) = %x, %d", n, size, put, e)
			}
			for _, ahead := range surroundings() {
				for _, behind := range surroundings() {
					got, end, e := Get(All(ahead, put, behind), len(ahead), size)
					if got != n || end != len(ahead)+size || e != api.OK {
						t.Errorf("%d in %d bytes behind %d bytes: %d, %d, %d", n, size, len(ahead), got, end, e)
					}
				}
			}
		}
	}
}

func TestWhatIsGotIsPut(t *testing.T) {
	s := "\x00\x01\x7f\x80\xff\x00\x00\x00\x00\x00\x00\xff\xff\xff\xff\xff\xff"
	for size := 1; size <= 6; size++ {
		for at := 0; at+size <= len(s); at++ {
			n, end, e := Get(s, at, size)
			if end != at+size || e != api.OK {
				t.Fatalf("Get at %d, %d bytes: %d, %d", at, size, end, e)
			}
			if put, e := Put(n, size); put != s[at:end] || e != api.OK {
				t.Errorf("at %d, %d bytes: %x, %d", at, size, put, e)
			}
		}
	}
}

func TestTextIsCut(t *testing.T) {
	for _, s := range append(surroundings(), strings.Repeat("w", 255), strings.Repeat("w", 256), strings.Repeat("\x00", 65535)) {
		text, e := Text(s)
		if e != api.OK {
			t.Fatal(e)
		}
		for _, ahead := range surroundings() {
			for _, behind := range surroundings() {
				got, end, e := Cut(All(ahead, text, behind), len(ahead))
				if got != s || end != len(ahead)+2+len(s) || e != api.OK {
					t.Errorf("a text of %d bytes behind %d bytes: %d bytes, %d, %d", len(s), len(ahead), len(got), end, e)
				}
			}
		}
	}
}

func TestWhatIsTrimmedIsPaddedAgain(t *testing.T) {
	for _, s := range append(surroundings(), "a\x00", "a\x00b\x00\x00", strings.Repeat("\x00", 4096), strings.Repeat("c", 4096), "d"+strings.Repeat("\x00", 4095)) {
		if got, e := Pad(Trim(s), len(s)); got != s || e != api.OK {
			t.Errorf("%d bytes %x: %d bytes, %d", len(s), short(s), len(got), e)
		}
	}
}

// P1, R2: at all arguments every call ends, and beside an error all else is zero.
func TestNoCallPanics(t *testing.T) {
	numbers := []int{lowest, lowest + 1, -1 << 48, -256, -1, 0, 1, 2, 3, 5, 6, 7, 8, 63, 64, 255, 256, 4095, 4096, 4097, 65535, 65536, 1<<48 - 1, 1 << 48, highest - 1, highest}
	texts := append(surroundings(), "\xff\xff", strings.Repeat("\xff", 4097), strings.Repeat("v", 65536))
	for _, a := range numbers {
		for _, b := range numbers {
			if s, e := Put(a, b); (e == api.OK) != (len(s) != 0) {
				t.Errorf("Put(%d, %d) = %x, %d", a, b, s, e)
			}
			for _, s := range texts {
				n, end, e := Get(s, a, b)
				if e != api.OK && (n != 0 || end != 0) || e == api.OK && end != a+b {
					t.Errorf("Get(%d bytes, %d, %d) = %d, %d, %d", len(s), a, b, n, end, e)
				}
			}
		}
		for _, s := range texts {
			cut, end, e := Cut(s, a)
			if e != api.OK && (cut != "" || end != 0) || e == api.OK && end != a+2+len(cut) {
				t.Errorf("Cut(%d bytes, %d) = %d bytes, %d, %d", len(s), a, len(cut), end, e)
			}
			padded, e := Pad(s, a)
			if e != api.OK && padded != "" || e == api.OK && len(padded) != a {
				t.Errorf("Pad(%d bytes, %d) = %d bytes, %d", len(s), a, len(padded), e)
			}
		}
	}
}
