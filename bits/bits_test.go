package bits

import (
	"fmt"
	"math"
	"slices"
	"strings"
	"testing"

	"penelope/api"
)

const (
	yes = true
	no  = false
)

// lengths are the edges: of bytes, and of a device's blocks.
func lengths() []int {
	return []int{0, 1, 2, 7, 8, 9, 15, 16, 17, 24, 63, 64, 65, 255, 256, 257, 2040, 2041, 2047, 2048}
}

// longer are lengths that are packed, but not unpacked.
func longer() []int { return []int{2049, 2055, 2056, 2057, 4096, 100001} }

// list is what a text of ones and zeros shows.
func list(s string) []bool {
	l := make([]bool, len(s))
	for i := range s {
		l[i] = s[i] == '1'
	}
	return l
}

func show(l []bool) string {
	if len(l) > 40 {
		return fmt.Sprint(len(l), " places")
	}
	s := ""
	for _, is := range l {
		if is {
			s += "1"
		} else {
			s += "0"
		}
	}
	return "(" + s + ")"
}

func full(n int, is bool) []bool { return slices.Repeat([]bool{is}, n) }

// noise is places that look like no pattern, the same ones each time.
func noise(n int, seed uint32) []bool {
	l := make([]bool, n)
	for i := range l {
		seed = seed*1664525 + 1013904223
		l[i] = seed>>31 == 1
	}
	return l
}

// single is a list of which one place is unlike all others.
func single(n, place int, is bool) []bool {
	l := full(n, !is)
	l[place] = is
	return l
}

// lists are some of a length.
func lists(n int) [][]bool {
	all := [][]bool{full(n, yes), full(n, no), noise(n, 1), noise(n, 2), noise(n, 3)}
	for _, place := range []int{0, 1, 6, 7, 8, 9, n - 8, n - 2, n - 1} {
		if place >= 0 && place < n {
			all = append(all, single(n, place, yes), single(n, place, no))
		}
	}
	return all
}

// packed is Pack as the chapter tells it, by adding: byte i/8 gets 2 to the power of i mod 8.
func packed(l []bool) string {
	size := len(l) / 8
	if len(l)%8 > 0 {
		size++
	}
	b := make([]byte, size)
	for i, is := range l {
		if is {
			b[i/8] += []byte{1, 2, 4, 8, 16, 32, 64, 128}[i%8]
		}
	}
	return string(b)
}

// unpacked is Unpack as the chapter tells it: of all bits the first n.
func unpacked(s string, n int) ([]bool, api.Errno) {
	if n < 0 || n > 2048 {
		return nil, api.ErrArg
	}
	var all []bool
	for _, b := range []byte(s) {
		for range 8 {
			all = append(all, b%2 == 1)
			b /= 2
		}
	}
	if len(all) < n {
		return nil, api.ErrShort
	}
	if len(all)-n >= 8 || slices.Contains(all[n:], yes) {
		return nil, api.ErrForm
	}
	return all[:n], api.OK
}

func has(l []bool, place int) bool { return place < len(l) && l[place] }

// counted goes through more places than any list has.
func counted(l ...[]bool) int {
	n := 0
	for place := range most(l) + 3 {
		all := len(l) > 0
		for _, one := range l {
			all = all && has(one, place)
		}
		if all {
			n++
		}
	}
	return n
}

func firstOf(from int, l ...[]bool) int {
	for place := range most(l) {
		if place >= from && !slices.ContainsFunc(l, func(one []bool) bool { return has(one, place) }) {
			return place
		}
	}
	return -1
}

func most(l [][]bool) int {
	n := 0
	for _, one := range l {
		n = max(n, len(one))
	}
	return n
}

func copied(l [][]bool) [][]bool {
	var c [][]bool
	for _, one := range l {
		c = append(c, slices.Clone(one))
	}
	return c
}

func same(a, b [][]bool) bool { return slices.EqualFunc(a, b, slices.Equal[[]bool]) }

func unpackIs(t *testing.T, s string, n int, want []bool, wantE api.Errno) {
	t.Helper()
	if l, e := Unpack(s, n); e != wantE || !slices.Equal(l, want) {
		t.Errorf("Unpack(%d bytes, %d): %s %d, want %s %d", len(s), n, show(l), e, show(want), wantE)
	}
}

func withIs(t *testing.T, l []bool, is bool, places []int, want []bool, wantE api.Errno) {
	t.Helper()
	before, placesBefore := slices.Clone(l), slices.Clone(places)
	got, e := With(l, is, places...)
	if e != wantE || !slices.Equal(got, want) {
		t.Errorf("With(%s, %t, %v): %s %d, want %s %d", show(l), is, places, show(got), e, show(want), wantE)
	}
	if !slices.Equal(l, before) || !slices.Equal(places, placesBefore) { // R4
		t.Errorf("With(%s, %t, %v) changed what it was handed", show(before), is, placesBefore)
	}
}

// The chapter's examples.
func TestExamples(t *testing.T) {
	if s := Pack([]bool{true, false, true}); s != "\x05" {
		t.Errorf("Pack: %q", s)
	}
	unpackIs(t, "\x05", 3, []bool{true, false, true}, api.OK)
	unpackIs(t, "\x05", 2, nil, api.ErrForm)
	if place := First(1, []bool{true, true, false}); place != 2 {
		t.Errorf("First(1, (true, true, false)): %d", place)
	}
	if place := First(0, []bool{true}); place != -1 {
		t.Errorf("First(0, (true)): %d", place)
	}
}

// P5.1

func TestPackWrittenOut(t *testing.T) {
	for _, c := range []struct{ l, want string }{
		{"", ""},
		{"0", "\x00"},
		{"1", "\x01"},
		{"01", "\x02"},
		{"0000000", "\x00"},
		{"1111111", "\x7f"},
		{"0000001", "\x40"},
		{"00000000", "\x00"},
		{"11111111", "\xff"},
		{"10000000", "\x01"},
		{"00000001", "\x80"},
		{"11110000", "\x0f"},
		{"000000001", "\x00\x01"},
		{"111111111", "\xff\x01"},
		{"100000000", "\x01\x00"},
		{"0000000010000000", "\x00\x01"},
		{"0000000000000001", "\x00\x80"},
		{"1100110000110011", "\x33\xcc"},
		{"10000000010000001", "\x01\x02\x01"},
	} {
		if s := Pack(list(c.l)); s != c.want {
			t.Errorf("Pack(%s): %q, want %q", c.l, s, c.want)
		}
		unpackIs(t, c.want, len(c.l), list(c.l), api.OK)
	}
	if s := Pack(nil); s != "" {
		t.Errorf("Pack(nil): %q", s)
	}
	if s := Pack(full(2048, yes)); s != strings.Repeat("\xff", 256) {
		t.Errorf("Pack of 2048 times true: %d bytes", len(s))
	}
	if s := Pack(full(2047, yes)); s != strings.Repeat("\xff", 255)+"\x7f" {
		t.Errorf("Pack of 2047 times true: %d bytes", len(s))
	}
	if s := Pack(full(2049, yes)); s != strings.Repeat("\xff", 256)+"\x01" {
		t.Errorf("Pack of 2049 times true: %d bytes", len(s))
	}
}

// Pack has no bound: only what is unpacked has one.
func TestPack(t *testing.T) {
	for _, n := range slices.Concat(lengths(), longer()) {
		for _, l := range lists(n) {
			before := slices.Clone(l)
			if s := Pack(l); s != packed(l) {
				t.Errorf("Pack(%s): %d bytes, want %d", show(l), len(s), len(packed(l)))
			}
			if !slices.Equal(l, before) { // R4
				t.Errorf("Pack changed %s", show(before))
			}
		}
	}
}

func TestPackOfEachPlace(t *testing.T) {
	for place := range 2048 {
		want := make([]byte, 256)
		want[place/8] = 1 << (place % 8)
		if s := Pack(single(2048, place, yes)); s != string(want) {
			t.Errorf("Pack of true at %d alone is wrong", place)
		}
		unpackIs(t, string(want), 2048, single(2048, place, yes), api.OK)
	}
}

// Each number of places, of bytes that hold just as many, one too few and one too many.
func TestUnpackOfEachLength(t *testing.T) {
	for n := range 2049 {
		l := noise(n, uint32(n))
		s := packed(l)
		unpackIs(t, s, n, l, api.OK)
		unpackIs(t, s+"\x00", n, nil, api.ErrForm)
		unpackIs(t, s+"\x01", n, nil, api.ErrForm)
		if n > 0 {
			unpackIs(t, s[:len(s)-1], n, nil, api.ErrShort)
			unpackIs(t, "", n, nil, api.ErrShort)
		}
	}
}

func TestUnpackOfWrongNumbers(t *testing.T) {
	for _, n := range []int{-1, -2, -7, -8, -9, -2048, 2049, 2050, 2056, 4096, 1 << 16, 1 << 32, math.MinInt, math.MinInt + 1, math.MinInt + 7, math.MaxInt - 7, math.MaxInt - 1, math.MaxInt} {
		for _, size := range []int{0, 1, 255, 256, 257, 300, 100000} {
			for _, b := range []string{"\x00", "\x01", "\xff"} {
				unpackIs(t, strings.Repeat(b, size), n, nil, api.ErrArg)
			}
		}
	}
	unpackIs(t, "", 0, nil, api.OK)
	unpackIs(t, strings.Repeat("\xff", 256), 2048, full(2048, yes), api.OK)
	unpackIs(t, strings.Repeat("\xff", 257), 2049, nil, api.ErrArg)
}

// A bit that is 1 beyond the n-th, each of those of the last byte.
func TestUnpackOfBitsBeyond(t *testing.T) {
	for _, n := range []int{0, 1, 2, 3, 4, 5, 6, 7, 8, 9, 14, 15, 16, 17, 2041, 2045, 2046, 2047, 2048} {
		for _, l := range lists(n) {
			s := packed(l)
			unpackIs(t, s, n, l, api.OK)
			for bit := n; bit < 8*len(s); bit++ {
				b := []byte(s)
				b[bit/8] += []byte{1, 2, 4, 8, 16, 32, 64, 128}[bit%8]
				unpackIs(t, string(b), n, nil, api.ErrForm)
			}
		}
	}
}

// Too few bytes come ahead of a bit beyond, and a wrong number ahead of both.
func TestUnpackTellsTheFirstError(t *testing.T) {
	for _, c := range []struct {
		s string
		n int
		e api.Errno
	}{
		{"", -1, api.ErrArg},
		{"\xff", -1, api.ErrArg},                         // and bits beyond
		{"", 2049, api.ErrArg},                           // and too few
		{"\xff", 2049, api.ErrArg},                       // and too few
		{strings.Repeat("\xff", 300), 2049, api.ErrArg},  // and too many
		{strings.Repeat("\xff", 257), 2049, api.ErrArg},  // and a bit beyond
		{strings.Repeat("\xff", 257), 2048, api.ErrForm}, // too many, and bits beyond
		{"\xff", 9, api.ErrShort},                        // no bit beyond those that there are
		{"\xff", 2048, api.ErrShort},
		{strings.Repeat("\xff", 255), 2041, api.ErrShort},
		{"\xff\xff", 7, api.ErrForm},
		{"\x00\x00", 7, api.ErrForm},
		{"\x00", 0, api.ErrForm},
		{"\x01", 0, api.ErrForm},
	} {
		unpackIs(t, c.s, c.n, nil, c.e)
	}
}

// All bytes of up to two bytes' length, with each number that they may be read with.
func TestUnpackAsWritten(t *testing.T) {
	texts := []string{"", "\x00\x00\x00", "\x00\x00\x01", "\xff\xff\xff"}
	for b := range 256 {
		texts = append(texts, string([]byte{byte(b)}))
		for _, other := range []byte{0, 1, 2, 0x40, 0x80, 0xff} {
			texts = append(texts, string([]byte{byte(b), other}), string([]byte{other, byte(b)}))
		}
	}
	for _, s := range texts {
		for n := -2; n < 28; n++ {
			want, wantE := unpacked(s, n)
			unpackIs(t, s, n, want, wantE)
		}
	}
}

// P5.2

func TestCount(t *testing.T) {
	for _, c := range []struct {
		l    []string
		want int
	}{
		{nil, 0},
		{[]string{""}, 0},
		{[]string{"", ""}, 0},
		{[]string{"0"}, 0},
		{[]string{"1"}, 1},
		{[]string{"101"}, 2},
		{[]string{"1111111"}, 7},
		{[]string{"1", "1"}, 1},
		{[]string{"1", "0"}, 0},
		{[]string{"1", ""}, 0},
		{[]string{"", "1"}, 0},
		{[]string{"101", "110"}, 1},
		{[]string{"110", "011", "111"}, 1},
		{[]string{"110", "011", "101"}, 0},
		{[]string{"11111", "111"}, 3},
		{[]string{"111", "11111"}, 3},
		{[]string{"11111", "1", "111"}, 1},
		{[]string{"111", "111", ""}, 0},
		{[]string{"0001", "111"}, 0},
		{[]string{"1010", "1010", "1010", "1010"}, 2},
	} {
		var l [][]bool
		for _, s := range c.l {
			l = append(l, list(s))
		}
		if n := Count(l...); n != c.want {
			t.Errorf("Count(%v): %d, want %d", c.l, n, c.want)
		}
	}
	if n := Count(nil, nil); n != 0 {
		t.Errorf("Count(nil, nil): %d", n)
	}
	if n := Count([]bool{true}, nil); n != 0 {
		t.Errorf("Count((true), nil): %d", n)
	}
	if n := Count([][]bool{}...); n != 0 {
		t.Errorf("Count(): %d", n)
	}
}

func TestCountOfOneList(t *testing.T) {
	for _, n := range slices.Concat(lengths(), longer()) {
		if got := Count(full(n, yes)); got != n {
			t.Errorf("Count of %d times true: %d", n, got)
		}
		if got := Count(full(n, no)); got != 0 {
			t.Errorf("Count of %d times false: %d", n, got)
		}
		for _, l := range lists(n) {
			if got := Count(l); got != counted(l) {
				t.Errorf("Count(%s): %d, want %d", show(l), got, counted(l))
			}
		}
	}
}

// some are lists of unlike lengths, to be handed in together.
func some() [][][]bool {
	all := [][][]bool{nil, {nil}, {nil, nil}, {nil, full(3, yes)}, {full(3, no), nil, nil}, slices.Repeat([][]bool{full(5, yes)}, 50)}
	for _, a := range []int{0, 1, 7, 8, 9, 2047, 2048, 2049} {
		for _, b := range []int{0, 1, 8, 9, 2048} {
			all = append(all, [][]bool{noise(a, 1), noise(b, 2)}, [][]bool{full(a, yes), full(b, yes)}, [][]bool{full(a, no), full(b, no)}, [][]bool{full(a, yes), noise(b, 3), full(40, yes)}, [][]bool{full(a, yes), full(b, no), noise(9, 4), noise(17, 5)})
		}
	}
	for k := range 12 {
		var l [][]bool
		for j := range k {
			l = append(l, noise(10+j*7%13, uint32(k*100+j)))
		}
		all = append(all, l)
	}
	return all
}

func TestCountOfSeveral(t *testing.T) {
	for _, l := range some() {
		before := copied(l)
		want := counted(l...)
		if n := Count(l...); n != want {
			t.Errorf("Count of %d lists: %d, want %d", len(l), n, want)
		}
		slices.Reverse(l)
		if n := Count(l...); n != want {
			t.Errorf("Count of %d lists, the last first: %d, want %d", len(l), n, want)
		}
		slices.Reverse(l)
		if !same(l, before) { // R4
			t.Errorf("Count changed one of %d lists", len(l))
		}
	}
}

// P5.3

func TestFirst(t *testing.T) {
	for _, c := range []struct {
		from int
		l    []string
		want int
	}{
		{0, nil, -1},
		{-1, nil, -1},
		{0, []string{""}, -1},
		{0, []string{"", ""}, -1},
		{0, []string{"0"}, 0},
		{0, []string{"1"}, -1},
		{1, []string{"0"}, -1},
		{-1, []string{"0"}, 0},
		{-5, []string{"10"}, 1},
		{-5, []string{"11"}, -1},
		{0, []string{"110"}, 2},
		{1, []string{"110"}, 2},
		{2, []string{"110"}, 2},
		{3, []string{"110"}, -1},
		{0, []string{"000"}, 0},
		{1, []string{"000"}, 1},
		{2, []string{"000"}, 2},
		{3, []string{"000"}, -1},
		{1, []string{"0111"}, -1},
		{0, []string{"01", "10"}, -1},
		{0, []string{"010", "100"}, 2},
		{0, []string{"010", "10"}, 2}, // the shorter one has nothing there
		{0, []string{"10", "010"}, 2},
		{0, []string{"1", "1"}, -1},
		{0, []string{"11", "1"}, -1},
		{0, []string{"1", "10"}, 1},
		{0, []string{"", "0"}, 0},
		{0, []string{"0", ""}, 0},
		{1, []string{"1", "", "100"}, 1},
		{0, []string{"1001", "0100", "0010"}, -1},
		{0, []string{"1001", "0100", "00100"}, 4},
		{2, []string{"0000", "001"}, 3},
		{4, []string{"0000", "001"}, -1},
	} {
		var l [][]bool
		for _, s := range c.l {
			l = append(l, list(s))
		}
		if place := First(c.from, l...); place != c.want {
			t.Errorf("First(%d, %v): %d, want %d", c.from, c.l, place, c.want)
		}
	}
	if place := First(0, nil, nil); place != -1 {
		t.Errorf("First(0, nil, nil): %d", place)
	}
	if place := First(0, nil, []bool{false}); place != 0 {
		t.Errorf("First(0, nil, (false)): %d", place)
	}
}

func TestFirstOfOneFreePlace(t *testing.T) {
	for _, n := range slices.Concat(lengths(), longer()) {
		for _, place := range []int{0, 1, 7, 8, n / 2, n - 2, n - 1} {
			if place < 0 || place >= n {
				continue
			}
			l := single(n, place, no)
			for _, c := range []struct{ from, want int }{
				{math.MinInt, place}, {-1, place}, {0, place}, {place - 1, place}, {place, place},
				{place + 1, -1}, {n, -1}, {n + 1, -1}, {math.MaxInt, -1},
			} {
				if got := First(c.from, l); got != c.want {
					t.Errorf("First(%d, %d places, %d alone false): %d, want %d", c.from, n, place, got, c.want)
				}
			}
		}
	}
}

func TestFirstOfSeveral(t *testing.T) {
	for _, l := range some() {
		before := copied(l)
		n := most(l)
		for _, from := range []int{math.MinInt, math.MinInt + 1, -2049, -2, -1, 0, 1, 2, 7, 8, 9, n / 2, n - 2, n - 1, n, n + 1, 2047, 2048, 2049, math.MaxInt - 1, math.MaxInt} {
			want := firstOf(from, l...)
			if got := First(from, l...); got != want {
				t.Errorf("First(%d) of %d lists: %d, want %d", from, len(l), got, want)
			}
		}
		if !same(l, before) { // R4
			t.Errorf("First changed one of %d lists", len(l))
		}
	}
}

// What First tells from one place behind the last it told, again and again, is all places that are free.
func TestFirstGoesThroughAll(t *testing.T) {
	a, b := noise(2048, 1), noise(2000, 2)
	told := 0
	for place := First(0, a, b); place != -1; place = First(place+1, a, b) {
		if a[place] || has(b, place) {
			t.Fatalf("place %d is true in one", place)
		}
		told++
	}
	free := 0
	for i := range a {
		if !a[i] && !has(b, i) {
			free++
		}
	}
	if told != free || free == 0 {
		t.Errorf("%d places told, of %d", told, free)
	}
}

// Many lists beside a long one are gone through in as many steps as they have places together.
func TestManyListsBesideALongOne(t *testing.T) {
	l := make([][]bool, 1<<20)
	l[7] = full(1<<20, yes)
	l[9] = single(1<<20, 5, yes)
	if place := First(0, l...); place != -1 {
		t.Errorf("First: %d", place)
	}
	if n := Count(l...); n != 0 {
		t.Errorf("Count: %d", n)
	}
	l[7] = single(1<<20, 1<<20-1, no)
	if place := First(0, l...); place != 1<<20-1 {
		t.Errorf("First: %d", place)
	}
}

// P5.4

func TestWith(t *testing.T) {
	for _, c := range []struct {
		l      string
		is     bool
		places []int
		want   string
	}{
		{"", yes, nil, ""},
		{"", no, []int{}, ""},
		{"0", yes, nil, "0"},
		{"1", no, nil, "1"},
		{"0", yes, []int{0}, "1"},
		{"1", yes, []int{0}, "1"},
		{"1", no, []int{0}, "0"},
		{"0", no, []int{0}, "0"},
		{"101", yes, []int{1}, "111"},
		{"101", no, []int{1}, "101"},
		{"101", no, []int{2}, "100"},
		{"101", no, []int{0, 2}, "000"},
		{"101", no, []int{2, 0}, "000"},
		{"000", yes, []int{1, 1}, "010"}, // twice is as once: nothing is turned
		{"111", no, []int{1, 1}, "101"},
		{"000", yes, []int{2, 1, 0, 1, 2}, "111"},
		{"00000000", yes, []int{7}, "00000001"},
		{"000000000", yes, []int{8, 0}, "100000001"},
	} {
		withIs(t, list(c.l), c.is, c.places, list(c.want), api.OK)
	}
	withIs(t, nil, yes, nil, nil, api.OK)
}

func TestWithOfPlacesThatThereAreNot(t *testing.T) {
	for _, n := range []int{0, 1, 2, 7, 8, 9, 2047, 2048, 2049} {
		l := noise(n, 1)
		for _, place := range []int{-1, -2, -8, n, n + 1, n + 8, math.MinInt, math.MinInt + 1, math.MaxInt - 1, math.MaxInt} {
			for _, is := range []bool{yes, no} {
				withIs(t, l, is, []int{place}, nil, api.ErrArg)
				if n > 0 { // wherever among the others it stands
					withIs(t, l, is, []int{0, place}, nil, api.ErrArg)
					withIs(t, l, is, []int{place, n - 1}, nil, api.ErrArg)
					withIs(t, l, is, []int{0, place, 0}, nil, api.ErrArg)
				}
			}
		}
	}
	withIs(t, nil, yes, []int{0}, nil, api.ErrArg)
	withIs(t, nil, yes, []int{-1}, nil, api.ErrArg)
}

func TestWithOfEachPlace(t *testing.T) {
	for _, n := range []int{1, 2, 7, 8, 9, 256, 2047, 2048, 2049} {
		for place := 0; place < n; place += 1 + place/30 {
			withIs(t, full(n, no), yes, []int{place}, single(n, place, yes), api.OK)
			withIs(t, full(n, yes), no, []int{place}, single(n, place, no), api.OK)
		}
		withIs(t, full(n, no), yes, []int{n - 1}, single(n, n-1, yes), api.OK)
		var all []int
		for place := range n {
			all = append(all, place)
		}
		withIs(t, noise(n, 1), yes, all, full(n, yes), api.OK)
		withIs(t, noise(n, 2), no, all, full(n, no), api.OK)
	}
}

// What is answered is a list of its own: neither it nor what was handed in changes with the other.
func TestWithSharesNothing(t *testing.T) {
	room := make([]bool, 3, 100)
	for _, places := range [][]int{nil, {}, {1}, {0, 1, 2}} {
		got, e := With(room, no, places...)
		if e != api.OK || len(got) != 3 {
			t.Fatalf("With(3 places, %v): %s %d", places, show(got), e)
		}
		for i := range got {
			got[i] = yes
		}
		_ = append(got, yes)
		if slices.Contains(room[:100], yes) {
			t.Errorf("With(3 places, %v) shares what it was handed", places)
		}
	}
	s := packed(full(16, no))
	a, _ := Unpack(s, 16)
	b, _ := Unpack(s, 16)
	a[3] = yes
	if b[3] {
		t.Error("two that are unpacked share their places")
	}
}

// P5.5

func TestWhatIsPackedIsUnpacked(t *testing.T) {
	for _, n := range lengths() {
		for _, l := range lists(n) {
			unpackIs(t, Pack(l), n, l, api.OK)
			if n+8 <= 2048 {
				unpackIs(t, Pack(l), n+8, nil, api.ErrShort)
			}
		}
	}
	for _, n := range longer() { // more places than are unpacked
		unpackIs(t, Pack(full(n, no)), n, nil, api.ErrArg)
	}
}

func TestWhatIsUnpackedIsPacked(t *testing.T) {
	tried := 0
	for n := range 2049 {
		for seed := range uint32(3) {
			b := []byte(packed(noise((n+7)/8*8, seed+uint32(n))))
			if n%8 > 0 && seed > 0 {
				b[len(b)-1] &= 1<<(n%8) - 1
			}
			l, e := Unpack(string(b), n)
			if e != api.OK {
				continue
			}
			tried++
			if s := Pack(l); s != string(b) {
				t.Errorf("%d places: packed again %q, were %q", n, s, b)
			}
		}
	}
	if tried < 4000 {
		t.Errorf("only %d were unpacked", tried)
	}
	for b := range 256 {
		s := string([]byte{byte(b)})
		for n := range 9 {
			if l, e := Unpack(s, n); e == api.OK && (len(l) != n || Pack(l) != s) {
				t.Errorf("Unpack(%q, %d): %s", s, n, show(l))
			}
		}
	}
}

// P1, R1, R2: every call ends, answers the same each time, behind whatever others, and beside an error all else is zero.
func TestNoCallPanics(t *testing.T) {
	numbers := []int{math.MinInt, math.MinInt + 1, -2049, -8, -1, 0, 1, 7, 8, 9, 2047, 2048, 2049, math.MaxInt - 1, math.MaxInt}
	all := [][]bool{nil, {}, {true}, {false}, noise(7, 1), noise(8, 2), noise(9, 3), noise(2048, 4), noise(2049, 5), noise(1<<16, 6)}
	for _, l := range all {
		s := Pack(l)
		for _, n := range numbers {
			m, e := Unpack(s, n)
			again, f := Unpack(s, n)
			if e != f || !slices.Equal(m, again) || e != api.OK && m != nil {
				t.Errorf("Unpack(%d bytes, %d): %s %d, %s %d", len(s), n, show(m), e, show(again), f)
			}
			m, e = With(l, n%2 == 0, n, 0, n)
			again, f = With(l, n%2 == 0, n, 0, n)
			if e != f || !slices.Equal(m, again) || e != api.OK && m != nil {
				t.Errorf("With(%s, .., %d, 0, %d): %s %d, %s %d", show(l), n, n, show(m), e, show(again), f)
			}
			for _, other := range all {
				if place := First(n, l, other); place < -1 || place >= max(len(l), len(other)) || place != First(n, l, other) {
					t.Errorf("First(%d, %s, %s): %d", n, show(l), show(other), place)
				}
			}
		}
		for _, other := range all {
			if n := Count(l, other); n < 0 || n > min(len(l), len(other)) || n != Count(other, l) {
				t.Errorf("Count(%s, %s): %d", show(l), show(other), n)
			}
		}
		if Pack(l) != s {
			t.Errorf("Pack(%s) answers otherwise behind other calls", show(l))
		}
	}
}
