package node

import (
	"fmt"
	"math"
	"reflect"
	"slices"
	"strings"
	"testing"

	"penelope/api"
)

const (
	lowest  = math.MinInt
	highest = math.MaxInt
)

// Nodes to be asked about.

// letters is so many keys that rise, from this letter on.
func letters(from byte, n int) []string {
	l := make([]string, n)
	for i := range l {
		l[i] = string([]byte{from + byte(i)})
	}
	return l
}

// leafOf has the value v and the key for each key.
func leafOf(keys ...string) api.Node {
	n := api.Node{Leaf: true, Keys: keys}
	for _, key := range keys {
		n.Vals = append(n.Vals, "v"+key)
	}
	return n
}

// innerOf has the children first, first + 1 and so on.
func innerOf(first int, keys ...string) api.Node {
	n := api.Node{Keys: keys}
	for i := range len(keys) + 1 {
		n.Kids = append(n.Kids, first+i)
	}
	return n
}

func withVals(n api.Node, vals ...string) api.Node {
	n.Vals = vals
	return n
}

func withKids(n api.Node, kids ...int) api.Node {
	n.Kids = kids
	return n
}

func copied(n api.Node) api.Node {
	return api.Node{Leaf: n.Leaf, Keys: slices.Clone(n.Keys), Vals: slices.Clone(n.Vals), Kids: slices.Clone(n.Kids)}
}

// same holds nodes against one another: a nil list is an empty one (R3).
func same(a, b api.Node) bool {
	return a.Leaf == b.Leaf && slices.Equal(a.Keys, b.Keys) && slices.Equal(a.Vals, b.Vals) && slices.Equal(a.Kids, b.Kids)
}

func zero(n api.Node) bool { return same(n, api.Node{}) }

func brief(s string) string {
	if len(s) > 60 {
		return fmt.Sprintf("%d bytes %x..", len(s), s[:60])
	}
	return fmt.Sprintf("%x", s)
}

func show(n api.Node) string {
	s := fmt.Sprintf("%t %q %q %d", n.Leaf, n.Keys[:min(len(n.Keys), 12)], n.Vals[:min(len(n.Vals), 12)], n.Kids[:min(len(n.Kids), 12)])
	return fmt.Sprintf("(%.300s; %d keys, %d values, %d children)", s, len(n.Keys), len(n.Vals), len(n.Kids))
}

// The chapter's words, said one by one.

func stands(n api.Node) bool {
	if len(n.Keys) > 9 {
		return false
	}
	for i, key := range n.Keys {
		if len(key) < 1 || len(key) > 32 {
			return false
		}
		if i > 0 && !below(n.Keys[i-1], key) {
			return false
		}
	}
	for _, val := range n.Vals {
		if len(val) > 200 {
			return false
		}
	}
	for _, kid := range n.Kids {
		if kid < 10 || kid > 2047 {
			return false
		}
	}
	if n.Leaf {
		return len(n.Vals) == len(n.Keys) && len(n.Kids) == 0
	}
	return len(n.Vals) == 0 && len(n.Keys) >= 1 && len(n.Kids) == len(n.Keys)+1
}

// below is whether a stands ahead of b, byte by byte.
func below(a, b string) bool {
	for i := 0; i < len(a) && i < len(b); i++ {
		if a[i] != b[i] {
			return int(a[i]) < int(b[i])
		}
	}
	return len(a) < len(b)
}

func mayBe(n api.Node, root bool) bool {
	return stands(n) && len(n.Keys) <= 8 && (root || len(n.Keys) >= 4)
}

func two(n int) string { return string([]byte{byte(n / 256), byte(n % 256)}) }

// bytesOf is a node's bytes, whether it may be or not; rows that are too short count as zeros.
func bytesOf(n api.Node) string {
	s := string([]byte{byte(len(n.Keys))})
	for i := 0; n.Leaf && i < len(n.Keys); i++ {
		val := ""
		if i < len(n.Vals) {
			val = n.Vals[i]
		}
		s += two(len(n.Keys[i])) + n.Keys[i] + two(len(val)) + val
	}
	for i := 0; !n.Leaf && i < len(n.Kids); i++ {
		s += two(n.Kids[i])
		if i < len(n.Keys) {
			s += two(len(n.Keys[i])) + n.Keys[i]
		}
	}
	return s
}

func putOf(n api.Node) (string, api.Errno) {
	if !mayBe(n, true) {
		return "", api.ErrArg
	}
	return bytesOf(n), api.OK
}

// getOf takes bytes off the front of what is left.
func getOf(kind int, body string) (api.Node, api.Errno) {
	if kind != 1 && kind != 2 {
		return api.Node{}, api.ErrTree
	}
	short := false
	take := func(size int) string {
		if short || len(body) < size {
			short = true
			return strings.Repeat("\x00", size)
		}
		s := body[:size]
		body = body[size:]
		return s
	}
	num := func() int { s := take(2); return int(s[0])*256 + int(s[1]) }
	n := api.Node{Leaf: kind == 1}
	count := int(take(1)[0])
	for i := 0; i < count && !short; i++ {
		if kind == 1 {
			n.Keys = append(n.Keys, take(num()))
			n.Vals = append(n.Vals, take(num()))
		} else {
			n.Kids = append(n.Kids, num())
			n.Keys = append(n.Keys, take(num()))
		}
	}
	if kind == 2 {
		n.Kids = append(n.Kids, num())
	}
	if short {
		return api.Node{}, api.ErrShort
	}
	if body != "" || !mayBe(n, true) {
		return api.Node{}, api.ErrForm
	}
	return n, api.OK
}

func findOf(n api.Node, key string) (int, bool) {
	if !stands(n) {
		return 0, false
	}
	for i, k := range n.Keys {
		if !below(k, key) {
			return i, k == key
		}
	}
	return len(n.Keys), false
}

func kidOf(n api.Node, key string) int {
	count := 0
	if n.Leaf || !stands(n) {
		return 0
	}
	for _, k := range n.Keys {
		if !below(key, k) {
			count++
		}
	}
	return count
}

func joinOf(a api.Node, key string, b api.Node) (api.Node, api.Errno) {
	n := copied(a)
	if !a.Leaf {
		n.Keys = append(n.Keys, key)
	}
	n.Keys = append(n.Keys, b.Keys...)
	n.Vals = append(n.Vals, b.Vals...)
	n.Kids = append(n.Kids, b.Kids...)
	if !stands(a) || !stands(b) || a.Leaf != b.Leaf || !stands(n) {
		return api.Node{}, api.ErrArg
	}
	return n, api.OK
}

// Rows of nodes.

// unlikeKeys are keys that rise where careless holding against one another would have them fall.
func unlikeKeys() [][]string {
	long := strings.Repeat("k", 31)
	return [][]string{
		{"\x00", "\x00\x00", "\x00\x01", "\x01"},
		{"a", "aa", "ab", "b"},
		{"a", "a\x00", "a\x00\x00", "a\x01"},
		{"A", "Z", "a", "z"},
		{"1", "10", "2", "9"},
		{"\x7e", "\x7f", "\x80", "\x81"},
		{"a\x7f", "a\x80", "a\xff", "b"},
		{"\x7f", "\x7f\xff", "\x80", "\x80\x00", "\xff", "\xff\x00", "\xff\xff"},
		{"z", "\xc3\xa9", "\xe2\x82\xac", "\xff"},
		{long, long + "\x00", long + "\x7f", long + "\x80", long + "\xff"},
		{strings.Repeat("\x00", 31), strings.Repeat("\x00", 32), strings.Repeat("\xff", 31), strings.Repeat("\xff", 32)},
	}
}

// standing are nodes that may stand, of 9 keys among them.
func standing() []api.Node {
	l := []api.Node{
		{Leaf: true, Keys: []string{}, Vals: []string{}, Kids: []int{}},
		{Keys: []string{"m"}, Vals: []string{}, Kids: []int{10, 11}},
		withVals(leafOf("a"), ""),
		withVals(leafOf("a"), strings.Repeat("w", 200)),
		withVals(leafOf("a", "b"), strings.Repeat("\x00", 200), ""),
		withVals(leafOf("a", "b"), "z", "y"),
		withVals(leafOf("a", "b"), "y", "y"),
		leafOf(strings.Repeat("x", 32)),
		innerOf(10, strings.Repeat("x", 32)),
		withKids(innerOf(10, "m"), 10, 10),
		withKids(innerOf(10, "m"), 2047, 10),
		withKids(innerOf(10, "m"), 2047, 2047),
		withKids(innerOf(10, "m"), 255, 256),
		withKids(innerOf(10, "c", "d"), 300, 12, 1024),
	}
	for n := range 10 {
		l = append(l, leafOf(letters('b', n)...))
		if n > 0 {
			l = append(l, innerOf(10, letters('b', n)...), innerOf(2047-n, letters('b', n)...))
		}
	}
	for _, keys := range unlikeKeys() {
		l = append(l, leafOf(keys...), innerOf(500, keys...))
	}
	full := leafOf(letters('a', 8)...)
	for i := range full.Keys {
		full.Keys[i] += strings.Repeat("\xff", 31)
		full.Vals[i] = strings.Repeat(string([]byte{byte(i)}), 200)
	}
	return append(l, full)
}

// fallen are nodes that may not stand.
func fallen() []api.Node {
	long := strings.Repeat("x", 33)
	l := []api.Node{
		{},
		{Keys: []string{"a"}},
		{Kids: []int{10}},
		{Kids: []int{10, 11}},
		{Vals: []string{"a"}},
		{Leaf: true, Vals: []string{"1"}},
		{Leaf: true, Kids: []int{10}},
		{Leaf: true, Keys: []string{"a"}},
		{Leaf: true, Keys: []string{"a"}, Kids: []int{10, 11}},
		leafOf(""), innerOf(10, ""),
		leafOf("", "a"), innerOf(10, "", "a"),
		leafOf(long), innerOf(10, long),
		leafOf("a", "b", "c", long), innerOf(10, "a", "b", "c", long),
		leafOf(strings.Repeat("a", 1<<16)), innerOf(10, strings.Repeat("a", 1<<16)),
		withVals(leafOf("a"), strings.Repeat("w", 201)),
		withVals(leafOf("a", "b"), strings.Repeat("w", 201), ""),
		withVals(leafOf("a", "b"), "", strings.Repeat("w", 201)),
		withVals(leafOf("a"), strings.Repeat("w", 1<<16)),
		withVals(innerOf(10, "m"), ""),
		withVals(innerOf(10, "m"), "1"),
		withVals(innerOf(10, "m"), "1", "2"),
	}
	for _, n := range []int{1, 2, 3, 4, 8, 9} {
		keys := letters('b', n)
		leaf, inner := leafOf(keys...), innerOf(10, keys...)
		l = append(l,
			withVals(leaf, leaf.Vals[1:]...),
			withVals(leaf, slices.Concat(leaf.Vals, []string{""})...),
			withKids(leaf, 10),
			withKids(leaf, inner.Kids...),
			withKids(inner, inner.Kids[1:]...),
			withKids(inner, slices.Concat(inner.Kids, []int{99})...),
			withKids(inner),
			withVals(inner, leaf.Vals...),
		)
		for place := range inner.Kids {
			for _, kid := range []int{9, 2048, 0, 1, -1, -10, 2049, 65535, 65536, 65546, 1 << 32, 1<<32 + 10, lowest, lowest + 10, highest} {
				kids := slices.Clone(inner.Kids)
				kids[place] = kid
				l = append(l, withKids(inner, kids...))
			}
		}
		for place := range n - 1 {
			twice := slices.Clone(keys)
			twice[place] = twice[place+1]
			falls := slices.Clone(keys)
			falls[place], falls[place+1] = falls[place+1], falls[place]
			l = append(l, leafOf(twice...), innerOf(10, twice...), leafOf(falls...), innerOf(10, falls...))
		}
	}
	for _, keys := range unlikeKeys() {
		back := slices.Clone(keys)
		slices.Reverse(back)
		l = append(l, leafOf(back...), innerOf(10, back...))
		for place := range len(keys) - 1 {
			l = append(l, leafOf(keys[place+1], keys[place]), innerOf(10, keys[place+1], keys[place]))
			l = append(l, leafOf(keys[place], keys[place]), innerOf(10, keys[place], keys[place]))
		}
	}
	for _, n := range []int{10, 11, 18, 26, 100} {
		l = append(l, leafOf(letters('b', n)...), innerOf(10, letters('b', n)...))
	}
	return l
}

func nodes() []api.Node { return slices.Concat(standing(), fallen()) }

// stays calls f and tells if it changed a node (R4).
func stays(t *testing.T, what string, f func(), l ...*api.Node) {
	t.Helper()
	var before []api.Node
	for _, n := range l {
		before = append(before, copied(*n))
	}
	f()
	for i, n := range l {
		if !same(*n, before[i]) {
			t.Errorf("%s changed %s to %s", what, show(before[i]), show(*n))
		}
	}
}

func putIs(t *testing.T, n api.Node, want string, wantE api.Errno) {
	t.Helper()
	stays(t, "Put", func() {
		if s, e := Put(n); s != want || e != wantE {
			t.Errorf("Put(%s): %s, %d; want %s, %d", show(n), brief(s), e, brief(want), wantE)
		}
	}, &n)
}

func getIs(t *testing.T, kind int, body string, want api.Node, wantE api.Errno) {
	t.Helper()
	if n, e := Get(kind, body); !same(n, want) || e != wantE {
		t.Errorf("Get(%d, %s): %s, %d; want %s, %d", kind, brief(body), show(n), e, show(want), wantE)
	}
}

func findIs(t *testing.T, n api.Node, key string, want int, wantIs bool) {
	t.Helper()
	stays(t, "Find", func() {
		if at, is := Find(n, key); at != want || is != wantIs {
			t.Errorf("Find(%s, %s): %d, %t; want %d, %t", show(n), brief(key), at, is, want, wantIs)
		}
	}, &n)
}

func kidIs(t *testing.T, n api.Node, key string, want int) {
	t.Helper()
	stays(t, "Kid", func() {
		if at := Kid(n, key); at != want {
			t.Errorf("Kid(%s, %s): %d; want %d", show(n), brief(key), at, want)
		}
	}, &n)
}

func cutIs(t *testing.T, n, wantA api.Node, wantKey string, wantB api.Node, wantE api.Errno) {
	t.Helper()
	stays(t, "Cut", func() {
		a, key, b, e := Cut(n)
		if !same(a, wantA) || key != wantKey || !same(b, wantB) || e != wantE {
			t.Errorf("Cut(%s): %s, %q, %s, %d; want %s, %q, %s, %d", show(n), show(a), key, show(b), e, show(wantA), wantKey, show(wantB), wantE)
		}
	}, &n)
}

func joinIs(t *testing.T, a api.Node, key string, b, want api.Node, wantE api.Errno) {
	t.Helper()
	stays(t, "Join", func() {
		if n, e := Join(a, key, b); !same(n, want) || e != wantE {
			t.Errorf("Join(%s, %s, %s): %s, %d; want %s, %d", show(a), brief(key), show(b), show(n), e, show(want), wantE)
		}
	}, &a, &b)
}

// The chapter's examples.
func TestExamples(t *testing.T) {
	leaf := api.Node{Leaf: true, Keys: []string{"a"}, Vals: []string{"1"}}
	putIs(t, leaf, "\x01\x00\x01\x61\x00\x01\x31", api.OK)
	inner := api.Node{Keys: []string{"m"}, Kids: []int{10, 11}}
	kidIs(t, inner, "a", 0)
	kidIs(t, inner, "m", 1)
	kidIs(t, inner, "z", 1)
	putIs(t, inner, "\x01\x00\x0a\x00\x01\x6d\x00\x0b", api.OK)
}

// P7.1

func TestRightOfKeysInAll(t *testing.T) {
	for _, c := range []struct {
		keys                                      int
		leafRoot, leafBelow, innerRoot, innerLess bool
	}{
		{0, true, false, false, false},
		{1, true, false, true, false},
		{3, true, false, true, false},
		{4, true, true, true, true},
		{5, true, true, true, true},
		{8, true, true, true, true},
		{9, false, false, false, false},
		{10, false, false, false, false},
		{26, false, false, false, false},
	} {
		leaf, inner := leafOf(letters('b', c.keys)...), innerOf(10, letters('b', c.keys)...)
		for _, d := range []struct {
			n          api.Node
			root, want bool
		}{
			{leaf, true, c.leafRoot}, {leaf, false, c.leafBelow}, {inner, true, c.innerRoot}, {inner, false, c.innerLess},
		} {
			if is := Right(d.n, d.root); is != d.want {
				t.Errorf("Right(%s, %t): %t", show(d.n), d.root, is)
			}
		}
	}
}

func TestRightWrittenOut(t *testing.T) {
	four := letters('b', 4)
	for _, c := range []struct {
		n    api.Node
		want bool
	}{
		{leafOf("b", "c", "d", strings.Repeat("e", 32)), true},
		{leafOf("b", "c", "d", strings.Repeat("e", 33)), false},
		{innerOf(10, "b", "c", "d", strings.Repeat("e", 32)), true},
		{innerOf(10, "b", "c", "d", strings.Repeat("e", 33)), false},
		{leafOf("", "c", "d", "e"), false},
		{innerOf(10, "", "c", "d", "e"), false},
		{withVals(leafOf(four...), "", "", "", ""), true},
		{withVals(leafOf(four...), "", "", "", strings.Repeat("e", 200)), true},
		{withVals(leafOf(four...), "", "", "", strings.Repeat("e", 201)), false},
		{withVals(leafOf(four...), "", "", ""), false},
		{withVals(leafOf(four...), "", "", "", "", ""), false},
		{withKids(leafOf(four...), 10), false},
		{withVals(innerOf(10, four...), ""), false},
		{withVals(innerOf(10, four...), "", "", "", ""), false},
		{withKids(innerOf(10, four...), 10, 11, 12, 13), false},
		{withKids(innerOf(10, four...), 10, 11, 12, 13, 14, 15), false},
		{withKids(innerOf(10, four...), 10, 11, 12, 13, 10), true},
		{withKids(innerOf(10, four...), 10, 11, 12, 13, 9), false},
		{withKids(innerOf(10, four...), 9, 11, 12, 13, 10), false},
		{withKids(innerOf(10, four...), 10, 11, 12, 13, 2047), true},
		{withKids(innerOf(10, four...), 10, 11, 12, 13, 2048), false},
		{withKids(innerOf(10, four...), 10, 11, -1, 13, 14), false},
		{withKids(innerOf(10, four...), 10, 11, lowest, 13, 14), false},
		{withKids(innerOf(10, four...), 10, 11, highest, 13, 14), false},
		{leafOf("b", "d", "c", "e"), false},
		{leafOf("b", "c", "c", "e"), false},
		{innerOf(10, "b", "d", "c", "e"), false},
		{innerOf(10, "b", "c", "c", "e"), false},
		{leafOf("b", "b\x7f", "b\x80", "c"), true},
		{leafOf("b", "b\x80", "b\x7f", "c"), false},
		{leafOf("b", "bb", "bbb", "c"), true},
		{leafOf("b", "bbb", "bb", "c"), false},
		{leafOf("bb", "b", "c", "d"), false},
	} {
		for _, root := range []bool{true, false} {
			if is := Right(c.n, root); is != c.want {
				t.Errorf("Right(%s, %t): %t", show(c.n), root, is)
			}
		}
	}
}

func TestRight(t *testing.T) {
	for i, n := range nodes() {
		if stands(n) != (i < len(standing())) {
			t.Errorf("node %d, %s, is in the wrong row", i, show(n))
		}
		for _, root := range []bool{true, false} {
			stays(t, "Right", func() {
				if is := Right(n, root); is != mayBe(n, root) {
					t.Errorf("Right(%s, %t): %t", show(n), root, is)
				}
			}, &n)
		}
	}
}

func TestPutWrittenOut(t *testing.T) {
	key, val := strings.Repeat("k", 32), strings.Repeat("v", 200)
	for _, c := range []struct {
		n    api.Node
		want string
	}{
		{api.Node{Leaf: true}, "\x00"},
		{api.Node{Leaf: true, Keys: []string{}, Vals: []string{}, Kids: []int{}}, "\x00"},
		{withVals(leafOf("a"), ""), "\x01\x00\x01a\x00\x00"},
		{withVals(leafOf("a", "b"), "1", "23"), "\x02\x00\x01a\x00\x011\x00\x01b\x00\x0223"},
		{withVals(leafOf("\x00", "\x00\xff"), "\x00", "\xff\x00"), "\x02\x00\x01\x00\x00\x01\x00\x00\x02\x00\xff\x00\x02\xff\x00"},
		{withVals(leafOf(key), val), "\x01\x00\x20" + key + "\x00\xc8" + val},
		{withKids(innerOf(10, "a", "bc"), 2047, 10, 256), "\x02\x07\xff\x00\x01a\x00\x0a\x00\x02bc\x01\x00"},
		{withKids(innerOf(10, key), 255, 258), "\x01\x00\xff\x00\x20" + key + "\x01\x02"},
		{
			innerOf(10, letters('a', 8)...),
			"\x08\x00\x0a\x00\x01a\x00\x0b\x00\x01b\x00\x0c\x00\x01c\x00\x0d\x00\x01d\x00\x0e\x00\x01e\x00\x0f\x00\x01f\x00\x10\x00\x01g\x00\x11\x00\x01h\x00\x12",
		},
	} {
		putIs(t, c.n, c.want, api.OK)
	}
}

func TestPut(t *testing.T) {
	for _, n := range nodes() {
		want, e := putOf(n)
		putIs(t, n, want, e)
	}
}

// A node may be put as a root, whether it may be below one or not.
func TestPutOfKeysInAll(t *testing.T) {
	for n := range 27 {
		leaf, inner := leafOf(letters('a', n)...), innerOf(10, letters('a', n)...)
		leafE, innerE := api.OK, api.OK
		if n > 8 {
			leafE, innerE = api.ErrArg, api.ErrArg
		}
		if n == 0 {
			innerE = api.ErrArg
		}
		if _, e := Put(leaf); e != leafE {
			t.Errorf("Put of a leaf of %d keys: %d", n, e)
		}
		if _, e := Put(inner); e != innerE {
			t.Errorf("Put of an inner node of %d keys: %d", n, e)
		}
	}
}

// P7.2

func TestGetWrittenOut(t *testing.T) {
	for _, c := range []struct {
		kind int
		body string
		want api.Node
		err  api.Errno
	}{
		{1, "\x00", api.Node{Leaf: true}, api.OK},
		{1, "\x01\x00\x01a\x00\x011", withVals(leafOf("a"), "1"), api.OK},
		{1, "\x01\x00\x01a\x00\x00", withVals(leafOf("a"), ""), api.OK},
		{2, "\x01\x00\x0a\x00\x01m\x00\x0b", innerOf(10, "m"), api.OK},
		{2, "\x02\x07\xff\x00\x01a\x00\x0a\x00\x02bc\x01\x00", withKids(innerOf(10, "a", "bc"), 2047, 10, 256), api.OK},
		// bytes that end early
		{1, "", api.Node{}, api.ErrShort},
		{2, "", api.Node{}, api.ErrShort},
		{1, "\x01", api.Node{}, api.ErrShort},
		{2, "\x00", api.Node{}, api.ErrShort},
		{2, "\x00\x00", api.Node{}, api.ErrShort},
		{2, "\x01\x00\x0a", api.Node{}, api.ErrShort},
		{1, "\x01\x00\x02a", api.Node{}, api.ErrShort},
		{1, "\x01\xff\xffa", api.Node{}, api.ErrShort},
		// bytes that are left
		{1, "\x00\x00", api.Node{}, api.ErrForm},
		{1, "\x01\x00\x01a\x00\x011\x00", api.Node{}, api.ErrForm},
		{2, "\x01\x00\x0a\x00\x01m\x00\x0b\x00", api.Node{}, api.ErrForm},
		// nodes that may not be
		{2, "\x00\x00\x0a", api.Node{}, api.ErrForm},
		{1, "\x01\x00\x00\x00\x00", api.Node{}, api.ErrForm},
		{1, "\x02\x00\x01b\x00\x00\x00\x01a\x00\x00", api.Node{}, api.ErrForm},
		{1, "\x02\x00\x01a\x00\x00\x00\x01a\x00\x00", api.Node{}, api.ErrForm},
		{1, "\x02\x00\x01\x80\x00\x00\x00\x01\x7f\x00\x00", api.Node{}, api.ErrForm},
		{2, "\x01\x00\x09\x00\x01m\x00\x0b", api.Node{}, api.ErrForm},
		{2, "\x01\x00\x0a\x00\x01m\x00\x09", api.Node{}, api.ErrForm},
		{2, "\x01\x00\x0a\x00\x01m\x08\x00", api.Node{}, api.ErrForm},
		{2, "\x01\x00\x0a\x00\x01m\xff\xff", api.Node{}, api.ErrForm},
		{2, "\x01\x00\x0a\x00\x00\x00\x0b", api.Node{}, api.ErrForm},
		// one kind's bytes, read as the other's
		{2, "\x01\x00\x01a\x00\x011", api.Node{}, api.ErrShort},
		{1, "\x01\x00\x0a\x00\x01m\x00\x0b", api.Node{}, api.ErrShort},
	} {
		getIs(t, c.kind, c.body, c.want, c.err)
	}
}

// Kinds that are neither are told ahead of what the bytes are.
func TestGetOfKinds(t *testing.T) {
	for _, kind := range []int{0, 3, 4, 5, 6, -1, -2, 255, 256, 257, 258, 1 << 32, 1<<32 + 1, 1<<32 + 2, lowest, lowest + 1, lowest + 2, highest} {
		for _, body := range []string{"", "\x00", "\x01", "\x00\x00", "\x01\x00\x01a\x00\x011", "\x01\x00\x0a\x00\x01m\x00\x0b", "\x01\x00\x01a\x00\x011\x00", "\xff"} {
			getIs(t, kind, body, api.Node{}, api.ErrTree)
		}
	}
}

func kindOf(n api.Node) int {
	if n.Leaf {
		return api.PLeaf
	}
	return api.PInner
}

// bodies are bytes of nodes that may be and of ones that may not, all of which can be read.
func bodies() map[int][]string {
	l := map[int][]string{}
	for _, n := range nodes() {
		readable := len(n.Vals) <= len(n.Keys) && len(n.Keys) < 256
		for _, key := range n.Keys {
			readable = readable && len(key) < 1<<16
		}
		for _, val := range n.Vals {
			readable = readable && len(val) < 1<<16
		}
		if !n.Leaf {
			readable = readable && len(n.Kids) == len(n.Keys)+1
		}
		if readable {
			l[kindOf(n)] = append(l[kindOf(n)], bytesOf(n))
		}
	}
	return l
}

func TestGet(t *testing.T) {
	for kind, row := range bodies() {
		for _, body := range row {
			for _, asked := range []int{1, 2, 3} {
				want, e := getOf(asked, body)
				if asked == kind && e == api.ErrShort {
					t.Errorf("%s can't be read", brief(body))
				}
				getIs(t, asked, body, want, e)
			}
		}
	}
}

// Whatever the node, code's error comes first: at each place but the end bytes are missing.
func TestGetOfBytesThatEndEarly(t *testing.T) {
	for kind, row := range bodies() {
		for _, body := range row {
			for end := range len(body) {
				getIs(t, kind, body[:end], api.Node{}, api.ErrShort)
			}
		}
	}
}

func TestGetOfBytesThatAreLeft(t *testing.T) {
	for kind, row := range bodies() {
		for _, body := range row {
			for _, more := range []string{"\x00", "\x01", "\x00\x00", "\x00\x0a", body, strings.Repeat("\x00", 4096)} {
				getIs(t, kind, body+more, api.Node{}, api.ErrForm)
			}
		}
	}
}

func TestGetOfEachByteChanged(t *testing.T) {
	for kind, row := range bodies() {
		for _, body := range row {
			if len(body) > 100 {
				continue
			}
			for place := range len(body) {
				for _, b := range []byte{0, 1, 2, 7, 8, 9, 10, 32, 33, 127, 128, 255, body[place] + 1, body[place] - 1} {
					changed := []byte(body)
					changed[place] = b
					want, e := getOf(kind, string(changed))
					getIs(t, kind, string(changed), want, e)
				}
			}
		}
	}
}

// All short bodies of a few bytes.
func TestGetOfShortBodies(t *testing.T) {
	row := []string{""}
	for range 8 {
		var longer []string
		for _, body := range row {
			for _, kind := range []int{1, 2} {
				want, e := getOf(kind, body)
				getIs(t, kind, body, want, e)
			}
			for _, b := range "\x00\x01\x02\x0a" {
				longer = append(longer, body+string(b))
			}
		}
		row = longer
	}
}

// A count above 8 is read to its end: what is missing is told ahead of what is too much.
func TestGetOfManyKeys(t *testing.T) {
	for _, count := range []int{8, 9, 10, 11, 127, 128, 254, 255} {
		leaf, inner := string([]byte{byte(count)}), string([]byte{byte(count)})+"\x00\x0a"
		var keys []string
		for i := range count {
			keys = append(keys, "k"+string([]byte{byte(i)}))
			leaf += "\x00\x02" + keys[i] + "\x00\x00"
			inner += "\x00\x02" + keys[i] + "\x00\x0a"
		}
		if count == 8 {
			getIs(t, 1, leaf, withVals(leafOf(keys...), make([]string, 8)...), api.OK)
			getIs(t, 2, inner, withKids(innerOf(10, keys...), 10, 10, 10, 10, 10, 10, 10, 10, 10), api.OK)
		} else {
			getIs(t, 1, leaf, api.Node{}, api.ErrForm)
			getIs(t, 2, inner, api.Node{}, api.ErrForm)
		}
		getIs(t, 1, leaf+"x", api.Node{}, api.ErrForm)
		getIs(t, 2, inner+"x", api.Node{}, api.ErrForm)
		getIs(t, 1, leaf[:len(leaf)-1], api.Node{}, api.ErrShort)
		getIs(t, 2, inner[:len(inner)-1], api.Node{}, api.ErrShort)
		getIs(t, 1, leaf[:1], api.Node{}, api.ErrShort)
		getIs(t, 2, inner[:3], api.Node{}, api.ErrShort)
	}
}

// Two errors at once: what can't be read comes ahead of a node that may not be, and of keys that fall.
func TestGetOfTwoErrors(t *testing.T) {
	long := "\x00\x21" + strings.Repeat("x", 33)
	for _, c := range []struct {
		kind int
		body string
		err  api.Errno
	}{
		{1, "\x02\x00\x01b\x00\x00\x00\x01a\x00", api.ErrShort}, // falls, and ends early
		{1, "\x01" + long + "\x00\x01", api.ErrShort},           // too long a key, and its value is missing
		{1, "\x02\x00\x00\x00\x00", api.ErrShort},               // no key, and the next one is missing
		{2, "\x01\x00\x09\x00\x01m", api.ErrShort},              // no child, and the next one is missing
		{2, "\x09\x00\x0a", api.ErrShort},                       // too many keys, and none of them
		{1, "\x02\x00\x01b\x00\x00\x00\x01a\x00\x00x", api.ErrForm},
		{2, "\x01\x00\x09\x00\x01m\x00\x0bx", api.ErrForm},
		{3, "\x02\x00\x01b\x00\x00\x00\x01a\x00", api.ErrTree},
	} {
		getIs(t, c.kind, c.body, api.Node{}, c.err)
	}
}

func TestGetOfLongTexts(t *testing.T) {
	for _, size := range []int{33, 201, 255, 256, 4096, 65535} {
		text := two(size) + strings.Repeat("x", size)
		getIs(t, 1, "\x01"+text+"\x00\x00", api.Node{}, api.ErrForm)
		getIs(t, 2, "\x01\x00\x0a"+text+"\x00\x0a", api.Node{}, api.ErrForm)
		if size > 200 {
			getIs(t, 1, "\x01\x00\x01a"+text, api.Node{}, api.ErrForm)
		}
		getIs(t, 1, "\x01"+text, api.Node{}, api.ErrShort)
		getIs(t, 1, ("\x01" + text)[:size+2], api.Node{}, api.ErrShort)
	}
	// The longest node that can be read: 255 keys of 65535 bytes.
	leafSize, innerSize := 1+255*2*65537, 1+2+255*(65537+2)
	most := strings.Repeat("\xff", leafSize+1)
	for _, size := range []int{leafSize, leafSize + 1} {
		getIs(t, 1, most[:size], api.Node{}, api.ErrForm)
	}
	getIs(t, 1, most[:leafSize-1], api.Node{}, api.ErrShort)
	for _, size := range []int{innerSize, innerSize + 1, leafSize} {
		getIs(t, 2, most[:size], api.Node{}, api.ErrForm)
	}
	getIs(t, 2, most[:innerSize-1], api.Node{}, api.ErrShort)
	getIs(t, 1, strings.Repeat("\x00", 1<<20), api.Node{}, api.ErrForm)
	getIs(t, 2, strings.Repeat("\x00", 1<<20), api.Node{}, api.ErrForm)
}

// P7.3

func TestFindAndKidWrittenOut(t *testing.T) {
	leaf, inner := leafOf("b", "d", "f\xff"), innerOf(10, "b", "d", "f\xff")
	for _, c := range []struct {
		key string
		at  int
		is  bool
		kid int
	}{
		{"", 0, false, 0},
		{"a", 0, false, 0},
		{"b", 0, true, 1},
		{"b\x00", 1, false, 1},
		{"c", 1, false, 1},
		{"d", 1, true, 2},
		{"e", 2, false, 2},
		{"f", 2, false, 2},
		{"f\xfe\xff", 2, false, 2},
		{"f\xff", 2, true, 3},
		{"f\xff\x00", 3, false, 3},
		{"z", 3, false, 3},
		{"\x80", 3, false, 3},
		{strings.Repeat("\xff", 33), 3, false, 3},
		{strings.Repeat("c", 1<<16), 1, false, 1},
		{strings.Repeat("\x00", 40), 0, false, 0},
	} {
		findIs(t, leaf, c.key, c.at, c.is)
		findIs(t, inner, c.key, c.at, c.is)
		kidIs(t, inner, c.key, c.kid)
		kidIs(t, leaf, c.key, 0)
	}
	findIs(t, api.Node{Leaf: true}, "", 0, false)
	findIs(t, api.Node{Leaf: true}, "a", 0, false)
	kidIs(t, api.Node{Leaf: true}, "a", 0)
}

// keysAround are keys ahead of, at and behind each key of a node.
func keysAround(n api.Node) []string {
	l := []string{"", "\x00", "\x01", "a", "m", "z", "\x7f", "\x80", "\xff", strings.Repeat("\xff", 32), strings.Repeat("\xff", 33)}
	for _, key := range n.Keys[:min(len(n.Keys), 12)] {
		l = append(l, key, key+"\x00", key+"\xff")
		if key != "" {
			last := key[len(key)-1]
			l = append(l, key[:len(key)-1], key[:len(key)-1]+string([]byte{last - 1}), key[:len(key)-1]+string([]byte{last + 1}))
		}
	}
	return l
}

func TestFindAndKid(t *testing.T) {
	for _, n := range nodes() {
		for _, key := range keysAround(n) {
			at, is := findOf(n, key)
			findIs(t, n, key, at, is)
			kidIs(t, n, key, kidOf(n, key))
		}
	}
}

// Of a node that may not stand the answer is 0, though its keys have this one.
func TestFindAndKidOfNodesThatMayNotStand(t *testing.T) {
	for _, n := range fallen() {
		for _, key := range slices.Concat(n.Keys, []string{"", "\xff"}) {
			findIs(t, n, key, 0, false)
			kidIs(t, n, key, 0)
		}
	}
}

// Nodes of 9 keys stand, though they may not be.
func TestFindAndKidOfNineKeys(t *testing.T) {
	keys := letters('b', 9)
	for i, key := range keys {
		findIs(t, leafOf(keys...), key, i, true)
		findIs(t, innerOf(10, keys...), key, i, true)
		kidIs(t, innerOf(10, keys...), key, i+1)
	}
	findIs(t, leafOf(keys...), "k", 9, false)
	kidIs(t, innerOf(10, keys...), "k", 9)
}

// P7.4

func TestCutWrittenOut(t *testing.T) {
	cutIs(t,
		api.Node{Leaf: true, Keys: letters('a', 9), Vals: []string{"1", "2", "3", "4", "5", "6", "7", "8", "9"}},
		api.Node{Leaf: true, Keys: []string{"a", "b", "c", "d"}, Vals: []string{"1", "2", "3", "4"}}, "e",
		api.Node{Leaf: true, Keys: []string{"e", "f", "g", "h", "i"}, Vals: []string{"5", "6", "7", "8", "9"}}, api.OK)
	cutIs(t,
		api.Node{Keys: letters('a', 9), Kids: []int{20, 31, 42, 53, 64, 75, 86, 97, 108, 119}},
		api.Node{Keys: []string{"a", "b", "c", "d"}, Kids: []int{20, 31, 42, 53, 64}}, "e",
		api.Node{Keys: []string{"f", "g", "h", "i"}, Kids: []int{75, 86, 97, 108, 119}}, api.OK)
	cutIs(t,
		api.Node{Leaf: true, Keys: letters('\x7c', 9), Vals: []string{"9", "", "7", "6", strings.Repeat("5", 200), "", "", "2", "1"}},
		api.Node{Leaf: true, Keys: []string{"\x7c", "\x7d", "\x7e", "\x7f"}, Vals: []string{"9", "", "7", "6"}}, "\x80",
		api.Node{Leaf: true, Keys: []string{"\x80", "\x81", "\x82", "\x83", "\x84"}, Vals: []string{strings.Repeat("5", 200), "", "", "2", "1"}}, api.OK)
}

func TestCutOfWrongNodes(t *testing.T) {
	for _, n := range nodes() {
		if !stands(n) || len(n.Keys) != 9 {
			cutIs(t, n, api.Node{}, "", api.Node{}, api.ErrArg)
		}
	}
	for n := range 27 {
		want := api.ErrArg
		if n == 9 {
			want = api.OK
		}
		for _, m := range []api.Node{leafOf(letters('a', n)...), innerOf(10, letters('a', n)...)} {
			a, key, b, e := Cut(m)
			if e != want || e != api.OK && (!zero(a) || key != "" || !zero(b)) {
				t.Errorf("Cut of %d keys: %s, %q, %s, %d", n, show(a), key, show(b), e)
			}
		}
	}
}

// P7.5

func TestJoinWrittenOut(t *testing.T) {
	ab, cd := withVals(leafOf("a", "b"), "1", "2"), withVals(leafOf("c", "d"), "3", "4")
	abcd := withVals(leafOf("a", "b", "c", "d"), "1", "2", "3", "4")
	// A leaf's key is left out, whatever it is.
	for _, key := range []string{"c", "b\x00", "", "a", "z", "\xff", strings.Repeat("x", 33), strings.Repeat("x", 1<<17)} {
		joinIs(t, ab, key, cd, abcd, api.OK)
		joinIs(t, ab, key, api.Node{Leaf: true}, ab, api.OK)
		joinIs(t, api.Node{Leaf: true}, key, ab, ab, api.OK)
		joinIs(t, api.Node{Leaf: true}, key, api.Node{Leaf: true}, api.Node{Leaf: true}, api.OK)
	}
	joinIs(t, cd, "c", ab, api.Node{}, api.ErrArg)
	joinIs(t, ab, "b", ab, api.Node{}, api.ErrArg)
	joinIs(t, ab, "b", leafOf("b", "c"), api.Node{}, api.ErrArg)

	low, high := withKids(innerOf(10, "a", "b"), 30, 20, 10), withKids(innerOf(10, "m"), 2047, 40)
	for _, key := range []string{"b\x00", "c", "l", "l\xff", strings.Repeat("l", 32)} {
		joinIs(t, low, key, high, api.Node{Keys: []string{"a", "b", key, "m"}, Kids: []int{30, 20, 10, 2047, 40}}, api.OK)
	}
	for _, key := range []string{"", "a", "b", "a\xff", "m", "m\x00", "n", "\x80", strings.Repeat("l", 33)} {
		joinIs(t, low, key, high, api.Node{}, api.ErrArg)
	}
	joinIs(t, high, "c", low, api.Node{}, api.ErrArg)
	joinIs(t, high, "n", low, api.Node{}, api.ErrArg)

	// one of each
	joinIs(t, ab, "c", high, api.Node{}, api.ErrArg)
	joinIs(t, low, "c", cd, api.Node{}, api.ErrArg)
	joinIs(t, api.Node{Leaf: true}, "c", high, api.Node{}, api.ErrArg)
	joinIs(t, low, "c", api.Node{Leaf: true}, api.Node{}, api.ErrArg)
}

// What comes of two nodes has at most 9 keys; of inner ones the key between them is one.
func TestJoinOfKeysInAll(t *testing.T) {
	for n := range 11 {
		for m := range 11 {
			a, b := letters('a', n), letters('n', m)
			all := leafOf(slices.Concat(a, b)...)
			if n+m <= 9 {
				joinIs(t, leafOf(a...), "m", leafOf(b...), all, api.OK)
			} else {
				joinIs(t, leafOf(a...), "m", leafOf(b...), api.Node{}, api.ErrArg)
			}
			all = innerOf(10, slices.Concat(a, []string{"m"}, b)...)
			if n > 0 && m > 0 && n+m <= 8 {
				joinIs(t, innerOf(10, a...), "m", innerOf(10+n+1, b...), all, api.OK)
			} else {
				joinIs(t, innerOf(10, a...), "m", innerOf(10+n+1, b...), api.Node{}, api.ErrArg)
			}
		}
	}
}

// A node that may not stand is told, on either side, even where all of both would stand.
func TestJoinOfNodesThatMayNotStand(t *testing.T) {
	for _, n := range fallen() {
		for _, m := range []api.Node{{Leaf: true}, leafOf("a"), leafOf("\xff\xff"), innerOf(10, "A"), innerOf(10, "\xff\xff"), n} {
			for _, key := range []string{"", "a", "\xff\x00"} {
				joinIs(t, n, key, m, api.Node{}, api.ErrArg)
				joinIs(t, m, key, n, api.Node{}, api.ErrArg)
			}
		}
	}
	joinIs(t, withVals(leafOf("a"), "1", "2"), "b", withVals(leafOf("b", "c"), "3"), api.Node{}, api.ErrArg)
	joinIs(t, withVals(leafOf("a", "b"), "1"), "c", withVals(leafOf("c"), "2", "3"), api.Node{}, api.ErrArg)
	joinIs(t, withKids(innerOf(10, "a"), 10), "b", withKids(innerOf(10, "c"), 11, 12, 13), api.Node{}, api.ErrArg)
	joinIs(t, withKids(innerOf(10, "a"), 10, 11, 12), "b", withKids(innerOf(10, "c"), 13), api.Node{}, api.ErrArg)
	joinIs(t, withKids(api.Node{}, 10), "b", innerOf(11, "c"), api.Node{}, api.ErrArg)
	joinIs(t, innerOf(10, "a"), "b", withKids(api.Node{}, 12), api.Node{}, api.ErrArg)
}

func TestJoin(t *testing.T) {
	all := standing()
	for _, a := range all {
		for _, b := range all {
			keys := []string{"", "c", "k", "\x7f\x00", "\x80"}
			if len(a.Keys) > 0 {
				keys = append(keys, a.Keys[len(a.Keys)-1], a.Keys[len(a.Keys)-1]+"\x00")
			}
			if len(b.Keys) > 0 {
				keys = append(keys, b.Keys[0])
			}
			for _, key := range keys {
				want, e := joinOf(a, key, b)
				joinIs(t, a, key, b, want, e)
			}
		}
	}
}

// P7.6

func TestWhatIsPutIsGot(t *testing.T) {
	for _, n := range standing() {
		s, e := Put(n)
		if len(n.Keys) > 8 {
			continue
		}
		if e != api.OK || len(s) > api.MaxBody {
			t.Errorf("Put(%s): %d bytes, %d", show(n), len(s), e)
		}
		getIs(t, kindOf(n), s, n, api.OK)
	}
}

func TestWhatIsGotIsPut(t *testing.T) {
	got := 0
	for kind, row := range bodies() {
		for _, body := range row {
			for _, more := range []string{"", "\x00"} {
				if n, e := Get(kind, body+more); e == api.OK {
					putIs(t, n, body+more, api.OK)
					got++
				}
			}
		}
	}
	if got == 0 {
		t.Error("nothing was got")
	}
}

func TestWhatIsCutIsJoined(t *testing.T) {
	cut := 0
	for _, n := range append(standing(), leafOf(letters('\x7b', 9)...), innerOf(2038, letters('\xf0', 9)...)) {
		if len(n.Keys) != 9 {
			continue
		}
		cut++
		a, key, b, e := Cut(n)
		if e != api.OK || !Right(a, false) || !Right(b, false) || !mayBe(a, false) || !mayBe(b, false) {
			t.Errorf("Cut(%s): %s, %q, %s, %d", show(n), show(a), key, show(b), e)
		}
		joinIs(t, a, key, b, n, api.OK)
	}
	if cut < 4 {
		t.Errorf("only %d nodes were cut", cut)
	}
}

// R1, R4 and P1

// ruin writes over all that a node's lists hold, up to their capacity.
func ruin(n api.Node) {
	for _, row := range [][]string{n.Keys[:cap(n.Keys)], n.Vals[:cap(n.Vals)]} {
		for i := range row {
			row[i] = "ruined"
		}
	}
	kids := n.Kids[:cap(n.Kids)]
	for i := range kids {
		kids[i] = -7
	}
}

// An answer shares no list with an argument: what becomes of it is not seen there.
func TestAnswersAreNewMemory(t *testing.T) {
	for _, n := range standing() {
		a, _, b, e := Cut(n)
		if e == api.OK {
			wholeB := copied(b)
			stays(t, "ruin", func() { ruin(a) }, &n)
			if !same(b, wholeB) {
				t.Errorf("Cut(%s): both parts share a list", show(n))
			}
			stays(t, "ruin", func() { ruin(b) }, &n)
		}
	}
	for _, a := range []api.Node{{Leaf: true}, leafOf("a", "b"), innerOf(10, "a", "b")} {
		for _, b := range []api.Node{{Leaf: true}, leafOf("d", "e"), innerOf(20, "d", "e")} {
			if n, e := Join(a, "c", b); e == api.OK {
				stays(t, "ruin", func() { ruin(n) }, &a, &b)
			}
		}
	}
}

// No two lists of an answer share any: keys that are ruined leave the values as they are.
func TestListsOfAnAnswerAreUnlike(t *testing.T) {
	a, _, b, _ := Cut(leafOf(letters('a', 9)...))
	c, _ := Join(leafOf("a", "b"), "c", leafOf("c", "d"))
	s, _ := Put(leafOf(letters('a', 8)...))
	d, _ := Get(api.PLeaf, s)
	for i, n := range []api.Node{a, b, c, d} {
		vals := slices.Clone(n.Vals)
		ruin(api.Node{Keys: n.Keys})
		if len(vals) == 0 || !slices.Equal(n.Vals, vals) {
			t.Errorf("answer %d: keys and values share a list", i)
		}
	}
}

// Lists that have room behind their end stay as they are there, too.
func TestRoomBehindAListStays(t *testing.T) {
	roomy := func(n api.Node) api.Node {
		n.Keys = append(append(make([]string, 0, 40), n.Keys...), "x", "y")[:len(n.Keys)]
		if n.Leaf {
			n.Vals = append(append(make([]string, 0, 40), n.Vals...), "x", "y")[:len(n.Vals)]
		} else {
			n.Kids = append(append(make([]int, 0, 40), n.Kids...), 77, 78)[:len(n.Kids)]
		}
		return n
	}
	whole := func(n api.Node) api.Node {
		return copied(api.Node{Keys: n.Keys[:cap(n.Keys)], Vals: n.Vals[:cap(n.Vals)], Kids: n.Kids[:cap(n.Kids)]})
	}
	for _, c := range [][2]api.Node{
		{roomy(leafOf("a", "b")), roomy(leafOf("d", "e"))},
		{roomy(innerOf(10, "a", "b")), roomy(innerOf(20, "d", "e"))},
		{roomy(leafOf(letters('a', 9)...)), roomy(leafOf())},
		{roomy(innerOf(10, letters('a', 9)...)), roomy(innerOf(20, "z"))},
	} {
		a, b := whole(c[0]), whole(c[1])
		Join(c[0], "c", c[1])
		Cut(c[0])
		Put(c[0])
		Find(c[0], "b")
		Kid(c[0], "b")
		Right(c[0], true)
		if !same(whole(c[0]), a) || !same(whole(c[1]), b) {
			t.Errorf("what stands behind the lists of %s and %s changed", show(c[0]), show(c[1]))
		}
	}
}

// No call keeps anything: asked again, behind all others, it answers the same.
func TestCallsKeepNothing(t *testing.T) {
	ask := func(n api.Node) []any {
		s, e1 := Put(n)
		m, e2 := Get(kindOf(n), bytesOf(n))
		at, is := Find(n, "c")
		a, key, b, e3 := Cut(n)
		j, e4 := Join(n, "m", leafOf("n"))
		return []any{Right(n, true), Right(n, false), s, e1, m, e2, at, is, Kid(n, "c"), a, key, b, e3, j, e4}
	}
	all := nodes()
	var first [][]any
	for _, n := range all {
		first = append(first, ask(n))
	}
	for i := len(all) - 1; i >= 0; i-- {
		if again := ask(all[i]); !reflect.DeepEqual(again, first[i]) {
			t.Errorf("%s: %v, then %v", show(all[i]), first[i], again)
		}
	}
}

// Every call ends and none panics, also of great nodes.
func TestGreatNodes(t *testing.T) {
	many := make([]string, 1<<20)
	for i := range many {
		many[i] = fmt.Sprintf("%08d", i)
	}
	kids := slices.Repeat([]int{10}, 1<<20+1)
	huge := strings.Repeat("h", 1<<24)
	for _, n := range []api.Node{
		{Leaf: true, Keys: many, Vals: many},
		{Keys: many, Kids: kids},
		{Leaf: true, Keys: many[:1], Vals: many},
		{Leaf: true, Vals: many},
		{Leaf: true, Keys: many[:1], Vals: many[:1], Kids: kids},
		{Keys: many[:1], Kids: kids},
		{Kids: kids},
		{Vals: many},
		{Leaf: true, Keys: []string{huge}, Vals: []string{huge}},
		{Leaf: true, Keys: []string{"a"}, Vals: []string{huge}},
		{Keys: []string{huge}, Kids: []int{10, 11}},
	} {
		if Right(n, true) || Right(n, false) {
			t.Errorf("Right(%s)", show(n))
		}
		if s, e := Put(n); s != "" || e != api.ErrArg {
			t.Errorf("Put(%s): %d bytes, %d", show(n), len(s), e)
		}
		findIs(t, n, "00000001", 0, false)
		kidIs(t, n, "00000001", 0)
		cutIs(t, n, api.Node{}, "", api.Node{}, api.ErrArg)
		joinIs(t, n, "a", n, api.Node{}, api.ErrArg)
		joinIs(t, leafOf("a"), "a", n, api.Node{}, api.ErrArg)
		joinIs(t, innerOf(10, "0"), "00", n, api.Node{}, api.ErrArg)
	}
	findIs(t, leafOf("a", "z"), huge, 1, false)
	kidIs(t, innerOf(10, "a", "z"), huge, 1)
	joinIs(t, innerOf(10, "a"), huge, innerOf(12, "z"), api.Node{}, api.ErrArg)
}
