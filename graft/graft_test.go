package graft

import (
	"slices"
	"strings"
	"testing"

	"penelope/alloc"
	"penelope/api"
	"penelope/look"
)

// bare is a wood of 24 blocks, of generation 3, in which nothing lies.
func bare(t *testing.T) api.Wood {
	t.Helper()
	a, e := alloc.New(24)
	if e != api.OK {
		t.Fatal(e)
	}
	return api.Wood{Alloc: a, Pages: make([]string, 24), Gen: 3}
}

func twin(w api.Wood) api.Wood {
	w.Base, w.Now, w.Pages = slices.Clone(w.Base), slices.Clone(w.Now), slices.Clone(w.Pages)
	return w
}

func same(a, b api.Wood) bool {
	return slices.Equal(a.Base, b.Base) && slices.Equal(a.Now, b.Now) && slices.Equal(a.Pages, b.Pages) &&
		a.Root == b.Root && a.Gen == b.Gen
}

func leafOf(letters string) api.Node {
	keys := strings.Split(letters, "")
	return api.Node{Leaf: true, Keys: keys, Vals: slices.Clone(keys)}
}

func innerOf(letters string, kids ...int) api.Node {
	return api.Node{Keys: strings.Split(letters, ""), Kids: kids}
}

func equal(a, b api.Node) bool {
	return a.Leaf == b.Leaf && slices.Equal(a.Keys, b.Keys) && slices.Equal(a.Vals, b.Vals) && slices.Equal(a.Kids, b.Kids)
}

// twoLevels is a to d in block 10, f to i in 11, and the root in 12; none of them counts.
func twoLevels(t *testing.T) Stock {
	t.Helper()
	s := Of(bare(t))
	for _, n := range []api.Node{leafOf("abcd"), leafOf("fghi"), innerOf("e", 10, 11)} {
		block, e := s.Lay(n)
		if e != api.OK {
			t.Fatal(e)
		}
		s.Root = block
	}
	return s
}

func TestOf(t *testing.T) {
	w := twoLevels(t).Wood
	was := twin(w)
	s := Of(w)
	if !same(s.Wood, w) {
		t.Fatal(s)
	}
	s.Base[11], s.Now[13], s.Pages[10] = true, true, "x"
	if !same(w, was) {
		t.Error("a stock shares a list with the wood")
	}
}

func TestDown(t *testing.T) {
	s := twoLevels(t)
	for key, want := range map[string]int{"\x00": 10, "a": 10, "dz": 10, "e": 11, "f": 11, "z": 11} {
		way, e := s.Down(key)
		if e != api.OK || len(way) != 2 || way[0].Block != 12 || way[0].Kid != want-10 || way[1].Block != want || !way[1].Node.Leaf {
			t.Errorf("%s: %v, %d", key, way, e)
		}
	}
	s.Pages[11] = ""
	if way, e := s.Down("f"); e != api.ErrTree || way != nil {
		t.Errorf("%v, %d", way, e)
	}
	if _, e := s.Down("a"); e != api.OK {
		t.Error(e)
	}
	if s.Renew(12, innerOf("e", 10, 12)); s.Root != 12 {
		t.Fatal(s.Root)
	}
	if way, e := s.Down("f"); e != api.ErrTree || way != nil {
		t.Errorf("%v, %d", way, e)
	}
}

// A way is at most as long as a tree is high, and only its first node may have as few keys as a root.
func TestDownOfChains(t *testing.T) {
	for nodes := 1; nodes <= 12; nodes++ {
		s := Of(bare(t))
		s.Lay(leafOf("abcd"))
		for i := range nodes - 1 {
			s.Lay(innerOf("abcd", 10+i, 10+i, 10+i, 10+i, 10+i))
		}
		s.Root = 9 + nodes
		way, e := s.Down("a")
		if nodes <= 8 && (len(way) != nodes || e != api.OK) || nodes > 8 && (way != nil || e != api.ErrTree) {
			t.Errorf("%d: %v, %d", nodes, way, e)
		}
	}
	for _, low := range []api.Node{leafOf("abc"), innerOf("abc", 10, 10, 10, 10)} {
		s := Of(bare(t))
		s.Lay(leafOf("abcd"))
		s.Root, _ = s.Lay(low)
		if way, e := s.Down("a"); len(way) < 1 || e != api.OK {
			t.Errorf("%v, %d", way, e)
		}
		s.Root, _ = s.Lay(innerOf("e", 11, 10))
		if way, e := s.Down("a"); way != nil || e != api.ErrTree {
			t.Errorf("%v, %d", way, e)
		}
	}
}

func TestRenew(t *testing.T) {
	s := twoLevels(t)
	block, e := s.Renew(11, leafOf("fghij"))
	if n, f := look.Load(s.Wood, 11, false); block != 11 || e != api.OK || f != api.OK || !equal(n, leafOf("fghij")) {
		t.Errorf("%d, %d: %v, %d", block, e, n, f)
	}
	// A block that need not count stays, also if a lesser one is free.
	s.Drop(10)
	if block, e = s.Renew(11, leafOf("fghi")); block != 11 || e != api.OK {
		t.Errorf("%d, %d", block, e)
	}
	// What counts is not written over.
	s.Base[10], s.Base[11] = true, true
	was := s.Pages[11]
	block, e = s.Renew(11, leafOf("klmn"))
	if n, f := look.Load(s.Wood, block, false); block != 13 || e != api.OK || f != api.OK || !equal(n, leafOf("klmn")) {
		t.Errorf("%d, %d: %v, %d", block, e, n, f)
	}
	if s.Pages[11] != was || s.Now[11] || !s.Base[11] {
		t.Error(s)
	}
	if block, e = s.Renew(11, leafOf("klmn")); block != 0 || e != api.ErrTree {
		t.Errorf("a block that went: %d, %d", block, e)
	}
}

func TestLay(t *testing.T) {
	s := Of(bare(t))
	for i := range 14 {
		if block, e := s.Lay(leafOf("a")); block != 10+i || e != api.OK {
			t.Errorf("%d, %d", block, e)
		}
	}
	if block, e := s.Lay(leafOf("a")); block != 0 || e != api.ErrSpace {
		t.Errorf("%d, %d", block, e)
	}
	s = Of(bare(t))
	for _, n := range []api.Node{innerOf("ab", 10, 11), innerOf("a", 10, 9), leafOf("ba"), leafOf("abcdefghi"), {}} {
		if _, e := s.Lay(n); e != api.ErrTree {
			t.Errorf("%v: %d", n, e)
		}
	}
	wide := api.Node{Leaf: true}
	for i := range 8 {
		wide.Keys = append(wide.Keys, strings.Repeat(string([]byte{'a' + byte(i)}), 32))
		wide.Vals = append(wide.Vals, strings.Repeat("v", 200))
	}
	block, e := s.Lay(wide)
	if n, f := look.Load(s.Wood, block, false); e != api.OK || f != api.OK || !equal(n, wide) {
		t.Errorf("%d: %v, %d", e, n, f)
	}
}

func TestDrop(t *testing.T) {
	s := twoLevels(t)
	was := twin(s.Wood)
	if e := s.Drop(11); e != api.OK || s.Now[11] || !slices.Equal(s.Pages, was.Pages) || !slices.Equal(s.Base, was.Base) {
		t.Errorf("%d: %v", e, s)
	}
	for _, block := range []int{-1, 0, 9, 11, 13, 24} {
		if e := s.Drop(block); e != api.ErrTree {
			t.Errorf("%d: %d", block, e)
		}
	}
}

func TestWithPairs(t *testing.T) {
	n := leafOf("abcd")
	x := api.Pair{Key: "x", Val: "x"}
	for _, c := range []struct {
		from, to int
		pairs    []api.Pair
		want     string
	}{
		{0, 0, nil, "abcd"}, {0, 1, nil, "bcd"}, {3, 4, nil, "abc"}, {1, 3, nil, "ad"},
		{0, 0, []api.Pair{x}, "xabcd"}, {4, 4, []api.Pair{x}, "abcdx"}, {2, 3, []api.Pair{x}, "abxd"},
	} {
		m := WithPairs(n, c.from, c.to, c.pairs...)
		if !equal(m, leafOf(c.want)) || !equal(n, leafOf("abcd")) {
			t.Errorf("%v: %v", c, m)
		}
		m.Keys[0], m.Vals[0] = "y", "y"
		if !equal(n, leafOf("abcd")) {
			t.Errorf("%v: %v", c, n)
		}
	}
}

func TestWithKids(t *testing.T) {
	n := innerOf("abc", 10, 11, 12, 13)
	for _, c := range []struct {
		from, to int
		row      api.Node
		want     api.Node
	}{
		{0, 1, api.Node{Kids: []int{20}}, innerOf("abc", 20, 11, 12, 13)},
		{3, 4, api.Node{Kids: []int{20}}, innerOf("abc", 10, 11, 12, 20)},
		{0, 2, api.Node{Kids: []int{20}}, innerOf("bc", 20, 12, 13)},
		{2, 4, api.Node{Kids: []int{20}}, innerOf("ab", 10, 11, 20)},
		{1, 2, innerOf("x", 20, 21), innerOf("axbc", 10, 20, 21, 12, 13)},
		{1, 3, innerOf("x", 20, 21), innerOf("axc", 10, 20, 21, 13)},
	} {
		m := WithKids(n, c.from, c.to, c.row)
		if !equal(m, c.want) {
			t.Errorf("%v: %v", c, m)
		}
		m.Keys[0], m.Kids[0] = "y", 23
		if !equal(n, innerOf("abc", 10, 11, 12, 13)) {
			t.Errorf("%v: %v", c, n)
		}
	}
}
