package grow

import (
	"fmt"
	"math"
	"slices"
	"strings"
	"sync"
	"testing"

	"penelope/alloc"
	"penelope/api"
	"penelope/look"
	"penelope/node"
	"penelope/page"
)

// Woods to put pairs into.

func used(n int, blocks ...int) []bool {
	l := make([]bool, n)
	for i := range 10 {
		l[i] = true
	}
	for _, block := range blocks {
		l[block] = true
	}
	return l
}

// bare is a wood of so many blocks, in which nothing lies.
func bare(n int) api.Wood {
	return api.Wood{Alloc: api.Alloc{Base: used(n), Now: used(n)}, Pages: make([]string, n), Gen: 1}
}

func twin(w api.Wood) api.Wood {
	return api.Wood{
		Alloc: api.Alloc{Base: slices.Clone(w.Base), Now: slices.Clone(w.Now)},
		Pages: slices.Clone(w.Pages),
		Root:  w.Root,
		Gen:   w.Gen,
	}
}

func same(a, b api.Wood) bool {
	return slices.Equal(a.Base, b.Base) && slices.Equal(a.Now, b.Now) && slices.Equal(a.Pages, b.Pages) &&
		a.Root == b.Root && a.Gen == b.Gen
}

func isZero(w api.Wood) bool { return same(w, api.Wood{}) }

// textOf is a node's bytes, whether it may be or not.
func textOf(n api.Node) string {
	two := func(n int) string { return string([]byte{byte(n >> 8), byte(n)}) }
	s := string([]byte{byte(len(n.Keys))})
	if n.Leaf {
		for i, key := range n.Keys {
			s += two(len(key)) + key + two(len(n.Vals[i])) + n.Vals[i]
		}
		return s
	}
	for i, kid := range n.Kids {
		s += two(kid)
		if i < len(n.Keys) {
			s += two(len(n.Keys[i])) + n.Keys[i]
		}
	}
	return s
}

func pageOf(gen int, n api.Node) string {
	kind := api.PInner
	if n.Leaf {
		kind = api.PLeaf
	}
	s, e := page.Put(api.Page{Kind: kind, Gen: gen, Body: textOf(n)})
	if e != api.OK {
		panic(e)
	}
	return s
}

// leafOf has the value v and the key for each letter.
func leafOf(letters string) api.Node {
	n := api.Node{Leaf: true}
	for _, key := range strings.Split(letters, "") {
		n.Keys, n.Vals = append(n.Keys, key), append(n.Vals, "v"+key)
	}
	return n
}

func innerOf(letters string, kids ...int) api.Node {
	return api.Node{Keys: strings.Split(letters, ""), Kids: kids}
}

// with is a wood in which that node lies in that block; the one that was handed in stays.
func with(w api.Wood, block int, n api.Node) api.Wood {
	return withBytes(w, block, pageOf(w.Gen, n))
}

func withBytes(w api.Wood, block int, bytes string) api.Wood {
	w = twin(w)
	w.Now[block], w.Pages[block] = true, bytes
	return w
}

func without(w api.Wood, block int) api.Wood {
	w = twin(w)
	w.Now[block] = false
	return w
}

func rooted(w api.Wood, root int) api.Wood {
	w.Root = root
	return w
}

// noise is numbers that look like no pattern, the same ones each time.
type noise uint32

func (n *noise) below(limit int) int {
	*n = *n*1664525 + 1013904223
	return int(uint32(*n)>>8) % limit
}

// shape is how a tree is sown.
type shape struct {
	height int
	fill   string // of the nodes: few, many or any keys; or a path of many, with few above and beside it
	from   int    // how deep that path begins
	loose  bool   // a key that parts two children is one that no leaf has
	down   bool   // blocks are taken from the last one on
	gen    int
}

// sower makes a tree from the root down; its keys are k00005, k00015 and so on, with room between any two.
type sower struct {
	shape
	api.Wood
	noise
	nodes, pairs int
	path         []int // blocks of nodes of as many keys as may be, from the leaf up
}

func keyOf(i int) string { return fmt.Sprintf("k%05d", 10*i+5) }

func sown(size int, how shape) api.Wood { return sowing(size, how).Wood }

func sowing(size int, how shape) *sower {
	s := &sower{shape: how, Wood: bare(size), noise: noise(how.height + len(how.fill))}
	s.Gen = how.gen
	s.Root, _ = s.sow(1, true)
	return s
}

// keys is how many keys a node has.
func (s *sower) keys(depth int, onPath bool) int {
	few, many := 4, 8
	if depth == 1 {
		few = 1
	}
	switch {
	case s.fill == "many", s.fill == "path" && onPath && depth >= s.from:
		return many
	case s.fill == "any":
		return few + s.below(min(many-few+1, 5))
	}
	return few
}

// sow tells a node's block, and the first key below it.
func (s *sower) sow(depth int, onPath bool) (int, string) {
	var n api.Node
	first := keyOf(s.pairs)
	count := s.keys(depth, onPath)
	if depth == s.height {
		n.Leaf = true
		for range count {
			n.Keys, n.Vals = append(n.Keys, keyOf(s.pairs)), append(n.Vals, fmt.Sprint("v", s.pairs))
			s.pairs++
		}
	} else {
		for i := range count + 1 {
			kid, key := s.sow(depth+1, onPath && i == count/2)
			if s.loose {
				key = fmt.Sprintf("k%05d", 10*s.firstOf(kid))
			}
			if i > 0 {
				n.Keys = append(n.Keys, key)
			}
			n.Kids = append(n.Kids, kid)
		}
	}
	block := 10 + s.nodes
	if s.down {
		block = len(s.Now) - 1 - s.nodes
	}
	// Pages of a tree are of any generation up to the wood's, 0 among them.
	s.Now[block], s.Pages[block] = true, pageOf(s.nodes%(min(s.gen, 5)+1), n)
	s.nodes++
	if onPath {
		s.path = append(s.path, block)
	}
	return block, first
}

// firstOf is the number of the first key below a block.
func (s *sower) firstOf(block int) int {
	n, _ := held(s.Wood, block, true)
	for !n.Leaf {
		n, _ = held(s.Wood, n.Kids[0], true)
	}
	var i int
	fmt.Sscanf(n.Keys[0], "k%05d", &i)
	return i / 10
}

// small are trees of one to three levels, in which there are full nodes and others.
func small() []api.Wood {
	var l []api.Wood
	for i, fill := range []string{"few", "many", "any", "path"} {
		for height := 1; height <= 3; height++ {
			size := 130
			if height == 1 || height == 2 && fill == "few" {
				size = 24
			}
			for _, how := range []shape{{gen: 1}, {gen: 4, loose: true, down: true}, {gen: api.MaxTime - i%2, loose: true}} {
				how.height, how.fill = height, fill
				l = append(l, sown(size, how))
			}
		}
	}
	return l
}

// bases are woods that are that one but for what counts: none of the tree, all of it, some of it, and blocks that the tree has not.
func bases(w api.Wood) []api.Wood {
	seed := noise(len(w.Now))
	of := func(has func(block int) bool) api.Wood {
		v := twin(w)
		for block := 10; block < len(v.Base); block++ {
			v.Base[block] = has(block)
		}
		return v
	}
	l := []api.Wood{
		of(func(block int) bool { return false }),
		of(func(block int) bool { return w.Now[block] }),
		of(func(block int) bool { return w.Now[block] && block == w.Root }),
		of(func(block int) bool { return w.Now[block] && block != w.Root }),
		of(func(block int) bool { return w.Now[block] && seed.below(2) == 0 }),
		of(func(block int) bool { return seed.below(3) == 0 }),
		of(func(block int) bool { return !w.Now[block] && seed.below(2) == 0 }),
		of(func(block int) bool { return !w.Now[block] }),
	}
	// Now has blocks that nothing holds, with bytes in them.
	strewn := of(func(block int) bool { return seed.below(4) == 0 })
	for block := 10; block < len(w.Now); block++ {
		if !w.Now[block] {
			strewn.Now[block] = seed.below(4) == 0
			strewn.Pages[block] = strings.Repeat("x", seed.below(40))
		}
	}
	return append(l, strewn)
}

// roomy is a wood in which just so many blocks are free, if there are as many: others are what counts has, or what is being made.
func roomy(w api.Wood, free int) api.Wood {
	w = twin(w)
	for block := range w.Now {
		if w.Base[block] || w.Now[block] {
			continue
		}
		if free > 0 {
			free--
		} else if block%2 == 0 {
			w.Base[block] = true
		} else {
			w.Now[block] = true
		}
	}
	return w
}

// committed is the wood that is made next.
func committed(w api.Wood) api.Wood {
	a, e := alloc.Commit(w.Alloc)
	if e != api.OK {
		panic(e)
	}
	w.Alloc = a
	w.Gen++
	return w
}

// The chapters' words, said one by one.

func mayBe(w api.Wood) bool {
	if len(w.Base) != len(w.Now) || len(w.Now) < 24 || len(w.Now) > 2048 || len(w.Pages) != len(w.Now) {
		return false
	}
	for i := range 10 {
		if !w.Base[i] || !w.Now[i] {
			return false
		}
	}
	for _, s := range w.Pages {
		if len(s) > 4096 {
			return false
		}
	}
	return (w.Root == 0 || w.Root >= 10 && w.Root < len(w.Now)) && w.Gen >= 1 && w.Gen <= 1099511627776
}

func freeOf(w api.Wood) int {
	n := 0
	for block := range w.Now {
		if !w.Base[block] && !w.Now[block] {
			n++
		}
	}
	return n
}

// held is the node that a block holds.
func held(w api.Wood, block int, root bool) (api.Node, bool) {
	if block < 10 || block >= len(w.Now) || !w.Now[block] {
		return api.Node{}, false
	}
	r := read(w.Pages[block])
	if !r.is || r.Gen > w.Gen || !root && len(r.node.Keys) < 4 {
		return api.Node{}, false
	}
	return r.node, true
}

// reading is what bytes of a block tell: a page, and whether it is a node's.
type reading struct {
	api.Page
	node api.Node
	is   bool
}

// readings are kept by their bytes, as most pages are held against the chapter again and again.
var readings sync.Map

func read(bytes string) reading {
	if r, is := readings.Load(bytes); is {
		return r.(reading)
	}
	var r reading
	var e api.Errno
	if r.Page, e = page.Get(bytes); e == api.OK && (r.Kind == 1 || r.Kind == 2) {
		r.node, e = node.Get(r.Kind, r.Body)
		r.is = e == api.OK
	}
	readings.Store(bytes, r)
	return r
}

// tree is what a wood tells that is one.
type tree struct {
	pairs  []api.Pair
	blocks []bool
	height int
}

func treeOf(w api.Wood) (tree, bool) {
	if !mayBe(w) {
		return tree{}, false
	}
	t := tree{blocks: make([]bool, len(w.Now))}
	if w.Root == 0 {
		return t, true
	}
	if !t.climb(w, w.Root, 1) || len(t.pairs) == 0 {
		return tree{}, false
	}
	return t, true
}

func (t *tree) climb(w api.Wood, block, depth int) bool {
	n, is := held(w, block, depth == 1)
	if !is || depth > 8 || t.blocks[block] {
		return false
	}
	t.blocks[block] = true
	if n.Leaf {
		for i, key := range n.Keys {
			t.pairs = append(t.pairs, api.Pair{Key: key, Val: n.Vals[i]})
		}
		if t.height == 0 {
			t.height = depth
		}
		return t.height == depth
	}
	for i, kid := range n.Kids {
		from := len(t.pairs)
		if !t.climb(w, kid, depth+1) {
			return false
		}
		for _, p := range t.pairs[from:] {
			if i > 0 && p.Key < n.Keys[i-1] || i < len(n.Keys) && p.Key >= n.Keys[i] {
				return false
			}
		}
	}
	return true
}

// pairsWith is pairs of which that key has that value.
func pairsWith(pairs []api.Pair, key, val string) []api.Pair {
	i := 0
	for i < len(pairs) && pairs[i].Key < key {
		i++
	}
	l := append(slices.Clone(pairs[:i]), api.Pair{Key: key, Val: val})
	if i < len(pairs) && pairs[i].Key == key {
		i++
	}
	return append(l, pairs[i:]...)
}

// Asking.

func brief(s string) string {
	if len(s) > 40 {
		return fmt.Sprintf("%d bytes %q..", len(s), s[:40])
	}
	return fmt.Sprintf("%q", s)
}

func show(w api.Wood) string {
	s := fmt.Sprintf("Root %d Gen %d, %d and %d places, %d pages", w.Root, w.Gen, len(w.Base), len(w.Now), len(w.Pages))
	for i := 10; i < min(len(w.Pages), len(w.Now), len(w.Base), 60); i++ {
		if w.Now[i] {
			p, _ := page.Get(w.Pages[i])
			n, e := node.Get(p.Kind, p.Body)
			s += fmt.Sprintf("\n\t%d: Base %t Kind %d Gen %d %q %d, %d", i, w.Base[i], p.Kind, p.Gen, n.Keys, n.Kids, e)
		}
	}
	return s
}

func wrongPair(key, val string) bool {
	return len(key) < 1 || len(key) > 32 || len(val) > 200
}

// fault is what is wrong with what Put tells (nothing: empty).
func fault(w api.Wood, key, val string, x api.Wood, e api.Errno) string {
	if e != api.OK && !isZero(x) {
		return "a wood beside an error"
	}
	if !mayBe(w) || wrongPair(key, val) {
		if e != api.ErrArg {
			return "not ErrArg"
		}
		return ""
	}
	old, is := treeOf(w)
	if !is {
		return wildFault(w, key, val, x, e)
	}
	if e == api.ErrSpace && freeOf(w) < 2*old.height+1 {
		return ""
	}
	if e != api.OK {
		return "an error that is none"
	}
	return treeFault(w, x, old, pairsWith(old.pairs, key, val))
}

// treeFault is what P9.1 says of a tree that is told.
func treeFault(w, x api.Wood, old tree, pairs []api.Pair) string {
	now, is := treeOf(x)
	if !is {
		return "no tree"
	}
	if !slices.Equal(now.pairs, pairs) {
		return fmt.Sprintf("other pairs: %q", now.pairs)
	}
	if !slices.Equal(x.Base, w.Base) || x.Gen != w.Gen {
		return "another Base or Gen"
	}
	for block := range w.Now {
		fresh := now.blocks[block] && (!old.blocks[block] || x.Pages[block] != w.Pages[block])
		if w.Base[block] && x.Pages[block] != w.Pages[block] {
			return fmt.Sprintf("what counts is not as it was in block %d", block)
		}
		if !now.blocks[block] && x.Pages[block] != w.Pages[block] {
			return fmt.Sprintf("block %d, which the tree has not, is not as it was", block)
		}
		if gen := read(x.Pages[block]).Gen; fresh && gen != w.Gen {
			return fmt.Sprintf("block %d is new, of Gen %d", block, gen)
		}
		if x.Now[block] != (w.Now[block] && !old.blocks[block] || now.blocks[block]) {
			return fmt.Sprintf("block %d in Now: %t", block, x.Now[block])
		}
	}
	return ""
}

// wildFault is what P9.3 says of a wood that may be and is no tree; and a pair that is put, if it is, is got.
func wildFault(w api.Wood, key, val string, x api.Wood, e api.Errno) string {
	if e == api.ErrTree || e == api.ErrSpace {
		return ""
	}
	if e != api.OK {
		return "an error that may not be"
	}
	if !mayBe(x) || !slices.Equal(x.Base, w.Base) || x.Gen != w.Gen {
		return "no wood that may be, or another Base or Gen"
	}
	for block := range w.Base {
		if w.Base[block] && x.Pages[block] != w.Pages[block] {
			return fmt.Sprintf("what counts is not as it was in block %d", block)
		}
	}
	if v, e := look.Get(x, key); v != val || e != api.OK {
		return fmt.Sprintf("Get: %s, %d", brief(v), e)
	}
	return ""
}

// put holds what Put tells against the chapter's words, and the wood against what it was.
func put(t *testing.T, w api.Wood, key, val string) (api.Wood, api.Errno) {
	t.Helper()
	was := twin(w)
	x, e := Put(w, key, val)
	if why := fault(was, key, val, x, e); why != "" {
		t.Fatalf("Put(%s; %s, %s): %d: %s: %s", show(was), brief(key), brief(val), e, why, show(x))
	}
	if !same(w, was) {
		t.Fatalf("Put(%s; %s, %s): %s", show(was), brief(key), brief(val), show(w))
	}
	return x, e
}

func putIs(t *testing.T, w api.Wood, key, val string, want api.Errno) api.Wood {
	t.Helper()
	x, e := put(t, w, key, val)
	if e != want {
		t.Fatalf("Put(%s; %s, %s): %d, not %d", show(w), brief(key), brief(val), e, want)
	}
	return x
}

// isNone has a test fail whose wood may not be, or is a tree.
func isNone(t *testing.T, w api.Wood) {
	t.Helper()
	if _, is := treeOf(w); is || !mayBe(w) {
		t.Fatalf("a tree, or none that may be: %s", show(w))
	}
}

// someKeys are keys that a tree has, ahead of all, behind all, and between two, of which each leaf gets some.
func someKeys(pairs []api.Pair) []string {
	l := []string{"\x00", "a", "k", "l", strings.Repeat("\xff", 32)}
	step := max(1, len(pairs)/12)
	for i := 0; i < len(pairs); i += step {
		l = append(l, pairs[i].Key, pairs[i].Key+"\x00", keyOf(i)[:5]+"0")
	}
	if len(pairs) > 0 {
		l = append(l, pairs[len(pairs)-1].Key, pairs[len(pairs)-1].Key+"5")
	}
	return l
}

// P9.1

func TestExamples(t *testing.T) {
	w := putIs(t, bare(24), "a", "1", api.OK)
	n, e := look.Load(w, 10, true)
	if w.Root != 10 || e != api.OK || !n.Leaf || !slices.Equal(n.Keys, []string{"a"}) || !slices.Equal(n.Vals, []string{"1"}) {
		t.Errorf("Root %d: %v, %d", w.Root, n, e)
	}
	for _, order := range []string{"abcdefghi", "ihgfedcba", "eaibhcgdf"} {
		w := bare(24)
		for i, key := range strings.Split(order, "") {
			w = putIs(t, w, key, fmt.Sprint(i), api.OK)
		}
		n, e := look.Load(w, w.Root, true)
		if e != api.OK || n.Leaf || len(n.Kids) != 2 || alloc.Free(w.Alloc) != 11 {
			t.Errorf("nine pairs: %v, %d: %s", n, e, show(w))
		}
		for _, kid := range n.Kids {
			if n, e := look.Load(w, kid, false); e != api.OK || !n.Leaf {
				t.Errorf("nine pairs: %v, %d: %s", n, e, show(w))
			}
		}
	}
}

func TestKeysAndValues(t *testing.T) {
	long := strings.Repeat("\xff", 33)
	for _, w := range append(bases(sown(24, shape{height: 2, fill: "few", gen: 2})), bare(24), rooted(with(bare(24), 23, leafOf("k")), 23)) {
		for _, size := range []int{0, 1, 2, 31, 32, 33, 64, 1 << 16} {
			for _, fill := range []string{"\x00", "a", "k", "z", "\xff"} {
				for _, room := range []int{0, 1, 199, 200, 201, 256, 1 << 16} {
					key, val := strings.Repeat(fill, size), strings.Repeat(fill, room)
					x, e := put(t, w, key, val)
					if wrong := size < 1 || size > 32 || room > 200; wrong != (e == api.ErrArg) {
						t.Errorf("a key of %d bytes, a value of %d: %d", size, room, e)
					}
					if v, f := look.Get(x, key); e == api.OK && (v != val || f != api.OK) {
						t.Errorf("a key of %d bytes, a value of %d: Get: %s, %d", size, room, brief(v), f)
					}
				}
			}
		}
		// A value goes, and another one comes.
		for _, vals := range [][]string{{"", long}, {long, ""}, {"v", "v"}, {"\x00", "\x00\x00"}} {
			if x, e := put(t, w, "q", vals[0]); e == api.OK {
				put(t, x, "q", vals[1])
			}
		}
	}
}

func TestRootLeaves(t *testing.T) {
	for count := 1; count <= 8; count++ {
		for _, how := range bases(rooted(with(bare(24), 12, leafOf("bdfhjlnp"[:count])), 12)) {
			for _, key := range strings.Split("abcdefghijklmnopq", "") {
				put(t, how, key, "new")
			}
			put(t, how, "b", "vb")
		}
		w := rooted(with(bare(24), 12, leafOf("bdfhjlnp"[:count])), 12)
		x := putIs(t, w, "g", "new", api.OK)
		now, _ := treeOf(x)
		if high := now.height == 2; high != (count == 8) {
			t.Errorf("%d keys and one more: %s", count, show(x))
		}
		if y := putIs(t, w, "b", "new", api.OK); y.Root != 12 || !slices.Equal(y.Now, w.Now) {
			t.Errorf("a key that is there: %s", show(y))
		}
	}
	for _, size := range []int{24, 25, 2047, 2048} {
		for _, gen := range []int{1, 2, 1<<40 - 1, 1 << 40} {
			w := bare(size)
			w.Gen = gen
			x := putIs(t, w, "key", "val", api.OK)
			if p, e := page.Get(x.Pages[x.Root]); e != api.OK || p.Gen != gen {
				t.Errorf("%v, %d", p, e)
			}
		}
	}
}

func TestPutOfTrees(t *testing.T) {
	t.Parallel()
	for _, w := range small() {
		old, is := treeOf(w)
		if !is {
			t.Fatalf("no tree: %s", show(w))
		}
		for _, v := range bases(w) {
			for i, key := range someKeys(old.pairs) {
				put(t, v, key, fmt.Sprint("new", i))
			}
		}
	}
}

// In a tree of full nodes each new key cuts all of them on its way, and the tree gets higher.
func TestFullNodes(t *testing.T) {
	t.Parallel()
	for height := 1; height <= 4; height++ {
		w := sown(850, shape{height: height, fill: "many", gen: 3})
		old, is := treeOf(w)
		if !is || old.height != height {
			t.Fatal("no tree")
		}
		for _, v := range bases(w)[:5] {
			for _, key := range []string{"a", "l", keyOf(len(old.pairs)/2) + "0", keyOf(1) + "0"} {
				x := putIs(t, v, key, "new", api.OK)
				now, _ := treeOf(x)
				if now.height != height+1 {
					t.Errorf("%d high, then %d", height, now.height)
				}
			}
			if now, _ := treeOf(putIs(t, v, keyOf(len(old.pairs)/2), "new", api.OK)); now.height != height {
				t.Errorf("%d high, then %d", height, now.height)
			}
		}
	}
}

// Full nodes below one that has room: each of them is cut, that one takes a child more, and the tree stays as high.
func TestFullNodesBelowOneWithRoom(t *testing.T) {
	t.Parallel()
	for height := 1; height <= 5; height++ {
		for from := 1; from <= height+1; from++ {
			s := sowing(2048, shape{height: height, fill: "path", from: from, gen: 2})
			leaf, _ := held(s.Wood, s.path[0], true)
			key := leaf.Keys[len(leaf.Keys)/2] + "0"
			cut, higher := height-from+1, 0
			if from == 1 {
				higher = 1
			}
			for _, w := range bases(s.Wood)[:5] {
				old, _ := treeOf(w)
				now, _ := treeOf(putIs(t, w, key, "new", api.OK))
				if now.height != height+higher || countOf(now.blocks) != countOf(old.blocks)+cut+higher {
					t.Errorf("%d high, full from %d on: %d high, %d blocks, then %d", height, from, now.height, countOf(old.blocks), countOf(now.blocks))
				}
			}
		}
	}
}

func countOf(blocks []bool) int {
	n := 0
	for _, is := range blocks {
		if is {
			n++
		}
	}
	return n
}

// Blocks that Base has not are rewritten, and a new value rewrites its leaf alone.
func TestBlocksAreRewritten(t *testing.T) {
	for _, w := range small() {
		old, _ := treeOf(w)
		w = roomy(bases(w)[0], 0)
		for i := 0; i < len(old.pairs); i += max(1, len(old.pairs)/9) {
			x := putIs(t, w, old.pairs[i].Key, "new", api.OK)
			changed := make([]bool, len(w.Pages))
			for block := range w.Pages {
				changed[block] = x.Pages[block] != w.Pages[block]
			}
			if x.Root != w.Root || !slices.Equal(x.Now, w.Now) || countOf(changed) != 1 {
				t.Errorf("%s, then %s", show(w), show(x))
			}
		}
	}
}

// oddKeys are keys that rise where careless holding against one another would have them fall.
func oddKeys() []string {
	long := strings.Repeat("k", 31)
	return []string{
		"\x00", "\x00\x00", "\x00\x01", "\x01", "1", "10", "2", "9", "A", "Z", "a", "a\x00", "a\x00\x00", "a\x01", "aa", "ab",
		"a\x7f", "a\x80", "a\xff", "b", long, long + "\x00", long + "\x7f", long + "\x80", long + "\xff", "z", "\x7e", "\x7f", "\x7f\xff", "\x80", "\x80\x01",
		"\xc3\xa9", "\xe2\x82\xac", "\xff", "\xff\x00", "\xff\xff", strings.Repeat("\xff", 32),
	}
}

func TestOddKeys(t *testing.T) {
	keys := oddKeys()
	seed := noise(5)
	for range 20 {
		w := bare(24 + seed.below(20))
		for i := range keys {
			j := i + seed.below(len(keys)-i)
			keys[i], keys[j] = keys[j], keys[i]
		}
		for i, key := range keys {
			if seed.below(7) == 0 {
				w = committed(w)
			}
			if x, e := put(t, w, key, strings.Repeat(key, i%7)[:min(200, len(key)*(i%7))]); e == api.OK {
				w = x
			}
		}
		for _, key := range keys {
			if x, e := put(t, w, key, "again"); e == api.OK {
				w = x
			}
		}
	}
}

// Nodes of the longest keys and values have room in a page.
func TestLongPairs(t *testing.T) {
	w := bare(40)
	for i := range 60 {
		key := fmt.Sprintf("%s%03d", strings.Repeat("\xfe", 29), 7*i%61)
		w = putIs(t, w, key, strings.Repeat(string([]byte{byte(i)}), 200), api.OK)
	}
	if now, _ := treeOf(w); len(now.pairs) != 60 || now.height < 2 {
		t.Error(show(w))
	}
}

// order is a row of the numbers below n.
func order(n int, how string) []int {
	l := make([]int, n)
	seed := noise(n)
	for i := range l {
		l[i] = i
		switch how {
		case "falling":
			l[i] = n - 1 - i
		case "mixed":
			j := seed.below(i + 1)
			l[i], l[j] = l[j], l[i]
		}
	}
	return l
}

// Pairs are put until there is no room, with commits between them; each is held against the chapter.
func TestPutUntilThereIsNoRoom(t *testing.T) {
	t.Parallel()
	for _, how := range []string{"rising", "falling", "mixed"} {
		for _, size := range []int{24, 29, 60} {
			for _, each := range []int{0, 1, 3, 10} {
				w := bare(size)
				n, last := 0, api.OK
				for i, k := range order(400, how) {
					var x api.Wood
					x, last = put(t, w, keyOf(k), fmt.Sprint("v", i))
					if last != api.OK {
						break
					}
					w, n = x, n+1
					if each > 0 && i%each == 0 {
						w = committed(w)
					}
				}
				if last != api.ErrSpace || n < size/2 {
					t.Errorf("%s in %d blocks, with a commit each %d: %d pairs, %d", how, size, each, n, last)
				}
			}
		}
	}
}

// A tree in as many blocks as may be gets six levels high.
func TestHighTree(t *testing.T) {
	t.Parallel()
	for _, how := range []string{"rising", "falling", "mixed"} {
		w := bare(2048)
		var pairs []api.Pair
		e := api.OK
		for i, k := range order(12000, how) {
			p := api.Pair{Key: keyOf(k), Val: fmt.Sprint("v", k)}
			if i%500 == 0 {
				put(t, w, p.Key, p.Val)
				w = committed(w)
			}
			var x api.Wood
			if x, e = Put(w, p.Key, p.Val); e != api.OK {
				break
			}
			w, pairs = x, append(pairs, p)
		}
		slices.SortFunc(pairs, func(a, b api.Pair) int { return strings.Compare(a.Key, b.Key) })
		now, is := treeOf(w)
		if !is || !slices.Equal(now.pairs, pairs) || e != api.ErrSpace {
			t.Fatalf("%s: %t, %d pairs, not %d; %d", how, is, len(now.pairs), len(pairs), e)
		}
		if how != "mixed" && now.height != 6 {
			t.Errorf("%s: %d pairs, %d high", how, len(pairs), now.height)
		}
		for _, key := range someKeys(pairs) {
			put(t, w, key, "new")
			put(t, committed(w), key, "new")
		}
	}
}

// P9.2

// In trees of full paths of which all counts as many blocks are taken as P9.2 names.
func TestRoom(t *testing.T) {
	t.Parallel()
	for height := 0; height <= 5; height++ {
		s := &sower{Wood: bare(24)}
		key := "new"
		if height > 0 {
			s = sowing(2048, shape{height: height, fill: "path", from: 1, gen: 2})
			n, _ := held(s.Wood, s.path[0], true)
			key = n.Keys[4] + "0"
		}
		old, is := treeOf(s.Wood)
		if !is || old.height != height {
			t.Fatalf("no tree: %s", show(s.Wood))
		}
		w := s.Wood
		w.Base = slices.Clone(w.Now)
		need := 2*height + 1
		for free := 0; free <= need+2; free++ {
			want := api.ErrSpace
			if free >= need {
				want = api.OK
			}
			x := putIs(t, roomy(w, free), key, "new", want)
			if left := alloc.Free(x.Alloc); want == api.OK && left != free-need {
				t.Errorf("%d high: of %d blocks %d are free", height, free, left)
			}
		}
		// A node stays where it is, if it need not count.
		for free := 0; free <= height+1; free++ {
			want := api.ErrSpace
			if free >= height+1 {
				want = api.OK
			}
			putIs(t, roomy(bases(s.Wood)[0], free), key, "new", want)
		}
	}
}

func TestRoomOfTrees(t *testing.T) {
	t.Parallel()
	refused := 0
	for i, w := range small() {
		old, _ := treeOf(w)
		for j, v := range bases(w) {
			keys := someKeys(old.pairs)
			for _, free := range []int{0, 1, old.height - 1, old.height, 2*old.height - 1, 2 * old.height, 2*old.height + 1} {
				for k := range 4 {
					if _, e := put(t, roomy(v, free), keys[(i+7*j+11*k)%len(keys)], "new"); e == api.ErrSpace {
						refused++
					}
				}
			}
		}
	}
	if refused < 50 {
		t.Errorf("only %d were refused", refused)
	}
}

// None free, and all of the tree counts: nothing new can be there.
func TestNoRoom(t *testing.T) {
	for _, w := range append(small(), bare(24), bare(2048)) {
		old, _ := treeOf(w)
		w.Base = slices.Clone(w.Now)
		for _, key := range someKeys(old.pairs) {
			putIs(t, roomy(w, 0), key, "new", api.ErrSpace)
			if x, e := All(roomy(w, 0), api.Pair{Key: key, Val: "new"}); e != api.ErrSpace || !isZero(x) {
				t.Errorf("All: %s, %d", show(x), e)
			}
		}
	}
}

// P9.3

// never are woods that may not be, of one that is a tree.
func never(w api.Wood) []api.Wood {
	var l []api.Wood
	n := len(w.Now)
	for _, cut := range []func(*api.Wood){
		func(w *api.Wood) { *w = api.Wood{} },
		func(w *api.Wood) { w.Base = nil },
		func(w *api.Wood) { w.Now = nil },
		func(w *api.Wood) { w.Pages = nil },
		func(w *api.Wood) { w.Base = w.Base[:n-1] },
		func(w *api.Wood) { w.Now = w.Now[:n-1] },
		func(w *api.Wood) { w.Pages = w.Pages[:n-1] },
		func(w *api.Wood) { w.Pages = append(w.Pages, "") },
		func(w *api.Wood) { w.Base, w.Now, w.Pages = w.Base[:23], w.Now[:23], w.Pages[:23] },
		func(w *api.Wood) { w.Base, w.Now, w.Pages = nil, nil, nil },
		func(w *api.Wood) { w.Base, w.Now, w.Pages = used(2049), used(2049), make([]string, 2049) },
		func(w *api.Wood) { w.Base[0] = false },
		func(w *api.Wood) { w.Now[9] = false },
		func(w *api.Wood) { w.Pages[0] = strings.Repeat("x", 4097) },
		func(w *api.Wood) { w.Pages[n-1] = strings.Repeat("\x00", 4097) },
		func(w *api.Wood) { w.Root = math.MinInt },
		func(w *api.Wood) { w.Root = -1 },
		func(w *api.Wood) { w.Root = 1 },
		func(w *api.Wood) { w.Root = 9 },
		func(w *api.Wood) { w.Root = n },
		func(w *api.Wood) { w.Root = math.MaxInt },
		func(w *api.Wood) { w.Gen = math.MinInt },
		func(w *api.Wood) { w.Gen = -1 },
		func(w *api.Wood) { w.Gen = 0 },
		func(w *api.Wood) { w.Gen = 1<<40 + 1 },
		func(w *api.Wood) { w.Gen = math.MaxInt },
	} {
		v := twin(w)
		cut(&v)
		l = append(l, v)
	}
	return l
}

func TestWoodsThatMayNotBe(t *testing.T) {
	long := strings.Repeat("x", 33)
	for _, w := range []api.Wood{bare(24), sown(24, shape{height: 2, fill: "few", gen: 1}), roomy(sown(24, shape{height: 1, fill: "many", gen: 1}), 0)} {
		for _, v := range never(w) {
			for _, p := range []api.Pair{{Key: "a", Val: "1"}, {Key: keyOf(0)}, {}, {Key: long}, {Key: "a", Val: strings.Repeat(long, 9)}} {
				putIs(t, v, p.Key, p.Val, api.ErrArg)
				if x, e := All(v, p, p); e != api.ErrArg || !isZero(x) {
					t.Errorf("All(%s; %v): %s, %d", show(v), p, show(x), e)
				}
			}
			if x, e := All(v); e != api.ErrArg || !isZero(x) {
				t.Errorf("All(%s): %s, %d", show(v), show(x), e)
			}
		}
	}
}

// twoLevels is a tree of three leaves: a to d in block 20, f to i in 10, k to n in 23; the root is in 12.
func twoLevels() api.Wood {
	w := bare(24)
	w = with(w, 20, leafOf("abcd"))
	w = with(w, 10, leafOf("fghi"))
	w = with(w, 23, leafOf("klmn"))
	return rooted(with(w, 12, innerOf("ek", 20, 10, 23)), 12)
}

// Faults that one comes to on the way to f are told.
func TestFaultsOnTheWay(t *testing.T) {
	w := twoLevels()
	nine := []int{10, 10, 10, 10, 10, 10, 10, 10, 10}
	for name, v := range map[string]api.Wood{
		"a root that Now has not":          without(w, 12),
		"a root that is no page":           withBytes(w, 12, "x"),
		"a root leaf of no key":            withBytes(w, 12, pageOf(1, api.Node{Leaf: true})),
		"a root of a generation to come":   withBytes(w, 12, pageOf(2, innerOf("ek", 20, 10, 23))),
		"a root that is its own child":     with(w, 12, innerOf("ek", 20, 12, 23)),
		"a root of no other child":         with(w, 12, innerOf("abcdefgh", 12, 12, 12, 12, 12, 12, 12, 12, 12)),
		"a child that Now has not":         without(w, 10),
		"a child that is no page":          withBytes(w, 10, ""),
		"a child of a generation to come":  withBytes(w, 10, pageOf(2, leafOf("fghi"))),
		"a child of three keys":            with(w, 10, leafOf("fgh")),
		"a child of no key":                withBytes(w, 10, pageOf(1, api.Node{Leaf: true})),
		"a child that is its own child":    with(w, 10, innerOf("fghi", 10, 10, 10, 10, 10)),
		"a full child that is its own one": with(w, 10, innerOf("efghijmn", nine...)),
		"a child that is the root":         with(w, 10, innerOf("fghi", 12, 12, 12, 12, 12)),
		"a child that is there twice":      with(w, 12, innerOf("ek", 20, 20, 23)),
		"a reserved child":                 withBytes(w, 12, pageOf(1, innerOf("ek", 20, 9, 23))),
		"a child behind the last block":    with(w, 12, innerOf("ek", 20, 24, 23)),
		"a key below its bound":            with(w, 10, leafOf("dfgh")),
		"a key that is the bound above it": with(w, 10, leafOf("fghk")),
		"a key above its bound":            with(w, 10, leafOf("fghz")),
	} {
		isNone(t, v)
		for _, u := range append(bases(v), roomy(v, 0), roomy(v, 1)) {
			for _, key := range []string{"f", "f0", "g", "ee"} {
				if x, e := Put(u, key, "new"); e != api.ErrTree || !isZero(x) {
					t.Errorf("%s: Put(%s): %s, %d", name, key, show(x), e)
				}
			}
			for _, key := range []string{"a", "b0", "e", "f", "i0", "k", "n0", "z"} {
				put(t, u, key, "new")
			}
			for _, key := range []string{"", strings.Repeat("f", 33)} {
				putIs(t, u, key, "new", api.ErrArg)
			}
			putIs(t, u, "f", strings.Repeat("v", 201), api.ErrArg)
		}
	}
}

// Faults beside the way need not be told; what is told may be.
func TestFaultsBesideTheWay(t *testing.T) {
	w := twoLevels()
	for _, v := range []api.Wood{
		without(w, 23), without(w, 20), withBytes(w, 23, "x"), with(w, 20, leafOf("abc")), with(w, 23, leafOf("alm")),
		with(w, 12, innerOf("ek", 10, 10, 10)), with(w, 12, innerOf("ek", 12, 10, 12)), with(w, 12, innerOf("ek", 10, 10, 12)),
	} {
		isNone(t, v)
		for _, u := range append(bases(v), roomy(v, 0), roomy(v, 1)) {
			x := u
			for i, key := range strings.Split("efghijefghijefghij", "") {
				y, e := put(t, x, strings.Repeat(key, 1+i/6), "new")
				if e == api.OK {
					x = y
				}
			}
			for _, key := range []string{"a", "d0", "k", "z"} {
				put(t, x, key, "new")
			}
		}
	}
}

// Leaves that are not equally deep: e to x lie one level below a to d.
func TestLeavesNotEquallyDeep(t *testing.T) {
	w := with(bare(40), 20, leafOf("ABCD"))
	for i, row := range []string{"abcd", "efgh", "ijkl", "mnop", "qrst"} {
		w = with(w, 11+i, leafOf(row))
	}
	w = with(w, 16, innerOf("eimq", 11, 12, 13, 14, 15))
	w = rooted(with(w, 10, innerOf("a", 20, 16)), 10)
	isNone(t, w)
	for _, v := range append(bases(w), roomy(w, 0), roomy(w, 2)) {
		x := v
		for i, key := range strings.Split("ABCaeimqtzABCaeimqtzABCaeimqtzABCaeimqtzABCaeimqtz", "") {
			if y, e := put(t, x, strings.Repeat(key, 1+i/10), "new"); e == api.OK {
				x = y
			}
		}
	}
}

// chain is so many full nodes below one another, the last one a leaf; the children beside them are in a block that holds nothing. Of more than six no tree has room, so this is none.
func chain(nodes int) (api.Wood, string) {
	w := rooted(bare(64), 10)
	for i := range nodes - 1 {
		n := api.Node{}
		for j := range 8 {
			n.Keys = append(n.Keys, strings.Repeat("d", i)+string([]byte{'a' + byte(j)}))
			n.Kids = append(n.Kids, 63)
		}
		n.Kids = append(n.Kids, 63)
		n.Kids[4] = 11 + i
		w = with(w, 10+i, n)
	}
	n := api.Node{Leaf: true}
	stem := strings.Repeat("d", nodes-1)
	for j := range 8 {
		n.Keys, n.Vals = append(n.Keys, stem+string([]byte{'a' + byte(j)})), append(n.Vals, "v")
	}
	return with(w, 10+nodes-1, n), stem
}

func TestMaxHeight(t *testing.T) {
	for nodes := 2; nodes <= 20; nodes++ {
		w, stem := chain(nodes)
		isNone(t, w)
		for _, v := range bases(w)[:5] {
			is, cut := api.OK, api.OK
			if nodes > 8 {
				is = api.ErrTree
			}
			// The root of eight nodes below one another has no room above it.
			if nodes >= 8 {
				cut = api.ErrTree
			}
			putIs(t, v, stem+"a", "new", is)
			putIs(t, v, stem+"a0", "new", cut)
		}
	}
}

// spoilt are woods that come of one by one fault in that block's page; some may still be trees.
func spoilt(w api.Wood, block int) []api.Wood {
	bytes := w.Pages[block]
	p, _ := page.Get(bytes)
	n, _ := node.Get(p.Kind, p.Body)
	l := []api.Wood{without(w, block), withBytes(w, block, ""), withBytes(w, block, strings.Repeat("x", 4096)), withBytes(w, block, bytes[:len(bytes)-1])}
	for _, gen := range []int{w.Gen, min(w.Gen+1, api.MaxTime), api.MaxTime} {
		l = append(l, withBytes(w, block, pageOf(gen, n)))
	}
	for i := range n.Keys {
		for _, key := range []string{"\x00", "j", n.Keys[i] + "\x00", "l", "\xff"} {
			m := n
			m.Keys = slices.Clone(n.Keys)
			m.Keys[i] = key
			l = append(l, with(w, block, m))
			slices.Sort(m.Keys)
			l = append(l, with(w, block, m))
		}
		m := n
		m.Keys = n.Keys[i:]
		if n.Leaf {
			m.Vals = n.Vals[i:]
		} else {
			m.Kids = n.Kids[i:]
		}
		l = append(l, with(w, block, m))
	}
	for i := range n.Kids {
		for _, kid := range []int{9, 10, block, w.Root, n.Kids[(i+1)%len(n.Kids)], len(w.Now) - 1, len(w.Now), 2047, 2048} {
			m := n
			m.Kids = slices.Clone(n.Kids)
			m.Kids[i] = kid
			l = append(l, with(w, block, m))
		}
	}
	return l
}

func TestWoodsWithAFault(t *testing.T) {
	t.Parallel()
	none := 0
	for _, how := range []shape{{height: 1, fill: "few", gen: 1}, {height: 2, fill: "many", gen: 2}, {height: 3, fill: "few", gen: 1}} {
		w := sown(30, how)
		old, _ := treeOf(w)
		keys := someKeys(old.pairs)
		for block := 10; block < len(w.Now); block++ {
			if !w.Now[block] {
				continue
			}
			for i, v := range spoilt(w, block) {
				if _, is := treeOf(v); !is {
					none++
				}
				v.Base = bases(v)[i%9].Base
				for j := range keys {
					if (i+j)%5 == 0 {
						put(t, v, keys[j], "new")
					}
				}
			}
		}
	}
	if none < 500 {
		t.Errorf("only %d woods are no tree", none)
	}
}

// Woods of nodes that were strewn about: most are no tree, many nearly. Pairs are put into what comes out.
func TestStrewnWoods(t *testing.T) {
	t.Parallel()
	const alphabet = "abcdefghijklmnopqrstuvwxyz"
	seed := noise(1)
	went := 0
	for range 800 {
		w := bare(24 + seed.below(4))
		w.Root = 10 + seed.below(6)
		for block := 10; block < 20; block++ {
			from := seed.below(12)
			keys := alphabet[from : from+1+seed.below(8)]
			if seed.below(3) > 0 {
				w = with(w, block, leafOf(keys))
			} else {
				var kids []int
				for range len(keys) + 1 {
					kids = append(kids, 10+seed.below(10))
				}
				w = with(w, block, innerOf(keys, kids...))
			}
			w.Base[block] = seed.below(3) == 0
		}
		w.Base[20] = seed.below(2) == 0
		for range 12 {
			at := seed.below(26)
			if x, e := put(t, w, alphabet[at:at+1]+"0"[seed.below(2):], "new"); e == api.OK {
				w = x
				went++
			}
		}
	}
	if went < 1000 {
		t.Errorf("only %d pairs were put", went)
	}
}

// P9.4

// oneByOne is what All is to tell.
func oneByOne(w api.Wood, pairs ...api.Pair) (api.Wood, api.Errno) {
	for _, p := range pairs {
		x, e := Put(w, p.Key, p.Val)
		if e != api.OK {
			return api.Wood{}, e
		}
		w = x
	}
	return w, api.OK
}

func all(t *testing.T, w api.Wood, pairs ...api.Pair) (api.Wood, api.Errno) {
	t.Helper()
	was, wasPairs := twin(w), slices.Clone(pairs)
	x, e := All(w, pairs...)
	want, f := oneByOne(w, pairs...)
	if !same(x, want) || e != f {
		t.Fatalf("All(%s; %v): %s, %d; not %s, %d", show(was), pairs, show(x), e, show(want), f)
	}
	if !same(w, was) || !slices.Equal(pairs, wasPairs) {
		t.Fatalf("All(%s; %v): %s, %v", show(was), wasPairs, show(w), pairs)
	}
	return x, e
}

func allIs(t *testing.T, want api.Errno, w api.Wood, pairs ...api.Pair) api.Wood {
	t.Helper()
	x, e := all(t, w, pairs...)
	if e != want {
		t.Fatalf("All(%s; %v): %d, not %d", show(w), pairs, e, want)
	}
	return x
}

func somePairs(n int) []api.Pair {
	var l []api.Pair
	for i := range n {
		l = append(l, api.Pair{Key: fmt.Sprintf("m%04d", i*37%n), Val: fmt.Sprint(i)})
	}
	return l
}

func TestAll(t *testing.T) {
	for _, w := range append(small(), bare(130)) {
		old, _ := treeOf(w)
		for _, v := range bases(w) {
			if x := allIs(t, api.OK, v); !same(x, v) {
				t.Errorf("no pairs: %s, then %s", show(v), show(x))
			}
			if x, e := All(v, []api.Pair{}...); e != api.OK || !same(x, v) {
				t.Errorf("no pairs: %s, then %s, %d", show(v), show(x), e)
			}
			all(t, v, api.Pair{Key: "k", Val: "one"})
			if x, e := all(t, v, somePairs(20)...); e == api.OK {
				want := old.pairs
				for _, p := range somePairs(20) {
					want = pairsWith(want, p.Key, p.Val)
				}
				if now, is := treeOf(x); !is || !slices.Equal(now.pairs, want) {
					t.Errorf("%v, not %v", now.pairs, want)
				}
			}
		}
	}
	x := allIs(t, api.OK, bare(2048), somePairs(700)...)
	if now, is := treeOf(x); !is || len(now.pairs) != 700 {
		t.Error(show(x))
	}
	// The later one of two pairs of one key stays.
	x = allIs(t, api.OK, bare(24), api.Pair{Key: "a", Val: "1"}, api.Pair{Key: "b", Val: "2"}, api.Pair{Key: "a", Val: "3"})
	if now, _ := treeOf(x); x.Root != 10 || !slices.Equal(now.pairs, []api.Pair{{Key: "a", Val: "3"}, {Key: "b", Val: "2"}}) {
		t.Error(show(x))
	}
}

// The error of the first pair that has one is told, wherever it stands.
func TestAllUpToTheFirstError(t *testing.T) {
	long := strings.Repeat("x", 33)
	wide := strings.Repeat("v", 201)
	for _, wrong := range []api.Pair{{}, {Val: "1"}, {Key: long}, {Key: "a", Val: wide}, {Key: long, Val: wide}} {
		for _, n := range []int{1, 2, 9, 20} {
			for at := range n + 1 {
				pairs := slices.Insert(somePairs(n), at, wrong)
				allIs(t, api.ErrArg, bare(40), pairs...)
			}
		}
		// A wrong pair behind one that has no room is not come to.
		full := roomy(bare(24), 0)
		allIs(t, api.ErrSpace, full, api.Pair{Key: "a"}, wrong)
		allIs(t, api.ErrArg, full, wrong, api.Pair{Key: "a"})
		broken := without(twoLevels(), 10)
		allIs(t, api.ErrTree, broken, api.Pair{Key: "f"}, wrong)
		allIs(t, api.ErrArg, broken, wrong, api.Pair{Key: "f"})
		allIs(t, api.ErrTree, broken, api.Pair{Key: "a"}, api.Pair{Key: "f"}, wrong)
	}
	allIs(t, api.OK, without(twoLevels(), 10))
}

// There is room for all pairs but the last one.
func TestAllButTheLastOne(t *testing.T) {
	for _, size := range []int{24, 25, 40} {
		for _, how := range []string{"rising", "falling", "mixed"} {
			w, n := bare(size), 0
			var pairs []api.Pair
			for _, k := range order(400, how) {
				pairs = append(pairs, api.Pair{Key: keyOf(k), Val: fmt.Sprint("v", k)})
				x, e := Put(w, keyOf(k), fmt.Sprint("v", k))
				if e != api.OK {
					break
				}
				w, n = x, n+1
			}
			if x := allIs(t, api.OK, bare(size), pairs[:n]...); !same(x, w) {
				t.Errorf("%s, not %s", show(x), show(w))
			}
			allIs(t, api.ErrSpace, bare(size), pairs...)
			allIs(t, api.ErrSpace, bare(size), append(pairs, api.Pair{})...)
		}
	}
}

// P9.5

func TestWhatIsPutIsGot(t *testing.T) {
	t.Parallel()
	seed := noise(9)
	for _, w := range append(small(), bare(60)) {
		old, _ := treeOf(w)
		keys := someKeys(old.pairs)
		for range 12 {
			key := keys[seed.below(len(keys))]
			val := strings.Repeat("w", seed.below(201))
			x, e := put(t, w, key, val)
			if e != api.OK {
				continue
			}
			if v, e := look.Get(x, key); v != val || e != api.OK {
				t.Errorf("Get(%q): %s, %d", key, brief(v), e)
			}
			for _, other := range keys {
				v, e := look.Get(w, other)
				if is, f := look.Get(x, other); other != key && (v != is || e != f) {
					t.Errorf("Get(%q): %s, %d; then %s, %d", other, brief(v), e, brief(is), f)
				}
			}
			w = x
			if seed.below(3) == 0 && w.Gen < api.MaxTime {
				w = committed(w)
			}
		}
	}
}

func TestPutTwice(t *testing.T) {
	t.Parallel()
	for _, w := range append(small(), bare(24)) {
		old, _ := treeOf(w)
		for _, v := range bases(w)[:6] {
			for _, key := range someKeys(old.pairs)[:min(9, len(someKeys(old.pairs)))] {
				first, e := put(t, v, key, "first")
				if e != api.OK {
					continue
				}
				twice, e := put(t, first, key, "second")
				once, f := put(t, v, key, "second")
				if e != api.OK || f != api.OK {
					continue
				}
				a, _ := treeOf(twice)
				b, _ := treeOf(once)
				if !slices.Equal(a.pairs, b.pairs) {
					t.Errorf("%q: %v, not %v", key, a.pairs, b.pairs)
				}
			}
		}
	}
}

// What counted is there as it was, whatever was put since.
func TestWhatCountedStays(t *testing.T) {
	t.Parallel()
	seed := noise(3)
	for _, size := range []int{24, 40, 100, 400} {
		w := bare(size)
		for range 12 {
			w = committed(w)
			counted, _ := treeOf(w)
			now, root := w.Now, w.Root
			for range 1 + seed.below(size/2) {
				if x, e := put(t, w, keyOf(seed.below(2*size)), strings.Repeat("w", seed.below(201))); e == api.OK {
					w = x
				}
				then := twin(w)
				then.Now, then.Root = slices.Clone(now), root
				if is, ok := treeOf(then); !ok || !slices.Equal(is.pairs, counted.pairs) {
					t.Fatalf("%v, then %v", counted.pairs, is.pairs)
				}
				if l, _, e := look.Scan(then, "", 256); e != api.OK || !slices.Equal(l, counted.pairs[:min(256, len(counted.pairs))]) {
					t.Fatalf("%v, then %v, %d", counted.pairs, l, e)
				}
			}
		}
	}
}

// P1 and the rules

// Of two errors the one named first is told, and nothing beside it.
func TestFirstError(t *testing.T) {
	long := strings.Repeat("x", 33)
	wide := strings.Repeat("v", 201)
	tight := sown(24, shape{height: 2, fill: "few", gen: 1})
	tight.Base = slices.Clone(tight.Now)
	for _, w := range []api.Wood{roomy(bare(24), 0), roomy(tight, 0), rooted(bare(24), 10), without(twoLevels(), 12), roomy(without(twoLevels(), 10), 0)} {
		for _, p := range []api.Pair{{}, {Val: wide}, {Key: long}, {Key: "f", Val: wide}, {Key: long, Val: wide}} {
			putIs(t, w, p.Key, p.Val, api.ErrArg)
			allIs(t, api.ErrArg, w, p)
		}
		if _, e := put(t, w, "f", "1"); e != api.ErrSpace && e != api.ErrTree {
			t.Errorf("%s: %d", show(w), e)
		}
	}
}

// Every call ends and none panics, also of great arguments.
func TestGreatArguments(t *testing.T) {
	huge := strings.Repeat("h", 1<<24)
	for _, w := range []api.Wood{bare(24), bare(2048), twoLevels(), rooted(bare(24), 10)} {
		putIs(t, w, huge, "", api.ErrArg)
		putIs(t, w, "h", huge, api.ErrArg)
		putIs(t, w, huge, huge, api.ErrArg)
		if x, e := All(w, make([]api.Pair, 1<<20)...); e != api.ErrArg || !isZero(x) {
			t.Errorf("%s, %d", show(x), e)
		}
	}
	many := bare(1 << 20)
	putIs(t, many, "a", "1", api.ErrArg)
	putIs(t, withBytes(bare(24), 10, huge), "a", "1", api.ErrArg)
	w := bare(24)
	w.Pages = many.Pages
	putIs(t, w, "a", "1", api.ErrArg)
	if x, e := All(many); e != api.ErrArg || !isZero(x) {
		t.Errorf("All: %d", e)
	}
	x, e := All(bare(24), slices.Repeat([]api.Pair{{Key: "a", Val: "1"}}, 5000)...)
	if now, is := treeOf(x); e != api.OK || !is || len(now.pairs) != 1 {
		t.Errorf("%s, %d", show(x), e)
	}
}

// spacious is a wood whose lists have room behind their ends, where something stands.
func spacious(w api.Wood) api.Wood {
	n := len(w.Now)
	w.Base = append(append(make([]bool, 0, 2*n), w.Base...), true, false)[:n]
	w.Now = append(append(make([]bool, 0, 2*n), w.Now...), false, true)[:n]
	w.Pages = append(append(make([]string, 0, 2*n), w.Pages...), "x", "y")[:n]
	return w
}

func whole(w api.Wood) api.Wood {
	w.Base, w.Now, w.Pages = w.Base[:cap(w.Base)], w.Now[:cap(w.Now)], w.Pages[:cap(w.Pages)]
	return twin(w)
}

func TestArgumentsStay(t *testing.T) {
	for _, w := range append(small(), bare(24), twoLevels(), without(twoLevels(), 10)) {
		for _, v := range append(bases(rooted(w, w.Root))[:6], roomy(w, 1)) {
			v = spacious(v)
			was := whole(v)
			pairs := append(make([]api.Pair, 0, 60), append(somePairs(30), api.Pair{Key: "behind"})...)
			wasPairs := slices.Clone(pairs)
			for _, p := range pairs[:5] {
				Put(v, p.Key, p.Val)
			}
			All(v, pairs[:30]...)
			All(v)
			if !same(whole(v), was) || !slices.Equal(pairs, wasPairs) {
				t.Errorf("%s was %s", show(v), show(was))
			}
		}
	}
}

// An answer is new memory: what becomes of it is seen neither in an argument nor in another list of it.
func TestAnswersAreNewMemory(t *testing.T) {
	full := sown(130, shape{height: 2, fill: "many", gen: 1})
	for _, w := range append(bases(full), bare(24), twoLevels()) {
		was := twin(w)
		for _, pairs := range [][]api.Pair{nil, {{Key: keyOf(0), Val: "new"}}, {{Key: "f", Val: "new"}}, somePairs(9)} {
			x, e := All(w, pairs...)
			if e != api.OK {
				continue
			}
			want := twin(x)
			for i := range x.Base {
				x.Base[i] = !x.Base[i]
			}
			if !slices.Equal(x.Now, want.Now) {
				t.Error("Base and Now share a list")
			}
			for i := range x.Now {
				x.Now[i] = !x.Now[i]
				x.Pages[i] += "x"
			}
			if !same(w, was) {
				t.Fatalf("an answer and an argument share a list: %s was %s", show(w), show(was))
			}
			if y, _ := All(w, pairs...); !same(y, want) {
				t.Errorf("%s, then %s", show(want), show(y))
			}
		}
	}
}

// No call keeps anything: asked again, behind others, it answers the same.
func TestCallsKeepNothing(t *testing.T) {
	woods := append(small(), bare(24), twoLevels(), without(twoLevels(), 10), roomy(bare(24), 0), api.Wood{})
	tell := func(w api.Wood) string {
		s := ""
		for _, key := range []string{"", "a", "f", keyOf(2), keyOf(2) + "0", "n"} {
			x, e := Put(w, key, "new")
			s += fmt.Sprint(x, e)
			x, e = All(w, api.Pair{Key: "a", Val: "1"}, api.Pair{Key: key, Val: "2"})
			s += fmt.Sprint(x, e)
		}
		return s
	}
	var first []string
	for _, w := range woods {
		first = append(first, tell(w))
	}
	for i := len(woods) - 1; i >= 0; i-- {
		if tell(woods[i]) != first[i] {
			t.Errorf("other answers: %s", show(woods[i]))
		}
	}
}
