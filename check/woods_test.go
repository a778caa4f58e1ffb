package check

import (
	"fmt"
	"math"
	"slices"
	"strings"
	"sync"

	"penelope/api"
	"penelope/node"
	"penelope/page"
)

// Woods to be checked.

func used(n int, blocks ...int) []bool {
	l := make([]bool, n)
	for i := range 10 {
		l[i] = true
	}
	for _, block := range blocks {
		l[block] = true
	}
	return l
}

// bare is a wood of so many blocks, in which nothing lies.
func bare(n int) api.Wood {
	return api.Wood{Alloc: api.Alloc{Base: used(n), Now: used(n)}, Pages: make([]string, n), Gen: 1}
}

func twin(w api.Wood) api.Wood {
	return api.Wood{
		Alloc: api.Alloc{Base: slices.Clone(w.Base), Now: slices.Clone(w.Now)},
		Pages: slices.Clone(w.Pages),
		Root:  w.Root,
		Gen:   w.Gen,
	}
}

func same(a, b api.Wood) bool {
	return slices.Equal(a.Base, b.Base) && slices.Equal(a.Now, b.Now) && slices.Equal(a.Pages, b.Pages) &&
		a.Root == b.Root && a.Gen == b.Gen
}

// textOf is a node's bytes, whether it may be or not.
func textOf(n api.Node) string {
	two := func(n int) string { return string([]byte{byte(n >> 8), byte(n)}) }
	s := string([]byte{byte(len(n.Keys))})
	if n.Leaf {
		for i, key := range n.Keys {
			s += two(len(key)) + key + two(len(n.Vals[i])) + n.Vals[i]
		}
		return s
	}
	for i, kid := range n.Kids {
		s += two(kid)
		if i < len(n.Keys) {
			s += two(len(n.Keys[i])) + n.Keys[i]
		}
	}
	return s
}

func kindOf(n api.Node) int {
	if n.Leaf {
		return api.PLeaf
	}
	return api.PInner
}

func pageOf(kind, gen int, n api.Node) string {
	s, e := page.Put(api.Page{Kind: kind, Gen: gen, Body: textOf(n)})
	if e != api.OK {
		panic(e)
	}
	return s
}

// leafOf has the value v and the key for each letter.
func leafOf(letters string) api.Node {
	n := api.Node{Leaf: true}
	for _, key := range strings.Split(letters, "") {
		n.Keys, n.Vals = append(n.Keys, key), append(n.Vals, "v"+key)
	}
	return n
}

func innerOf(letters string, kids ...int) api.Node {
	return api.Node{Keys: strings.Split(letters, ""), Kids: kids}
}

// with is a wood in which that node lies in that block; the one that was handed in stays.
func with(w api.Wood, block int, n api.Node) api.Wood {
	return withBytes(w, block, pageOf(kindOf(n), w.Gen, n))
}

func withBytes(w api.Wood, block int, bytes string) api.Wood {
	w = twin(w)
	w.Now[block], w.Pages[block] = true, bytes
	return w
}

// without and using are woods whose Now has those blocks not, or has them.
func without(w api.Wood, blocks ...int) api.Wood { return marked(w, false, blocks) }

func using(w api.Wood, blocks ...int) api.Wood { return marked(w, true, blocks) }

func marked(w api.Wood, has bool, blocks []int) api.Wood {
	w = twin(w)
	for _, block := range blocks {
		w.Now[block] = has
	}
	return w
}

func rooted(w api.Wood, root int) api.Wood {
	w.Root = root
	return w
}

// noise is numbers that look like no pattern, the same ones each time.
type noise uint32

func (n *noise) below(limit int) int {
	*n = *n*1664525 + 1013904223
	return int(uint32(*n)>>8) % limit
}

func (n *noise) mixed(l []int) []int {
	l = slices.Clone(l)
	for i := range l {
		j := n.below(i + 1)
		l[i], l[j] = l[j], l[i]
	}
	return l
}

// shape is how a tree is sown: how high it is, and how many keys each node of a level has, by its number there.
type shape struct {
	height int
	keys   func(depth, nth int) int
	loose  bool // a key that parts two children is one that no leaf has
	down   bool // blocks are taken from the last one on
	gen    int
}

// few, many and some tell how many keys a node has: as few as may be, as many, and any number between.
func few(depth, nth int) int {
	if depth == 1 {
		return 1
	}
	return 4
}

func many(depth, nth int) int { return 8 }

func some(depth, nth int) int {
	seed := noise(31*depth + 7*nth)
	return few(depth, nth) + seed.below(5)
}

// sower makes a tree from the root down; its keys are k00005, k00015 and so on, with room between any two.
type sower struct {
	shape
	api.Wood
	blocks []int
	pairs  int
	made   [9]int // nodes by level
}

func keyOf(i int) string { return fmt.Sprintf("k%05d", 10*i+5) }

func sown(size int, how shape) *sower {
	s := &sower{shape: how, Wood: bare(size)}
	s.Gen = max(how.gen, 1)
	s.Root = s.sow(1)
	slices.Sort(s.blocks)
	return s
}

// sow tells a node's block.
func (s *sower) sow(depth int) int {
	count := s.keys(depth, s.made[depth])
	s.made[depth]++
	n := api.Node{Leaf: depth == s.height}
	if n.Leaf {
		for range count {
			n.Keys, n.Vals = append(n.Keys, keyOf(s.pairs)), append(n.Vals, fmt.Sprint("v", s.pairs))
			s.pairs++
		}
	} else {
		n.Kids = []int{s.sow(depth + 1)}
		for range count {
			key := keyOf(s.pairs)
			if s.loose {
				key = key[:len(key)-1] + "0"
			}
			n.Keys, n.Kids = append(n.Keys, key), append(n.Kids, s.sow(depth+1))
		}
	}
	block := 10 + len(s.blocks)
	if s.down {
		block = len(s.Now) - 1 - len(s.blocks)
	}
	// Pages of a tree are of any generation up to the wood's, 0 among them.
	s.Now[block], s.Pages[block] = true, pageOf(kindOf(n), len(s.blocks)%(min(s.Gen, 5)+1), n)
	s.blocks = append(s.blocks, block)
	return block
}

// small are trees of one to three levels.
func small() []*sower {
	var l []*sower
	for i, keys := range []func(depth, nth int) int{few, many, some} {
		for height := 1; height <= 3; height++ {
			size := 130
			if height == 1 || height == 2 && i == 0 {
				size = 24
			}
			for _, how := range []shape{{gen: 1}, {gen: 4, loose: true, down: true}, {gen: api.MaxTime - i%2, loose: true}} {
				how.height, how.keys = height, keys
				l = append(l, sown(size, how))
			}
		}
	}
	return l
}

// bases are woods that are that one but for what counts: none of the tree, all of it, some of it, and blocks that the tree has not.
func bases(w api.Wood) []api.Wood {
	seed := noise(len(w.Now))
	of := func(has func(block int) bool) api.Wood {
		v := twin(w)
		for block := 10; block < len(v.Base); block++ {
			v.Base[block] = has(block)
		}
		return v
	}
	return []api.Wood{
		of(func(block int) bool { return false }),
		of(func(block int) bool { return true }),
		of(func(block int) bool { return w.Now[block] }),
		of(func(block int) bool { return w.Now[block] && block != w.Root }),
		of(func(block int) bool { return w.Now[block] && seed.below(2) == 0 }),
		of(func(block int) bool { return seed.below(3) == 0 }),
		of(func(block int) bool { return !w.Now[block] }),
	}
}

// twoLevels is a tree of three leaves: a to d in block 20, f to i in 10, k to n in 23; the root is in 12.
func twoLevels() api.Wood {
	w := bare(24)
	w = with(w, 20, leafOf("abcd"))
	w = with(w, 10, leafOf("fghi"))
	w = with(w, 23, leafOf("klmn"))
	return rooted(with(w, 12, innerOf("ek", 20, 10, 23)), 12)
}

// never are woods that may not be, of one that is a tree.
func never(w api.Wood) []api.Wood {
	var l []api.Wood
	n := len(w.Now)
	for _, cut := range []func(*api.Wood){
		func(w *api.Wood) { *w = api.Wood{} },
		func(w *api.Wood) { w.Base = nil },
		func(w *api.Wood) { w.Now = nil },
		func(w *api.Wood) { w.Pages = nil },
		func(w *api.Wood) { w.Base = w.Base[:n-1] },
		func(w *api.Wood) { w.Now = w.Now[:n-1] },
		func(w *api.Wood) { w.Pages = w.Pages[:n-1] },
		func(w *api.Wood) { w.Pages = append(w.Pages, "") },
		func(w *api.Wood) { w.Base, w.Now, w.Pages = w.Base[:23], w.Now[:23], w.Pages[:23] },
		func(w *api.Wood) { w.Base, w.Now, w.Pages = w.Base[:0], w.Now[:0], w.Pages[:0] },
		func(w *api.Wood) { w.Base, w.Now, w.Pages = used(2049), used(2049), make([]string, 2049) },
		func(w *api.Wood) { w.Base[0] = false },
		func(w *api.Wood) { w.Base[9] = false },
		func(w *api.Wood) { w.Now[0] = false },
		func(w *api.Wood) { w.Now[9] = false },
		func(w *api.Wood) { w.Pages[0] = strings.Repeat("x", 4097) },
		func(w *api.Wood) { w.Pages[n-1] = strings.Repeat("\x00", 4097) },
		func(w *api.Wood) { w.Root = math.MinInt },
		func(w *api.Wood) { w.Root = -1 },
		func(w *api.Wood) { w.Root = 1 },
		func(w *api.Wood) { w.Root = 9 },
		func(w *api.Wood) { w.Root = n },
		func(w *api.Wood) { w.Root = math.MaxInt },
		func(w *api.Wood) { w.Gen = math.MinInt },
		func(w *api.Wood) { w.Gen = -1 },
		func(w *api.Wood) { w.Gen = 0 },
		func(w *api.Wood) { w.Gen = 1<<40 + 1 },
		func(w *api.Wood) { w.Gen = math.MaxInt },
	} {
		v := twin(w)
		cut(&v)
		l = append(l, v)
	}
	return l
}

// spoilt are woods that come of one by one fault in that block's page; some may still be trees.
func spoilt(w api.Wood, block int) []api.Wood {
	bytes := w.Pages[block]
	n := read(bytes).node
	l := []api.Wood{without(w, block), withBytes(w, block, ""), withBytes(w, block, strings.Repeat("x", 4096)), withBytes(w, block, bytes[:len(bytes)-1])}
	for kind := 1; kind <= 5; kind++ {
		l = append(l, withBytes(w, block, pageOf(kind, w.Gen, n)))
	}
	for _, gen := range []int{0, min(w.Gen+1, api.MaxTime), api.MaxTime} {
		l = append(l, withBytes(w, block, pageOf(kindOf(n), gen, n)))
	}
	for i := range n.Keys {
		for _, key := range []string{"\x00", "j", n.Keys[i] + "\x00", n.Keys[i][:len(n.Keys[i])-1] + "1", "l", "\xff"} {
			m := n
			m.Keys = slices.Clone(n.Keys)
			m.Keys[i] = key
			l = append(l, with(w, block, m))
			slices.Sort(m.Keys)
			l = append(l, with(w, block, m))
		}
		m := n
		m.Keys = n.Keys[i:]
		if n.Leaf {
			m.Vals = n.Vals[i:]
		} else {
			m.Kids = n.Kids[i:]
		}
		l = append(l, with(w, block, m))
	}
	for i := range n.Kids {
		for _, kid := range []int{9, 10, block, w.Root, n.Kids[(i+1)%len(n.Kids)], len(w.Now) - 1, len(w.Now), 2047, 2048} {
			m := n
			m.Kids = slices.Clone(n.Kids)
			m.Kids[i] = kid
			l = append(l, with(w, block, m))
		}
	}
	return l
}

// spacious is a wood whose lists have room behind their ends, where something stands.
func spacious(w api.Wood) api.Wood {
	n := len(w.Now)
	w.Base = append(append(make([]bool, 0, 2*n), w.Base...), true, false)[:n]
	w.Now = append(append(make([]bool, 0, 2*n), w.Now...), false, true)[:n]
	w.Pages = append(append(make([]string, 0, 2*n), w.Pages...), "x", "y")[:n]
	return w
}

func whole(w api.Wood) api.Wood {
	w.Base, w.Now, w.Pages = w.Base[:cap(w.Base)], w.Now[:cap(w.Now)], w.Pages[:cap(w.Pages)]
	return twin(w)
}

// The chapters' words, said one by one.

func mayBe(w api.Wood) bool {
	if len(w.Base) != len(w.Now) || len(w.Now) < 24 || len(w.Now) > 2048 || len(w.Pages) != len(w.Now) {
		return false
	}
	for i := range 10 {
		if !w.Base[i] || !w.Now[i] {
			return false
		}
	}
	for _, s := range w.Pages {
		if len(s) > 4096 {
			return false
		}
	}
	return (w.Root == 0 || w.Root >= 10 && w.Root < len(w.Now)) && w.Gen >= 1 && w.Gen <= 1099511627776
}

// holds is the node that a block holds.
func holds(w api.Wood, block int, root bool) (api.Node, bool) {
	if block < 10 || block >= len(w.Now) || !w.Now[block] {
		return api.Node{}, false
	}
	r := read(w.Pages[block])
	if !r.is || r.Gen > w.Gen || !root && len(r.node.Keys) < 4 {
		return api.Node{}, false
	}
	return r.node, true
}

// reading is what bytes of a block tell: a page, and whether it is a node's.
type reading struct {
	api.Page
	node api.Node
	is   bool
}

// readings are kept by their bytes, as most pages are held against the chapter again and again.
var readings sync.Map

func read(bytes string) reading {
	if r, is := readings.Load(bytes); is {
		return r.(reading)
	}
	var r reading
	var e api.Errno
	if r.Page, e = page.Get(bytes); e == api.OK && (r.Kind == 1 || r.Kind == 2) {
		r.node, e = node.Get(r.Kind, r.Body)
		r.is = e == api.OK
	}
	readings.Store(bytes, r)
	return r
}

// tree is what a wood tells that is one.
type tree struct {
	keys   []string
	blocks []int
	deep   []int // how deep each leaf lies
}

func treeOf(w api.Wood) (tree, bool) {
	var t tree
	if !mayBe(w) {
		return tree{}, false
	}
	if w.Root == 0 {
		return t, true
	}
	if !t.climb(w, w.Root, 1) || len(t.keys) == 0 || slices.Min(t.deep) != slices.Max(t.deep) {
		return tree{}, false
	}
	return t, true
}

func (t *tree) climb(w api.Wood, block, depth int) bool {
	n, is := holds(w, block, depth == 1)
	if !is || depth > 8 || slices.Contains(t.blocks, block) {
		return false
	}
	t.blocks = append(t.blocks, block)
	if n.Leaf {
		t.keys, t.deep = append(t.keys, n.Keys...), append(t.deep, depth)
		return true
	}
	for i, kid := range n.Kids {
		from := len(t.keys)
		if !t.climb(w, kid, depth+1) {
			return false
		}
		// Of an inner node only what leaves below it have is held against its keys, as the chapter says it.
		for _, key := range t.keys[from:] {
			if i > 0 && key < n.Keys[i-1] || i < len(n.Keys) && key >= n.Keys[i] {
				return false
			}
		}
	}
	return true
}

// blocksOf is what Blocks is to tell, checkOf what Check is to.
func blocksOf(w api.Wood) ([]int, api.Errno) {
	t, is := treeOf(w)
	if !mayBe(w) {
		return nil, api.ErrArg
	}
	if !is {
		return nil, api.ErrTree
	}
	slices.Sort(t.blocks)
	return t.blocks, api.OK
}

func checkOf(w api.Wood, more ...int) (api.Report, api.Errno) {
	blocks, e := blocksOf(w)
	if e != api.OK {
		return api.Report{}, e
	}
	for i, block := range more {
		if block < 10 || block >= len(w.Now) || slices.Contains(blocks, block) || slices.Contains(more[:i], block) {
			return api.Report{}, api.ErrTree
		}
	}
	for block, is := range w.Now {
		if is != (block < 10 || slices.Contains(blocks, block) || slices.Contains(more, block)) {
			return api.Report{}, api.ErrTree
		}
	}
	t, _ := treeOf(w)
	r := api.Report{Pairs: len(t.keys), Blocks: len(blocks)}
	if len(t.deep) > 0 {
		r.Height = t.deep[0]
	}
	return r, api.OK
}

func show(w api.Wood) string {
	s := fmt.Sprintf("Root %d Gen %d, %d and %d places, %d pages", w.Root, w.Gen, len(w.Base), len(w.Now), len(w.Pages))
	for i := 10; i < min(len(w.Pages), len(w.Now), len(w.Base), 60); i++ {
		if w.Now[i] {
			r := read(w.Pages[i])
			s += fmt.Sprintf("\n\t%d: Kind %d Gen %d %q %d, %t", i, r.Kind, r.Gen, r.node.Keys, r.node.Kids, r.is)
		}
	}
	return s
}
