package look

import (
	"fmt"
	"math"
	"slices"
	"strings"
	"testing"

	"penelope/api"
	"penelope/node"
	"penelope/page"
)

const (
	lowest  = math.MinInt
	highest = math.MaxInt
)

// Woods to be asked about.

func used(n int, blocks ...int) []bool {
	l := make([]bool, n)
	for i := range 10 {
		l[i] = true
	}
	for _, block := range blocks {
		l[block] = true
	}
	return l
}

// bare is a wood of so many blocks, in which nothing lies.
func bare(n int) api.Wood {
	return api.Wood{Alloc: api.Alloc{Base: used(n), Now: used(n)}, Pages: make([]string, n), Gen: 1}
}

// number is a text of two bytes.
func number(n int) string { return string([]byte{byte(n >> 8), byte(n)}) }

// body is a node's bytes, whether it may be or not.
func body(n api.Node) string {
	s := string([]byte{byte(len(n.Keys))})
	for i := 0; n.Leaf && i < len(n.Keys); i++ {
		s += number(len(n.Keys[i])) + n.Keys[i] + number(len(n.Vals[i])) + n.Vals[i]
	}
	for i := 0; !n.Leaf && i < len(n.Kids); i++ {
		s += number(n.Kids[i])
		if i < len(n.Keys) {
			s += number(len(n.Keys[i])) + n.Keys[i]
		}
	}
	return s
}

func kindOf(n api.Node) int {
	if n.Leaf {
		return api.PLeaf
	}
	return api.PInner
}

func paged(kind, gen int, text string) string {
	s, e := page.Put(api.Page{Kind: kind, Gen: gen, Body: text})
	if e != api.OK {
		panic(e)
	}
	return s
}

// leafOf has the value v and the key for each key.
func leafOf(keys ...string) api.Node {
	n := api.Node{Leaf: true, Keys: keys}
	for _, key := range keys {
		n.Vals = append(n.Vals, "v"+key)
	}
	return n
}

func innerOf(keys []string, kids ...int) api.Node { return api.Node{Keys: keys, Kids: kids} }

// letters is a key for each letter.
func letters(s string) []string { return strings.Split(s, "") }

// with is a wood in which that node lies in that block; the one that was handed in stays.
func with(w api.Wood, block int, n api.Node) api.Wood {
	return withPage(w, block, paged(kindOf(n), w.Gen, body(n)))
}

func withPage(w api.Wood, block int, bytes string) api.Wood {
	w = copied(w)
	w.Now[block], w.Pages[block] = true, bytes
	return w
}

func without(w api.Wood, block int) api.Wood {
	w = copied(w)
	w.Now[block] = false
	return w
}

func rooted(w api.Wood, root int) api.Wood {
	w.Root = root
	return w
}

func copied(w api.Wood) api.Wood {
	w.Base, w.Now, w.Pages = slices.Clone(w.Base), slices.Clone(w.Now), slices.Clone(w.Pages)
	return w
}

func sameWood(a, b api.Wood) bool {
	return slices.Equal(a.Base, b.Base) && slices.Equal(a.Now, b.Now) && slices.Equal(a.Pages, b.Pages) &&
		a.Root == b.Root && a.Gen == b.Gen
}

// sameNode holds nodes against one another: a nil list is an empty one (R3).
func sameNode(a, b api.Node) bool {
	return a.Leaf == b.Leaf && slices.Equal(a.Keys, b.Keys) && slices.Equal(a.Vals, b.Vals) && slices.Equal(a.Kids, b.Kids)
}

// pairsOf is pairs of these keys.
func pairsOf(keys ...string) []api.Pair {
	var l []api.Pair
	for _, key := range keys {
		l = append(l, api.Pair{Key: key, Val: "v" + key})
	}
	return l
}

// counted is n keys that rise, with room between any two.
func counted(n int) []string {
	l := make([]string, n)
	for i := range l {
		l[i] = fmt.Sprintf("k%05d", 2*i+1)
	}
	return l
}

// way is how a tree is planted.
type way struct {
	full  bool // nodes have as many keys as may be, else as few
	loose bool // a key that parts two children is one that no leaf has
	down  bool // blocks are taken from the last one on
	gen   int
}

func ways() []way {
	var l []way
	for i := range 8 {
		l = append(l, way{full: i&1 > 0, loose: i&2 > 0, down: i&4 > 0, gen: 1 + 3*(i%3)})
	}
	return l
}

// planting is a tree that is being made, level by level.
type planting struct {
	way
	api.Wood
	nodes int
}

// kid is a node that lies in a block already, with the first and the last key that leaves below it have.
type kid struct {
	block       int
	first, last string
}

func (p *planting) lay(n api.Node, first, last string) kid {
	block := 10 + p.nodes
	if p.down {
		block = len(p.Now) - 1 - p.nodes
	}
	p.Now[block] = true
	// Pages of a tree are of any generation up to the wood's, 0 among them.
	p.Pages[block] = paged(kindOf(n), p.nodes%(p.gen+1), body(n))
	p.nodes++
	return kid{block, first, last}
}

// parts is how many of n there are in each node: at least least of them, at most most.
func parts(n, least, most int, full bool) []int {
	count := max(1, n/least)
	if full {
		count = (n + most - 1) / most
	}
	l := make([]int, count)
	for i := range n {
		l[i%count]++
	}
	return l
}

// planted is a tree of these pairs, of at least one.
func planted(size int, pairs []api.Pair, how way) api.Wood {
	p := &planting{way: how, Wood: bare(size)}
	p.Gen = how.gen
	var kids []kid
	for _, n := range parts(len(pairs), 4, 8, how.full) {
		leaf := api.Node{Leaf: true}
		for _, pair := range pairs[:n] {
			leaf.Keys, leaf.Vals = append(leaf.Keys, pair.Key), append(leaf.Vals, pair.Val)
		}
		kids = append(kids, p.lay(leaf, pairs[0].Key, pairs[n-1].Key))
		pairs = pairs[n:]
	}
	for len(kids) > 1 {
		kids = p.level(kids)
	}
	p.Root = kids[0].block
	return p.Wood
}

func (p *planting) level(kids []kid) []kid {
	var above []kid
	for _, n := range parts(len(kids), 5, 9, p.full) {
		inner := api.Node{}
		for i, k := range kids[:n] {
			inner.Kids = append(inner.Kids, k.block)
			if i > 0 && p.loose {
				inner.Keys = append(inner.Keys, kids[i-1].last+"\x00")
			} else if i > 0 {
				inner.Keys = append(inner.Keys, k.first)
			}
		}
		above = append(above, p.lay(inner, kids[0].first, kids[n-1].last))
		kids = kids[n:]
	}
	return above
}

// oddKeys are keys that rise where careless holding against one another would have them fall; each has room for one more byte.
func oddKeys() []string {
	long := strings.Repeat("k", 30)
	return []string{
		"\x00", "\x00\x00", "\x00\x01", "\x01", "1", "10", "2", "9", "A", "Z", "a", "a\x00", "a\x00\x00", "a\x01", "aa", "ab",
		"a\x7f", "a\x80", "a\xff", "b", long, long + "\x01", long + "\x7f", long + "\x80", long + "\xff", "z", "\x7e", "\x7f", "\x7f\xff", "\x80", "\x80\x01",
		"\xc3\xa9", "\xe2\x82\xac", "\xff", "\xff\x01", "\xff\xff", strings.Repeat("\xff", 31),
	}
}

// longPairs have keys of 32 bytes and values of 0 to 200.
func longPairs(n int) []api.Pair {
	var l []api.Pair
	for i := range n {
		key := fmt.Sprintf("%s%03d", strings.Repeat("\xfe", 29), 2*i+1)
		l = append(l, api.Pair{Key: key, Val: strings.Repeat("w", 200*i/max(1, n-1))})
	}
	return l
}

// trees are small ones, of one to three levels.
func trees() []api.Wood {
	var l []api.Wood
	for _, how := range ways() {
		for _, n := range []int{1, 2, 7, 8, 9, 15, 16, 17, 37, 40, 41, 55} {
			size := 24
			if n == 8 || n == 55 {
				size = 26
			}
			l = append(l, planted(size, pairsOf(counted(n)...), how))
		}
		l = append(l, planted(30, pairsOf(oddKeys()...), how))
	}
	return append(l, planted(24, longPairs(9), way{gen: 1}), planted(40, longPairs(80), way{gen: api.MaxTime, full: true}))
}

// The chapter's words, said one by one.

func mayBe(w api.Wood) bool {
	if len(w.Base) != len(w.Now) || len(w.Now) < 24 || len(w.Now) > 2048 || len(w.Pages) != len(w.Now) {
		return false
	}
	for i := range 10 {
		if !w.Base[i] || !w.Now[i] {
			return false
		}
	}
	for _, s := range w.Pages {
		if len(s) > 4096 {
			return false
		}
	}
	return (w.Root == 0 || w.Root >= 10 && w.Root < len(w.Now)) && w.Gen >= 1 && w.Gen <= 1099511627776
}

// held is the node that a block holds.
func held(w api.Wood, block int, root bool) (api.Node, bool) {
	if block < 10 || block >= len(w.Now) || !w.Now[block] {
		return api.Node{}, false
	}
	p, e := page.Get(w.Pages[block])
	if e != api.OK || p.Kind != 1 && p.Kind != 2 || p.Gen > w.Gen {
		return api.Node{}, false
	}
	n, e := node.Get(p.Kind, p.Body)
	if e != api.OK || !root && len(n.Keys) < 4 {
		return api.Node{}, false
	}
	return n, true
}

// trunk goes through all of a wood, to see whether it is a tree.
type trunk struct {
	api.Wood
	seen  map[int]int
	deep  map[int]int // how deep leaves lie
	pairs []api.Pair
	bad   bool
}

// treeOf is a wood's pairs, and whether it is a tree.
func treeOf(w api.Wood) ([]api.Pair, bool) {
	if !mayBe(w) {
		return nil, false
	}
	if w.Root == 0 {
		return nil, true
	}
	c := &trunk{Wood: w, seen: map[int]int{}, deep: map[int]int{}}
	pairs := c.climb(w.Root, 1)
	if c.bad || len(c.deep) != 1 || len(pairs) == 0 {
		return nil, false
	}
	return pairs, true
}

func (c *trunk) climb(block, depth int) []api.Pair {
	n, is := held(c.Wood, block, depth == 1)
	c.seen[block]++
	if !is || depth > 8 || c.seen[block] > 1 {
		c.bad = true
		return nil
	}
	var pairs []api.Pair
	if n.Leaf {
		c.deep[depth]++
		for i, key := range n.Keys {
			pairs = append(pairs, api.Pair{Key: key, Val: n.Vals[i]})
		}
		return pairs
	}
	for i, kid := range n.Kids {
		if c.bad {
			return nil
		}
		under := c.climb(kid, depth+1)
		for _, p := range under {
			if i > 0 && p.Key < n.Keys[i-1] || i < len(n.Keys) && p.Key >= n.Keys[i] {
				c.bad = true
			}
		}
		pairs = append(pairs, under...)
	}
	return pairs
}

func getOf(pairs []api.Pair, key string) (string, api.Errno) {
	if len(key) < 1 || len(key) > 32 {
		return "", api.ErrArg
	}
	for _, p := range pairs {
		if p.Key == key {
			return p.Val, api.OK
		}
	}
	return "", api.ErrKey
}

func scanOf(pairs []api.Pair, from string, most int) ([]api.Pair, string, api.Errno) {
	if len(from) > 32 || most < 0 || most > 256 {
		return nil, "", api.ErrArg
	}
	var l []api.Pair
	for _, p := range pairs {
		if p.Key >= from {
			l = append(l, p)
		}
	}
	if len(l) <= most {
		return l, "", api.OK
	}
	return l[:most], l[most].Key, api.OK
}

// Asking.

func brief(s string) string {
	if len(s) > 40 {
		return fmt.Sprintf("%d bytes %q..", len(s), s[:40])
	}
	return fmt.Sprintf("%q", s)
}

func show(w api.Wood) string {
	s := fmt.Sprintf("Root %d Gen %d, %d and %d places, %d pages", w.Root, w.Gen, len(w.Base), len(w.Now), len(w.Pages))
	for i := 10; i < min(len(w.Pages), len(w.Now), 60); i++ {
		if w.Now[i] {
			p, _ := page.Get(w.Pages[i])
			n, e := node.Get(p.Kind, p.Body)
			s += fmt.Sprintf("\n\t%d: Kind %d Gen %d %q %d, %d", i, p.Kind, p.Gen, n.Keys, n.Kids, e)
		}
	}
	return s
}

func loadIs(t *testing.T, w api.Wood, block int, root bool, want api.Node, e api.Errno) {
	t.Helper()
	if n, f := Load(w, block, root); !sameNode(n, want) || f != e {
		t.Errorf("Load(%s; %d, %t): %v, %d; not %v, %d", show(w), block, root, n, f, want, e)
	}
}

func getIs(t *testing.T, w api.Wood, key, want string, e api.Errno) {
	t.Helper()
	if v, f := Get(w, key); v != want || f != e {
		t.Errorf("Get(%s; %s): %s, %d; not %s, %d", show(w), brief(key), brief(v), f, brief(want), e)
	}
}

func scanIs(t *testing.T, w api.Wood, from string, most int, want []api.Pair, next string, e api.Errno) {
	t.Helper()
	if l, n, f := Scan(w, from, most); !slices.Equal(l, want) || n != next || f != e {
		t.Errorf("Scan(%s; %s, %d): %v, %q, %d; not %v, %q, %d", show(w), brief(from), most, l, n, f, want, next, e)
	}
}

// wildGet and wildScan are what P8.3 says, of a wood that is no tree.
func wildGet(t *testing.T, w api.Wood, key string) {
	t.Helper()
	v, e := Get(w, key)
	if len(key) < 1 || len(key) > 32 {
		if v != "" || e != api.ErrArg {
			t.Errorf("Get(%s; %s): %s, %d", show(w), brief(key), brief(v), e)
		}
		return
	}
	if e != api.OK && e != api.ErrKey && e != api.ErrTree || e != api.OK && v != "" || len(v) > 200 {
		t.Errorf("Get(%s; %s): %s, %d", show(w), brief(key), brief(v), e)
	}
}

func wildScan(t *testing.T, w api.Wood, from string, most int) {
	t.Helper()
	l, next, e := Scan(w, from, most)
	wrong := func(why string) {
		t.Helper()
		t.Errorf("Scan(%s; %s, %d): %v, %q, %d: %s", show(w), brief(from), most, l, next, e, why)
	}
	want := api.ErrTree
	if len(from) > 32 || most < 0 || most > 256 {
		want = api.ErrArg
	}
	if e != api.OK || want == api.ErrArg {
		if e != want || len(l) > 0 || next != "" {
			wrong("another error, or not alone")
		}
		return
	}
	if len(l) > most {
		wrong("too many")
	}
	for i, p := range l {
		if p.Key < from || i > 0 && p.Key <= l[i-1].Key {
			wrong("keys do not rise, or one is below")
		}
	}
	if next != "" && len(l) > 0 && next <= l[len(l)-1].Key {
		wrong("the key behind them is not")
	}
}

// keysIn is all keys that nodes in any block have, and keys beside them.
func keysIn(w api.Wood) []string {
	long := strings.Repeat("\xff", 33)
	l := []string{"", "\x00", "j", "l", "~", long[:31], long[:32], long, "k" + long[:31], "k" + long[:32]}
	for _, s := range w.Pages {
		p, _ := page.Get(s)
		n, _ := node.Get(p.Kind, p.Body)
		for _, key := range n.Keys {
			l = append(l, key, key+"\x00", key[:len(key)-1], key[:len(key)-1]+string([]byte{key[len(key)-1] - 1}))
		}
	}
	slices.Sort(l)
	return slices.Compact(l)
}

// ask holds all that is told of a wood, of many keys and blocks, against the chapter's words, and the wood against what it was.
func ask(t *testing.T, w api.Wood) {
	t.Helper()
	was := copied(w)
	may := mayBe(w)
	if Right(w) != may {
		t.Errorf("Right(%s): %t", show(w), !may)
	}
	blocks := []int{lowest, -1, len(w.Now) + 1, highest, len(w.Now)}
	for block := range len(w.Now) {
		blocks = append(blocks, block)
	}
	for _, block := range blocks {
		for _, root := range []bool{true, false} {
			askLoad(t, w, block, root)
		}
	}
	pairs, tree := treeOf(w)
	for _, key := range keysIn(w) {
		askKey(t, w, key, pairs, tree)
	}
	if !sameWood(w, was) {
		t.Errorf("%s was %s", show(w), show(was))
	}
}

func askLoad(t *testing.T, w api.Wood, block int, root bool) {
	t.Helper()
	if !mayBe(w) {
		loadIs(t, w, block, root, api.Node{}, api.ErrArg)
	} else if n, is := held(w, block, root); is {
		loadIs(t, w, block, root, n, api.OK)
	} else {
		loadIs(t, w, block, root, api.Node{}, api.ErrTree)
	}
}

func askKey(t *testing.T, w api.Wood, key string, pairs []api.Pair, tree bool) {
	t.Helper()
	mosts := []int{lowest, -1, 0, 1, 2, 4, 5, len(pairs) - 1, len(pairs), len(pairs) + 1, 255, 256, 257, highest}
	if !mayBe(w) {
		getIs(t, w, key, "", api.ErrArg)
		for _, most := range mosts {
			scanIs(t, w, key, most, nil, "", api.ErrArg)
		}
		return
	}
	if !tree {
		wildGet(t, w, key)
		for _, most := range mosts {
			wildScan(t, w, key, most)
		}
		return
	}
	val, e := getOf(pairs, key)
	getIs(t, w, key, val, e)
	for _, most := range mosts {
		want, next, e := scanOf(pairs, key, most)
		scanIs(t, w, key, most, want, next, e)
	}
}

// isTree and isNone have a test fail whose wood is not what it is said to be.
func isTree(t *testing.T, w api.Wood, pairs ...api.Pair) {
	t.Helper()
	if l, is := treeOf(w); !is || !slices.Equal(l, pairs) {
		t.Fatalf("no tree of %v: %s", pairs, show(w))
	}
}

func isNone(t *testing.T, w api.Wood) {
	t.Helper()
	if _, is := treeOf(w); is || !mayBe(w) {
		t.Fatalf("a tree, or none that may be: %s", show(w))
	}
}

// P8.1: Right

func TestRightOfAllocs(t *testing.T) {
	cut := func(l []bool, n int) []bool { return l[:n:n] }
	for _, n := range []int{0, 1, 9, 10, 11, 23, 24, 25, 100, 2047, 2048, 2049, 4096} {
		w := api.Wood{Alloc: api.Alloc{Base: cut(used(4096), n), Now: cut(used(4096), n)}, Pages: make([]string, n), Gen: 1}
		if want := n >= 24 && n <= 2048; Right(w) != want {
			t.Errorf("Right of %d blocks: %t", n, !want)
		}
		ask(t, w)
	}
	for _, n := range []int{24, 2048} {
		for place := range 10 {
			for _, cut := range []func(*api.Wood){
				func(w *api.Wood) { w.Base[place] = false },
				func(w *api.Wood) { w.Now[place] = false },
				func(w *api.Wood) { w.Base[place], w.Now[place] = false, false },
			} {
				w := bare(n)
				cut(&w)
				if Right(w) {
					t.Errorf("Right without block %d: %s", place, show(w))
				}
			}
		}
		w := bare(n)
		w.Base[10], w.Now[n-1] = true, true
		if !Right(w) {
			t.Error("what counts and what is being made are unlike")
		}
		for _, wrong := range []api.Wood{
			{Alloc: api.Alloc{Base: used(n)}, Pages: make([]string, n), Gen: 1},
			{Alloc: api.Alloc{Now: used(n)}, Pages: make([]string, n), Gen: 1},
			{Alloc: api.Alloc{Base: used(n), Now: used(n - 1)}, Pages: make([]string, n), Gen: 1},
			{Alloc: api.Alloc{Base: used(n + 1), Now: used(n)}, Pages: make([]string, n), Gen: 1},
			{Pages: make([]string, n), Gen: 1},
			{Gen: 1},
			{},
		} {
			if Right(wrong) {
				t.Errorf("Right(%s)", show(wrong))
			}
			ask(t, wrong)
		}
	}
}

func TestRightOfPages(t *testing.T) {
	for _, n := range []int{24, 25, 2047, 2048} {
		for _, pages := range []int{0, 1, n - 1, n, n + 1, 2 * n, 1 << 16} {
			w := bare(n)
			w.Pages = make([]string, pages)
			if want := pages == n; Right(w) != want {
				t.Errorf("Right of %d blocks and %d pages: %t", n, pages, !want)
			}
			if !Right(w) {
				loadIs(t, w, 10, true, api.Node{}, api.ErrArg)
				getIs(t, w, "a", "", api.ErrArg)
				scanIs(t, w, "a", 1, nil, "", api.ErrArg)
			}
		}
	}
	// Each page counts: also of a reserved block, of a free one, of the root's.
	for _, block := range []int{0, 1, 9, 10, 11, 22, 23} {
		for _, size := range []int{0, 1, 4095, 4096, 4097, 4098, 8192, 1 << 20} {
			for _, fill := range []string{"\x00", "x"} {
				w := rooted(with(bare(24), 11, leafOf("a")), 11)
				w.Pages[block] = strings.Repeat(fill, size)
				if want := size <= 4096; Right(w) != want {
					t.Errorf("Right with %d bytes in block %d: %t", size, block, !want)
				}
				if size >= 4096 {
					ask(t, w)
				}
			}
		}
	}
}

func TestRightOfRootAndGen(t *testing.T) {
	for _, n := range []int{24, 25, 2048} {
		for _, root := range []int{lowest, -2048, -10, -1, 0, 1, 2, 8, 9, 10, 11, n - 2, n - 1, n, n + 1, 2047, 2048, 1 << 32, 1<<32 + 10, highest} {
			w := rooted(bare(n), root)
			if want := root == 0 || root >= 10 && root < n; Right(w) != want {
				t.Errorf("Right of Root %d of %d: %t", root, n, !want)
			}
		}
	}
	for _, gen := range []int{lowest, -1 << 40, -1, 0, 1, 2, 1<<32 + 1, 1<<40 - 1, 1 << 40, 1<<40 + 1, 1 << 41, highest} {
		for _, w := range []api.Wood{bare(24), rooted(with(bare(24), 10, leafOf("a")), 10), rooted(bare(24), 23)} {
			w.Gen = gen
			if want := gen >= 1 && gen <= 1<<40; Right(w) != want {
				t.Errorf("Right of Gen %d: %t", gen, !want)
			}
			ask(t, w)
		}
	}
	for _, root := range []int{lowest, -1, 0, 1, 9, 10, 11, 23, 24, 25, highest} {
		ask(t, rooted(bare(24), root))
		ask(t, rooted(with(bare(24), 10, leafOf("a", "b")), root))
	}
}

// P8.1: Load

func TestLoadOfBlocks(t *testing.T) {
	for _, n := range []int{24, 37, 2048} {
		w := bare(n)
		for block := range n {
			w.Now[block], w.Pages[block] = true, paged(api.PLeaf, 1, body(leafOf("a", "b", "c", "d")))
		}
		for _, block := range []int{lowest, -11, -10, -1, 0, 1, 2, 9, 10, 11, n - 2, n - 1, n, n + 1, 2048, 1<<32 + 10, highest} {
			for _, root := range []bool{true, false} {
				if block >= 10 && block < n {
					loadIs(t, w, block, root, leafOf("a", "b", "c", "d"), api.OK)
				} else {
					loadIs(t, w, block, root, api.Node{}, api.ErrTree)
				}
			}
		}
		// Now tells whether a block is there, not Base.
		for _, block := range []int{10, n - 1} {
			v := without(w, block)
			v.Base[block] = true
			loadIs(t, v, block, true, api.Node{}, api.ErrTree)
			v.Base[block], v.Now[block] = false, true
			loadIs(t, v, block, true, leafOf("a", "b", "c", "d"), api.OK)
		}
	}
}

func TestLoadOfPages(t *testing.T) {
	leaf := leafOf("a", "b", "c", "d")
	inner := innerOf(letters("bdfh"), 11, 12, 13, 14, 15)
	w := bare(24)
	w.Gen = 7
	for _, n := range []api.Node{leaf, inner} {
		for kind := 1; kind <= 5; kind++ {
			for _, gen := range []int{0, 1, 6, 7, 8, 1 << 40} {
				v := withPage(w, 10, paged(kind, gen, body(n)))
				for _, root := range []bool{true, false} {
					if kind == kindOf(n) && gen <= 7 {
						loadIs(t, v, 10, root, n, api.OK)
					} else {
						loadIs(t, v, 10, root, api.Node{}, api.ErrTree)
					}
				}
			}
		}
		whole := paged(kindOf(n), 7, body(n))
		for _, bytes := range []string{"", "\x00", "\x01", "x", whole[1:], whole[:len(whole)-1], whole + "x", whole + "\x00x", strings.Repeat("x", 4096), body(n)} {
			loadIs(t, withPage(w, 10, bytes), 10, true, api.Node{}, api.ErrTree)
		}
		for i := range whole {
			broken := []byte(whole)
			broken[i] ^= 0x10
			loadIs(t, withPage(w, 10, string(broken)), 10, true, api.Node{}, api.ErrTree)
		}
		// Zeros at the end are as if they were not there.
		loadIs(t, withPage(w, 10, whole+strings.Repeat("\x00", 4096-len(whole))), 10, false, n, api.OK)
	}
	w.Gen = 1 << 40
	loadIs(t, withPage(w, 23, paged(api.PLeaf, 1<<40, body(leaf))), 23, false, leaf, api.OK)
}

func TestLoadOfBodies(t *testing.T) {
	w := bare(24)
	long := strings.Repeat("x", 33)
	for _, n := range []api.Node{
		leafOf(letters("abcdefghi")...),
		leafOf("b", "a", "c", "d"),
		leafOf("a", "a", "c", "d"),
		leafOf("", "a", "c", "d"),
		leafOf("a", "b", "c", long),
		{Leaf: true, Keys: letters("abcd"), Vals: []string{"1", "2", "3", strings.Repeat("v", 201)}},
		innerOf(nil, 11),
		innerOf(letters("abcd"), 11, 12, 13, 14, 9),
		innerOf(letters("abcd"), 2048, 12, 13, 14, 15),
		innerOf(letters("abcd"), 11, 12, 13, 14),
		innerOf(letters("dcba"), 11, 12, 13, 14, 15),
		innerOf(letters("abcdefghi"), 11, 12, 13, 14, 15, 16, 17, 18, 19, 20),
	} {
		loadIs(t, with(w, 10, n), 10, true, api.Node{}, api.ErrTree)
		loadIs(t, with(w, 10, n), 10, false, api.Node{}, api.ErrTree)
	}
	for _, n := range []api.Node{leafOf(letters("abcd")...), innerOf(letters("abcd"), 11, 12, 13, 14, 15)} {
		for _, text := range []string{"", body(n) + "\x00", body(n) + "x", body(n)[1:], body(n)[:len(body(n))-1], "\xff" + body(n)[1:]} {
			loadIs(t, withPage(w, 10, paged(kindOf(n), 1, text)), 10, true, api.Node{}, api.ErrTree)
		}
	}
}

// A node of few keys may be as a root, and not below one, whichever block it lies in.
func TestLoadBelowARoot(t *testing.T) {
	keys, kids := letters("abcdefgh"), []int{10, 11, 12, 13, 14, 15, 16, 17, 2047}
	for n := range 9 {
		nodes := []api.Node{leafOf(keys[:n]...)}
		if n > 0 {
			nodes = append(nodes, innerOf(keys[:n], kids[9-n-1:]...))
		}
		for _, m := range nodes {
			for _, root := range []int{0, 10, 23} {
				w := rooted(with(bare(24), 10, m), root)
				loadIs(t, w, 10, true, m, api.OK)
				if n >= 4 {
					loadIs(t, w, 10, false, m, api.OK)
				} else {
					loadIs(t, w, 10, false, api.Node{}, api.ErrTree)
				}
			}
		}
	}
}

// P8.2

func TestRootZero(t *testing.T) {
	for _, w := range []api.Wood{bare(24), bare(2048), with(bare(24), 10, leafOf("a", "b"))} {
		isTree(t, w)
		getIs(t, w, "a", "", api.ErrKey)
		getIs(t, w, strings.Repeat("a", 32), "", api.ErrKey)
		getIs(t, w, "", "", api.ErrArg)
		getIs(t, w, strings.Repeat("a", 33), "", api.ErrArg)
		for _, most := range []int{0, 1, 255, 256} {
			scanIs(t, w, "", most, nil, "", api.OK)
			scanIs(t, w, strings.Repeat("a", 32), most, nil, "", api.OK)
			scanIs(t, w, strings.Repeat("a", 33), most, nil, "", api.ErrArg)
		}
		for _, most := range []int{lowest, -256, -1, 257, 258, 1 << 32, highest} {
			scanIs(t, w, "", most, nil, "", api.ErrArg)
		}
		ask(t, w)
	}
}

func TestRootLeaf(t *testing.T) {
	one := rooted(with(bare(24), 23, leafOf("m")), 23)
	isTree(t, one, pairsOf("m")...)
	getIs(t, one, "m", "vm", api.OK)
	for _, key := range []string{"\x00", "a", "l\xff", "m\x00", "mm", "n", "\xff", "M"} {
		getIs(t, one, key, "", api.ErrKey)
	}
	scanIs(t, one, "", 0, nil, "m", api.OK)
	scanIs(t, one, "", 1, pairsOf("m"), "", api.OK)
	scanIs(t, one, "", 2, pairsOf("m"), "", api.OK)
	scanIs(t, one, "m", 0, nil, "m", api.OK)
	scanIs(t, one, "m", 256, pairsOf("m"), "", api.OK)
	scanIs(t, one, "l\xff", 1, pairsOf("m"), "", api.OK)
	scanIs(t, one, "m\x00", 0, nil, "", api.OK)
	scanIs(t, one, "m\x00", 1, nil, "", api.OK)

	// An empty value is a value.
	empty := rooted(with(bare(24), 10, api.Node{Leaf: true, Keys: []string{"m"}, Vals: []string{""}}), 10)
	getIs(t, empty, "m", "", api.OK)
	scanIs(t, empty, "", 1, []api.Pair{{Key: "m"}}, "", api.OK)

	none := rooted(with(bare(24), 10, leafOf()), 10)
	isNone(t, none)
	loadIs(t, none, 10, true, leafOf(), api.OK)
	ask(t, one)
	ask(t, empty)
	ask(t, none)
}

// small is a tree of two levels, written out: an inner root in block 12, leaves in blocks 20, 10 and 23.
func small() api.Wood {
	w := with(bare(24), 20, leafOf("a", "b", "c", "d"))
	w = with(w, 10, leafOf("f", "g", "h", "i", "j"))
	w = with(w, 23, leafOf("k", "l", "m", "n"))
	return rooted(with(w, 12, innerOf([]string{"e", "k"}, 20, 10, 23)), 12)
}

func TestTwoLevels(t *testing.T) {
	w := small()
	all := letters("abcdfghijklmn")
	isTree(t, w, pairsOf(all...)...)
	for _, key := range all {
		getIs(t, w, key, "v"+key, api.OK)
	}
	for _, key := range []string{"\x00", "A", "a\x00", "d\x00", "e", "e\x00", "ez", "j\xff", "n\x00", "o", "\xff"} {
		getIs(t, w, key, "", api.ErrKey)
	}
	scanIs(t, w, "", 256, pairsOf(all...), "", api.OK)
	scanIs(t, w, "", 13, pairsOf(all...), "", api.OK)
	scanIs(t, w, "", 14, pairsOf(all...), "", api.OK)
	scanIs(t, w, "", 12, pairsOf(all[:12]...), "n", api.OK)
	// As many as one leaf has, one less and one more.
	scanIs(t, w, "", 3, pairsOf("a", "b", "c"), "d", api.OK)
	scanIs(t, w, "", 4, pairsOf("a", "b", "c", "d"), "f", api.OK)
	scanIs(t, w, "", 5, pairsOf("a", "b", "c", "d", "f"), "g", api.OK)
	scanIs(t, w, "", 9, pairsOf(all[:9]...), "k", api.OK)
	scanIs(t, w, "", 0, nil, "a", api.OK)
	scanIs(t, w, "c", 2, pairsOf("c", "d"), "f", api.OK)
	scanIs(t, w, "d\x00", 1, pairsOf("f"), "g", api.OK)
	scanIs(t, w, "d\x00", 0, nil, "f", api.OK)
	scanIs(t, w, "e", 1, pairsOf("f"), "g", api.OK)
	scanIs(t, w, "j\x00", 9, pairsOf("k", "l", "m", "n"), "", api.OK)
	scanIs(t, w, "j\x00", 0, nil, "k", api.OK)
	scanIs(t, w, "n", 1, pairsOf("n"), "", api.OK)
	scanIs(t, w, "n\x00", 1, nil, "", api.OK)
	scanIs(t, w, "\xff", 0, nil, "", api.OK)
	ask(t, w)
}

func TestTrees(t *testing.T) {
	t.Parallel()
	for _, w := range trees() {
		if _, is := treeOf(w); !is {
			t.Fatalf("no tree: %s", show(w))
		}
		ask(t, w)
	}
}

// highTrees are the highest there may be in 2048 blocks, six nodes below one another, and the one of most pairs that is built here.
func highTrees() []api.Wood {
	return []api.Wood{
		planted(2048, pairsOf(counted(5000)...), way{gen: 1}),
		planted(2048, pairsOf(counted(5000)...), way{gen: 5, loose: true, down: true}),
		planted(2048, pairsOf(counted(14400)...), way{gen: 2, full: true}),
	}
}

func height(w api.Wood) int {
	count := 1
	for n, _ := held(w, w.Root, true); !n.Leaf; n, _ = held(w, n.Kids[0], false) {
		count++
	}
	return count
}

func TestHighTrees(t *testing.T) {
	t.Parallel()
	for i, w := range highTrees() {
		pairs, is := treeOf(w)
		if !is || height(w) != []int{6, 6, 5}[i] {
			t.Fatalf("tree %d: %t, %d high", i, is, height(w))
		}
		var told []api.Pair
		for from, first := "", true; first || from != ""; first = false {
			want, next, _ := scanOf(pairs, from, 256)
			scanIs(t, w, from, 256, want, next, api.OK)
			told, from = append(told, want...), next
		}
		if !slices.Equal(told, pairs) {
			t.Errorf("tree %d: %d pairs of %d", i, len(told), len(pairs))
		}
		for j, p := range pairs {
			getIs(t, w, p.Key, p.Val, api.OK)
			if j%7 == 0 {
				getIs(t, w, p.Key+"\x00", "", api.ErrKey)
			}
			if j%197 == 0 {
				askKey(t, w, p.Key, pairs, true)
				askKey(t, w, p.Key+"\x00", pairs, true)
			}
		}
		for _, key := range []string{"", "\x00", "k", "k00000", "l", strings.Repeat("\xff", 32), strings.Repeat("\xff", 33)} {
			askKey(t, w, key, pairs, true)
		}
	}
}

// chain is so many nodes below one another, the last one a leaf of the keys w to z; the children beside them are in blocks that hold nothing. Of more than six no tree has room, so this is none.
func chain(nodes int) api.Wood {
	w := rooted(bare(40), 10)
	for i := range nodes - 1 {
		key := string([]byte{'a' + byte(i)})
		w = with(w, 10+i, innerOf([]string{key, key + "1", key + "2", key + "3"}, 39, 39, 39, 39, 11+i))
	}
	return with(w, 10+nodes-1, leafOf("w", "x", "y", "z"))
}

func TestMaxHeight(t *testing.T) {
	t.Parallel()
	for nodes := 2; nodes < 20; nodes++ {
		w := chain(nodes)
		isNone(t, w)
		ask(t, w)
		if nodes <= 8 {
			getIs(t, w, "y", "vy", api.OK)
			getIs(t, w, "x\x00", "", api.ErrKey)
			scanIs(t, w, "x", 2, pairsOf("x", "y"), "z", api.OK)
		} else {
			getIs(t, w, "y", "", api.ErrTree)
			scanIs(t, w, "x", 2, nil, "", api.ErrTree)
		}
	}
}

// P8.3

// spoilt are woods that come of one by one fault in that block's page; some may still be trees.
func spoilt(w api.Wood, block int) []api.Wood {
	bytes := w.Pages[block]
	p, _ := page.Get(bytes)
	n, _ := node.Get(p.Kind, p.Body)
	l := []api.Wood{without(w, block), withPage(w, block, ""), withPage(w, block, strings.Repeat("x", 4096)), withPage(w, block, bytes[:len(bytes)-1]), withPage(w, block, "\x01"+bytes)}
	for kind := 1; kind <= 5; kind++ {
		l = append(l, withPage(w, block, paged(kind, p.Gen, p.Body)))
	}
	for _, gen := range []int{w.Gen, min(w.Gen+1, api.MaxTime), api.MaxTime} {
		l = append(l, withPage(w, block, paged(p.Kind, gen, p.Body)))
	}
	for _, text := range []string{"", "\x00", p.Body + "x", p.Body[:len(p.Body)-1], "\xff" + p.Body[1:]} {
		l = append(l, withPage(w, block, paged(p.Kind, p.Gen, text)))
	}
	for i := range n.Keys {
		for _, key := range []string{"\x00", "j", n.Keys[i] + "\x00", "l", "\xff"} {
			m := n
			m.Keys = slices.Clone(n.Keys)
			m.Keys[i] = key
			l = append(l, with(w, block, m))
			slices.Sort(m.Keys)
			l = append(l, with(w, block, m))
		}
	}
	for i := range n.Kids {
		for _, kid := range []int{9, block, w.Root, n.Kids[(i+1)%len(n.Kids)], len(w.Now) - 1, len(w.Now), 2047, 2048} {
			m := n
			m.Kids = slices.Clone(n.Kids)
			m.Kids[i] = kid
			l = append(l, with(w, block, m))
		}
	}
	return append(l, regrown(w, block, n)...)
}

// regrown are woods with other nodes in that block: with fewer keys, from either end, and a leaf in an inner one's place, or the other way round.
func regrown(w api.Wood, block int, n api.Node) []api.Wood {
	var l []api.Wood
	for i := range n.Keys {
		m, o := api.Node{Leaf: n.Leaf, Keys: n.Keys[:i]}, api.Node{Leaf: n.Leaf, Keys: n.Keys[i:]}
		if n.Leaf {
			m.Vals, o.Vals = n.Vals[:i], n.Vals[i:]
		} else {
			m.Kids, o.Kids = n.Kids[:i+1], n.Kids[i:]
		}
		l = append(l, with(w, block, m), with(w, block, o))
	}
	if !n.Leaf {
		return append(l, with(w, block, leafOf(n.Keys...)))
	}
	for _, kid := range []int{block, w.Root, len(w.Now) - 1, 10} {
		l = append(l, with(w, block, innerOf(n.Keys, slices.Repeat([]int{kid}, len(n.Keys)+1)...)))
	}
	return l
}

func TestWoodsWithAFault(t *testing.T) {
	t.Parallel()
	none := 0
	for _, n := range []int{1, 9, 41} {
		for _, how := range []way{{gen: 1}, {gen: 4, full: true, loose: true, down: true}} {
			w := planted(24, pairsOf(counted(n)...), how)
			for block := 10; block < 24; block++ {
				if !w.Now[block] {
					continue
				}
				for _, v := range spoilt(w, block) {
					if _, is := treeOf(v); !is {
						none++
					}
					askSome(t, v, 19)
				}
			}
		}
	}
	if none < 1000 {
		t.Errorf("only %d woods are no tree", none)
	}
}

// askSome asks of a few keys alone, one of so many, as there are many woods.
func askSome(t *testing.T, w api.Wood, each int) {
	t.Helper()
	was := copied(w)
	if Right(w) != mayBe(w) {
		t.Errorf("Right(%s): %t", show(w), Right(w))
	}
	for block := 9; block <= len(w.Now); block++ {
		askLoad(t, w, block, block == w.Root)
	}
	pairs, tree := treeOf(w)
	for i, key := range keysIn(w) {
		if i%each == 0 {
			askKey(t, w, key, pairs, tree)
		}
	}
	if !sameWood(w, was) {
		t.Errorf("%s was %s", show(w), show(was))
	}
}

// Faults that one comes to are told.
func TestFaultsOnTheWay(t *testing.T) {
	w := small()
	for name, v := range map[string]api.Wood{
		"a root that Now has not":          without(w, 12),
		"a root that is no page":           withPage(w, 12, "x"),
		"a root leaf of no key":            with(w, 12, leafOf()),
		"a child that Now has not":         without(w, 10),
		"a child that is no page":          withPage(w, 10, ""),
		"a child of another kind":          withPage(w, 10, paged(api.PMap, 1, body(leafOf(letters("fghi")...)))),
		"a child of a generation to come":  withPage(w, 10, paged(api.PLeaf, 2, body(leafOf(letters("fghi")...)))),
		"a child of three keys":            with(w, 10, leafOf(letters("fgh")...)),
		"a child of no key":                with(w, 10, leafOf()),
		"a key below its bound":            with(w, 10, leafOf(letters("dfgh")...)),
		"a key that is the bound above it": with(w, 10, leafOf(letters("fghk")...)),
		"a key above its bound":            with(w, 10, leafOf(letters("fghz")...)),
		"a root that is its own child":     with(w, 12, innerOf([]string{"e", "k"}, 20, 12, 23)),
		"a child that is its own child":    with(w, 10, innerOf(letters("fghi"), 10, 10, 10, 10, 10)),
		"a child that is there twice":      with(w, 12, innerOf([]string{"e", "k"}, 20, 20, 23)),
		"a reserved child":                 with(w, 12, innerOf([]string{"e", "k"}, 20, 9, 23)),
		"a child behind the last block":    with(w, 12, innerOf([]string{"e", "k"}, 20, 24, 23)),
	} {
		isNone(t, v)
		for _, key := range []string{"f", "g"} {
			if val, e := Get(v, key); val != "" || e != api.ErrTree {
				t.Errorf("%s: Get(%s): %q, %d", name, key, val, e)
			}
		}
		for _, most := range []int{4, 5, 256} {
			if l, next, e := Scan(v, "", most); len(l) > 0 || next != "" || e != api.ErrTree {
				t.Errorf("%s: Scan of %d: %v, %q, %d", name, most, l, next, e)
			}
		}
		ask(t, v)
	}
}

// Leaves that are not equally deep are told, if one comes to both.
func TestLeavesNotEquallyDeep(t *testing.T) {
	w := with(bare(24), 20, leafOf(letters("ABCD")...))
	for i, row := range []string{"abcd", "efgh", "ijkl", "mnop", "qrst"} {
		w = with(w, 11+i, leafOf(letters(row)...))
	}
	w = with(w, 16, innerOf(letters("eimq"), 11, 12, 13, 14, 15))
	w = rooted(with(w, 10, innerOf([]string{"a"}, 20, 16)), 10)
	isNone(t, w)
	scanIs(t, w, "", 4, nil, "", api.ErrTree)
	ask(t, w)

	w = rooted(with(w, 10, innerOf([]string{"z"}, 16, 20)), 10)
	w = with(w, 20, leafOf("z1", "z2", "z3", "z4"))
	isNone(t, w)
	scanIs(t, w, "", 256, nil, "", api.ErrTree)
	ask(t, w)
}

// Keys within the bounds of the node above, and not within those of the one above it.
func TestBoundsOfAllAbove(t *testing.T) {
	w := planted(24, pairsOf(counted(40)...), way{gen: 1})
	root, _ := held(w, w.Root, true)
	inner, _ := held(w, root.Kids[1], false)
	first, _ := held(w, inner.Kids[0], false)
	if len(root.Kids) != 2 || inner.Leaf {
		t.Fatal(show(w))
	}
	low := first
	low.Keys = slices.Clone(first.Keys)
	low.Keys[0] = "k00003" // it lies in the first leaf already
	v := with(w, inner.Kids[0], low)
	isNone(t, v)
	ask(t, v)
	for _, most := range []int{20, 21, 40, 256} {
		wildScan(t, v, "", most)
	}

	inner, _ = held(w, root.Kids[0], false)
	last, _ := held(w, inner.Kids[len(inner.Kids)-1], false)
	high := last
	high.Keys = slices.Clone(last.Keys)
	high.Keys[len(high.Keys)-1] = "k99999"
	v = with(w, inner.Kids[len(inner.Kids)-1], high)
	isNone(t, v)
	ask(t, v)
}

// Eight levels of nodes whose nine children are all the same one would have five million leaves.
func TestBlocksThatAreSharedEnd(t *testing.T) {
	for _, height := range []int{2, 3, 6, 7, 8, 9, 13} {
		w := rooted(bare(24), 10)
		for i := range height - 1 {
			w = with(w, 10+i, innerOf(letters("abcdefgh"), slices.Repeat([]int{11 + i}, 9)...))
		}
		w = with(w, 10+height-1, leafOf(letters("abcdefgh")...))
		isNone(t, w)
		ask(t, w)
		wider := w
		for i := range height - 1 {
			keys := make([]string, 8)
			for j := range keys {
				keys[j] = strings.Repeat("h", i) + string([]byte{'a' + byte(j)})
			}
			wider = with(wider, 10+i, innerOf(keys, slices.Repeat([]int{11 + i}, 9)...))
		}
		isNone(t, wider)
		ask(t, wider)
	}
	for _, n := range []api.Node{innerOf([]string{"m"}, 10, 10), innerOf(letters("mnop"), 10, 10, 10, 10, 10), innerOf(letters("abcdefgh"), slices.Repeat([]int{10}, 9)...)} {
		w := rooted(with(bare(24), 10, n), 10)
		isNone(t, w)
		ask(t, w)
	}
}

// noise is numbers that look like no pattern, the same ones each time.
type noise uint32

func (n *noise) below(limit int) int {
	*n = *n*1664525 + 1013904223
	return int(uint32(*n)>>8) % limit
}

// Woods of nodes that were strewn about: most are no tree, many nearly.
func TestStrewnWoods(t *testing.T) {
	t.Parallel()
	seed := noise(1)
	for range 300 {
		w := bare(24)
		w.Root = 10 + seed.below(6)
		for block := 10; block < 20; block++ {
			from := seed.below(12)
			keys := letters("abcdefghijklmnopqrst")[from : from+1+seed.below(8)]
			if seed.below(2) == 0 {
				w = with(w, block, leafOf(keys...))
				continue
			}
			var kids []int
			for range len(keys) + 1 {
				kids = append(kids, 10+seed.below(10))
			}
			w = with(w, block, innerOf(keys, kids...))
		}
		askSome(t, w, 3)
	}
}

// P8.4

func TestScanFromKeyToKey(t *testing.T) {
	t.Parallel()
	for _, w := range trees() {
		pairs, _ := treeOf(w)
		for _, most := range []int{1, 2, 3, 4, 5, 8, 9, 100, 256} {
			var told []api.Pair
			for from := ""; ; {
				l, next, e := Scan(w, from, most)
				if e != api.OK || next != "" && len(l) != most {
					t.Fatalf("Scan(%s; %q, %d): %v, %q, %d", show(w), from, most, l, next, e)
				}
				told, from = append(told, l...), next
				if from == "" {
					break
				}
			}
			if !slices.Equal(told, pairs) {
				t.Errorf("%s by %d: %v", show(w), most, told)
			}
		}
		for _, p := range pairs {
			getIs(t, w, p.Key, p.Val, api.OK)
		}
		for _, key := range keysIn(w) {
			if _, e := Get(w, key); e == api.OK != slices.ContainsFunc(pairs, func(p api.Pair) bool { return p.Key == key }) {
				t.Errorf("Get(%s; %q): %d", show(w), key, e)
			}
		}
	}
}

// P1 and the rules

// Of two errors the one named first is told, and nothing beside it.
func TestFirstError(t *testing.T) {
	long := strings.Repeat("x", 33)
	for _, w := range []api.Wood{bare(24), rooted(bare(24), 10), without(small(), 12), with(small(), 10, leafOf())} {
		for _, key := range []string{"", long} {
			getIs(t, w, key, "", api.ErrArg)
		}
		for _, most := range []int{lowest, -1, 257, highest} {
			scanIs(t, w, "", most, nil, "", api.ErrArg)
			scanIs(t, w, long, most, nil, "", api.ErrArg)
		}
		for _, most := range []int{0, 1, 256} {
			scanIs(t, w, long, most, nil, "", api.ErrArg)
		}
	}
	// What a tree has is told of none that may not be, and no block is missing there.
	for _, cut := range []func(*api.Wood){
		func(w *api.Wood) { w.Gen = 0 },
		func(w *api.Wood) { w.Root = 9 },
		func(w *api.Wood) { w.Root = -1 },
		func(w *api.Wood) { w.Root = 24 },
		func(w *api.Wood) { w.Pages = w.Pages[:23] },
		func(w *api.Wood) { w.Pages[0] = strings.Repeat("x", 4097) },
		func(w *api.Wood) { w.Base[3] = false },
		func(w *api.Wood) { w.Base, w.Now, w.Pages = nil, nil, nil },
	} {
		w := small()
		cut(&w)
		for _, block := range []int{-1, 9, 10, 12, 23, 24} {
			loadIs(t, w, block, true, api.Node{}, api.ErrArg)
		}
		for _, key := range []string{"", "a", "e", long} {
			getIs(t, w, key, "", api.ErrArg)
			scanIs(t, w, key, 5, nil, "", api.ErrArg)
			scanIs(t, w, key, -1, nil, "", api.ErrArg)
		}
	}
}

// Every call ends and none panics, also of great arguments.
func TestGreatArguments(t *testing.T) {
	huge := strings.Repeat("h", 1<<24)
	many := bare(1 << 20)
	refuse := func(w api.Wood, e api.Errno) {
		if Right(w) {
			t.Errorf("Right(%s)", show(w))
		}
		loadIs(t, w, 1<<20-1, true, api.Node{}, e)
		getIs(t, w, huge, "", e)
		scanIs(t, w, huge, highest, nil, "", e)
	}
	refuse(many, api.ErrArg)
	refuse(withPage(bare(24), 10, huge), api.ErrArg)
	w := bare(24)
	w.Pages = many.Pages
	refuse(w, api.ErrArg)
	for _, w := range []api.Wood{bare(2048), small()} {
		getIs(t, w, huge, "", api.ErrArg)
		scanIs(t, w, huge, 1, nil, "", api.ErrArg)
		loadIs(t, w, highest, false, api.Node{}, api.ErrTree)
		loadIs(t, w, lowest, false, api.Node{}, api.ErrTree)
	}
}

// roomy is a wood whose lists have room behind their ends, where something stands.
func roomy(w api.Wood) api.Wood {
	n := len(w.Now)
	w = copied(w)
	w.Base = append(append(make([]bool, 0, 2*n), w.Base...), true, false)[:n]
	w.Now = append(append(make([]bool, 0, 2*n), w.Now...), false, true)[:n]
	w.Pages = append(append(make([]string, 0, 2*n), w.Pages...), "x", "y")[:n]
	return w
}

func whole(w api.Wood) api.Wood {
	w.Base, w.Now, w.Pages = w.Base[:cap(w.Base)], w.Now[:cap(w.Now)], w.Pages[:cap(w.Pages)]
	return copied(w)
}

func TestArgumentsStay(t *testing.T) {
	for _, w := range []api.Wood{bare(24), small(), without(small(), 10), planted(24, pairsOf(counted(41)...), way{gen: 3})} {
		w = roomy(w)
		was := whole(w)
		Right(w)
		for block := -1; block < 25; block++ {
			Load(w, block, true)
			Load(w, block, false)
		}
		for _, key := range keysIn(w) {
			Get(w, key)
			Scan(w, key, 3)
			Scan(w, key, 256)
		}
		if !sameWood(whole(w), was) {
			t.Errorf("%s was %s", show(w), show(was))
		}
	}
}

// An answer is new memory: what becomes of it is not seen in the next one.
func TestAnswersAreNewMemory(t *testing.T) {
	w := small()
	for _, block := range []int{10, 12} {
		n, _ := Load(w, block, true)
		want := api.Node{Leaf: n.Leaf, Keys: slices.Clone(n.Keys), Vals: slices.Clone(n.Vals), Kids: slices.Clone(n.Kids)}
		for i := range n.Keys {
			n.Keys[i] = "ruined"
		}
		if !slices.Equal(n.Vals, want.Vals) {
			t.Error("keys and values share a list")
		}
		clear(n.Vals)
		clear(n.Kids)
		loadIs(t, w, block, true, want, api.OK)
	}
	l, next, _ := Scan(w, "", 5)
	want := slices.Clone(l)
	clear(l[:cap(l)])
	scanIs(t, w, "", 5, want, next, api.OK)
}

// No call keeps anything: asked again, behind others, it answers the same.
func TestCallsKeepNothing(t *testing.T) {
	woods := []api.Wood{small(), bare(24), rooted(bare(24), 10), with(small(), 10, leafOf()), planted(24, pairsOf(counted(41)...), way{gen: 2}), {}}
	tell := func(w api.Wood) string {
		s := fmt.Sprint(Right(w))
		for _, key := range []string{"", "a", "f", "k00041", "n"} {
			n, e := Load(w, 10, false)
			s += fmt.Sprint(n, e)
			v, e := Get(w, key)
			s += fmt.Sprint(v, e)
			l, next, e := Scan(w, key, 6)
			s += fmt.Sprint(l, next, e)
		}
		return s
	}
	var first []string
	for _, w := range woods {
		first = append(first, tell(w))
	}
	for i := len(woods) - 1; i >= 0; i-- {
		if again := tell(woods[i]); again != first[i] {
			t.Errorf("%s, then %s", first[i], again)
		}
	}
}
