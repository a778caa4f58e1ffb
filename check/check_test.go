package check

import (
	"fmt"
	"math"
	"slices"
	"strings"
	"testing"

	"penelope/alloc"
	"penelope/api"
	"penelope/grow"
	"penelope/prune"
)

// blocksAre and checkIs hold what is told against what is to be, and the arguments against what they were.
func blocksAre(t *testing.T, w api.Wood, want []int, e api.Errno) {
	t.Helper()
	was := twin(w)
	if l, f := Blocks(w); !slices.Equal(l, want) || f != e {
		t.Fatalf("Blocks(%s): %d, %d; not %d, %d", show(w), l, f, want, e)
	}
	if !same(w, was) {
		t.Fatalf("Blocks(%s): %s", show(was), show(w))
	}
}

func checkIs(t *testing.T, want api.Report, e api.Errno, w api.Wood, more ...int) {
	t.Helper()
	was, wasMore := twin(w), slices.Clone(more)
	if r, f := Check(w, more...); r != want || f != e {
		t.Fatalf("Check(%s; %d): %v, %d; not %v, %d", show(w), more, r, f, want, e)
	}
	if !same(w, was) || !slices.Equal(more, wasMore) {
		t.Fatalf("Check(%s; %d): %s; %d", show(was), wasMore, show(w), more)
	}
}

func refused(t *testing.T, e api.Errno, w api.Wood, more ...int) {
	t.Helper()
	checkIs(t, api.Report{}, e, w, more...)
}

// ask holds both calls against the chapters' words.
func ask(t *testing.T, w api.Wood, more ...int) {
	t.Helper()
	blocks, e := blocksOf(w)
	blocksAre(t, w, blocks, e)
	r, e := checkOf(w, more...)
	checkIs(t, r, e, w, more...)
}

// isNone has a test fail whose wood may not be or is a tree, or of which a call tells another error than ErrTree, with whatever more.
func isNone(t *testing.T, w api.Wood) {
	t.Helper()
	if _, is := treeOf(w); is || !mayBe(w) {
		t.Fatalf("a tree, or none that may be: %s", show(w))
	}
	blocksAre(t, w, nil, api.ErrTree)
	all := behind(w)
	for _, more := range [][]int{nil, {10}, {23}, {9}, {0}, {-1}, {len(w.Now)}, {11, 11}, all, all[:len(all)/2]} {
		refused(t, api.ErrTree, w, more...)
	}
}

// behind are all blocks behind the Reserved ones that Now has.
func behind(w api.Wood) []int {
	var l []int
	for block := 10; block < len(w.Now); block++ {
		if w.Now[block] {
			l = append(l, block)
		}
	}
	return l
}

// idle are all blocks that Now has not.
func idle(w api.Wood) []int {
	var l []int
	for block, is := range w.Now {
		if !is {
			l = append(l, block)
		}
	}
	return l
}

// orders are all rows of those numbers.
func orders(l []int) [][]int {
	if len(l) == 0 {
		return [][]int{nil}
	}
	var rows [][]int
	for i := range l {
		for _, row := range orders(slices.Concat(l[:i], l[i+1:])) {
			rows = append(rows, append([]int{l[i]}, row...))
		}
	}
	return rows
}

// P11.1, and what Check tells of trees

func TestExamples(t *testing.T) {
	checkIs(t, api.Report{}, api.OK, bare(24))
	refused(t, api.ErrTree, bare(24), 10)
}

func TestRootZero(t *testing.T) {
	for _, size := range []int{24, 25, 100, 2047, 2048} {
		for _, gen := range []int{1, 2, 1<<40 - 1, 1 << 40} {
			w := bare(size)
			w.Gen = gen
			for _, v := range bases(w) {
				blocksAre(t, v, nil, api.OK)
				checkIs(t, api.Report{}, api.OK, v)
			}
			// A node that lies there and that nothing holds is of no tree.
			v := with(w, size-1, leafOf("abcd"))
			blocksAre(t, v, nil, api.OK)
			refused(t, api.ErrTree, v)
			checkIs(t, api.Report{}, api.OK, v, size-1)
			checkIs(t, api.Report{}, api.OK, without(v, size-1))
		}
	}
}

func TestRootLeaf(t *testing.T) {
	for count := 1; count <= 8; count++ {
		for _, size := range []int{24, 100, 2048} {
			for _, root := range []int{10, 11, 22, size - 1} {
				w := rooted(with(bare(size), root, leafOf("abcdefgh"[:count])), root)
				blocksAre(t, w, []int{root}, api.OK)
				checkIs(t, api.Report{Pairs: count, Height: 1, Blocks: 1}, api.OK, w)
				ask(t, w)
			}
		}
	}
	isNone(t, rooted(with(bare(24), 10, api.Node{Leaf: true}), 10))
	isNone(t, rooted(with(bare(24), 10, leafOf("abcdefghi")), 10))
	isNone(t, rooted(with(bare(24), 10, leafOf("ba")), 10))
	isNone(t, rooted(with(bare(24), 10, leafOf("aa")), 10))
	isNone(t, rooted(bare(24), 10))
	isNone(t, rooted(using(bare(24), 10), 10))
}

func TestTwoLevels(t *testing.T) {
	w := twoLevels()
	blocksAre(t, w, []int{10, 12, 20, 23}, api.OK)
	checkIs(t, api.Report{Pairs: 12, Height: 2, Blocks: 4}, api.OK, w)

	w = with(with(bare(24), 23, leafOf("abcd")), 10, leafOf("mnopqrst"))
	w = rooted(with(w, 16, innerOf("m", 23, 10)), 16)
	blocksAre(t, w, []int{10, 16, 23}, api.OK)
	checkIs(t, api.Report{Pairs: 12, Height: 2, Blocks: 3}, api.OK, w)
}

// What a tree was made of is told, whatever counts, and whatever lies in blocks that are not its own.
func TestTrees(t *testing.T) {
	t.Parallel()
	for _, s := range small() {
		want := api.Report{Pairs: s.pairs, Height: s.height, Blocks: len(s.blocks)}
		for i, w := range bases(s.Wood) {
			blocksAre(t, w, s.blocks, api.OK)
			checkIs(t, want, api.OK, w)
			for _, block := range append(idle(w), 0, 1, 9) {
				w.Pages[block] = []string{"x", strings.Repeat("y", 4096), w.Pages[w.Root]}[(block+i)%3]
			}
			blocksAre(t, w, s.blocks, api.OK)
			checkIs(t, want, api.OK, w)
		}
		ask(t, s.Wood)
	}
}

// filling has a tree of six levels have all of 2048 blocks.
func filling(depth, nth int) int {
	if depth == 5 && nth < 118 {
		return 8
	}
	if depth == 5 && nth == 118 {
		return 7
	}
	return few(depth, nth)
}

func TestHighTrees(t *testing.T) {
	t.Parallel()
	for _, how := range []shape{
		{height: 4, keys: many}, {height: 4, keys: some, loose: true}, {height: 5, keys: few, down: true}, {height: 6, keys: few, gen: 3}, {height: 6, keys: filling, loose: true},
	} {
		s := sown(2048, how)
		if how.height == 4 && len(s.blocks) > 2038 {
			t.Fatal(len(s.blocks))
		}
		want := api.Report{Pairs: s.pairs, Height: how.height, Blocks: len(s.blocks)}
		blocksAre(t, s.Wood, s.blocks, api.OK)
		checkIs(t, want, api.OK, s.Wood)
		rest := idle(s.Wood)
		checkIs(t, want, api.OK, using(s.Wood, rest...), rest...)
		for _, block := range []int{s.blocks[0], s.blocks[len(s.blocks)/2], s.blocks[len(s.blocks)-1]} {
			isNone(t, without(s.Wood, block))
			isNone(t, withBytes(s.Wood, block, ""))
			refused(t, api.ErrTree, s.Wood, block)
		}
	}
	if s := sown(2048, shape{height: 6, keys: filling}); len(s.blocks) != 2038 {
		t.Errorf("%d blocks", len(s.blocks))
	}
}

// Keys that rise where careless holding against one another would have them fall.
func TestOddKeys(t *testing.T) {
	long := strings.Repeat("k", 31)
	keys := []string{
		"\x00", "\x00\x00", "\x00\x01", "\x01", "1", "10", "2", "9", "A", "Z", "a", "a\x00", "a\x00\x00", "a\x01", "aa", "ab",
		"a\x7f", "a\x80", "a\xff", "b", long, long + "\x00", long + "\x7f", long + "\x80", long + "\xff", "z", "\x7e", "\x7f", "\x7f\xff", "\x80", "\x80\x01",
		"\xc3\xa9", "\xe2\x82\xac", "\xff", "\xff\x00", "\xff\xff", strings.Repeat("\xff", 32),
	}
	w := bare(40)
	var e api.Errno
	for i := range keys {
		key := keys[i*7%len(keys)]
		if w, e = grow.Put(w, key, strings.Repeat("v", 200)); e != api.OK {
			t.Fatal(e)
		}
		if r, e := Check(w); e != api.OK || r.Pairs != i+1 {
			t.Errorf("%d pairs: %v, %d: %s", i+1, r, e, show(w))
		}
		ask(t, w)
	}
}

// P11.2: more

// Each row of blocks that Now has and the tree has not is as good as another; none of them is left out, and no other is named.
func TestMore(t *testing.T) {
	for _, extra := range [][]int{{}, {11}, {13}, {22}, {11, 22}, {21, 19}, {11, 15, 22}, {11, 13, 21, 22}} {
		for _, w := range bases(using(twoLevels(), extra...)) {
			for _, more := range orders(extra) {
				checkIs(t, api.Report{Pairs: 12, Height: 2, Blocks: 4}, api.OK, w, more...)
				blocksAre(t, w, []int{10, 12, 20, 23}, api.OK)
				for i := range more {
					refused(t, api.ErrTree, w, more[:i]...)
					refused(t, api.ErrTree, w, more[i+1:]...)
					other := slices.Clone(more)
					for block := -2; block < 27; block++ {
						other[i] = block
						ask(t, w, other...)
					}
				}
				for block := -2; block < 27; block++ {
					refused(t, api.ErrTree, w, append(slices.Clone(more), block)...)
					refused(t, api.ErrTree, w, append([]int{block}, more...)...)
				}
			}
		}
	}
}

// One block is named, that Now has or has not, of a tree and of Root 0.
func TestOneMore(t *testing.T) {
	for _, w := range []api.Wood{bare(24), bare(25), bare(2048), twoLevels(), rooted(with(bare(100), 99, leafOf("abc")), 99)} {
		size := len(w.Now)
		want, e := checkOf(w)
		tree, _ := blocksOf(w)
		if e != api.OK {
			t.Fatal(e)
		}
		for _, block := range []int{math.MinInt, -size, -10, -1, 0, 1, 8, 9, 10, 11, 12, 20, 22, 23, 24, size - 2, size - 1, size, size + 1, 2047, 2048, 1 << 40, math.MaxInt} {
			refused(t, api.ErrTree, w, block)
			if block < 10 || block >= size || slices.Contains(tree, block) {
				continue
			}
			v := using(w, block)
			checkIs(t, want, api.OK, v, block)
			refused(t, api.ErrTree, v)
			refused(t, api.ErrTree, v, block, block)
			refused(t, api.ErrTree, v, block, 9)
			refused(t, api.ErrTree, v, block, size)
			refused(t, api.ErrTree, v, -1, block)
			blocksAre(t, v, tree, api.OK)
		}
	}
}

// More that is wrong stays wrong where as many are named as Now has beside the tree.
func TestMoreInAnothersPlace(t *testing.T) {
	w := using(twoLevels(), 11, 15)
	for _, more := range [][]int{{11, 11}, {15, 15}, {11, 16}, {14, 15}, {11, 12}, {10, 15}, {11, 9}, {0, 15}, {11, 24}, {-15, 11}, {11, 15, 15}, {11, 15, 11}, {11, 11, 15}} {
		refused(t, api.ErrTree, w, more...)
	}
	checkIs(t, api.Report{Pairs: 12, Height: 2, Blocks: 4}, api.OK, w, 15, 11)
}

// All blocks that the tree has not are named.
func TestAllTheRest(t *testing.T) {
	seed := noise(5)
	for _, w := range []api.Wood{bare(24), bare(2048), twoLevels(), sown(130, shape{height: 3, keys: few}).Wood, rooted(with(bare(2048), 1000, leafOf("abc")), 1000)} {
		want, _ := checkOf(w)
		rest := idle(w)
		for range 3 {
			rest = seed.mixed(rest)
			v := using(w, rest...)
			checkIs(t, want, api.OK, v, rest...)
			refused(t, api.ErrTree, w, rest...)
			refused(t, api.ErrTree, v, rest[1:]...)
			refused(t, api.ErrTree, without(v, rest[0]), rest...)
			checkIs(t, want, api.OK, without(v, rest[0]), rest[1:]...)
			refused(t, api.ErrTree, v, append(slices.Clone(rest), rest[len(rest)/2])...)
			if w.Root != 0 {
				isNone(t, without(v, w.Root))
			}
		}
	}
}

// What lies in a block that is named does not matter, a node's page or a child's name for it neither.
func TestPagesOfMore(t *testing.T) {
	for _, bytes := range []string{"", "x", strings.Repeat("z", 4096), pageOf(api.PLeaf, 1, leafOf("abcd")), pageOf(api.PMap, 1, leafOf("abcd")), pageOf(api.PInner, 9, innerOf("ek", 20, 10, 23))} {
		w := withBytes(twoLevels(), 15, bytes)
		checkIs(t, api.Report{Pairs: 12, Height: 2, Blocks: 4}, api.OK, w, 15)
		refused(t, api.ErrTree, w)
	}
}

// Any blocks are used, and any are named.
func TestStrewnMore(t *testing.T) {
	t.Parallel()
	seed := noise(7)
	right := 0
	for range 20000 {
		w := twoLevels()
		if seed.below(4) == 0 {
			w = bare(24)
		}
		var more []int
		for _, block := range idle(w) {
			if seed.below(3) == 0 {
				w.Now[block] = true
				more = append(more, block)
			}
		}
		more = seed.mixed(more)
		if len(more) > 0 && seed.below(2) == 0 {
			more[seed.below(len(more))] = seed.below(27) - 1
		}
		if seed.below(8) == 0 {
			block := 10 + seed.below(14)
			w.Now[block] = !w.Now[block]
		}
		ask(t, w, more...)
		if _, e := Check(w, more...); e == api.OK {
			right++
		}
	}
	if right < 5000 || right > 15000 {
		t.Errorf("%d of 20000 are checked", right)
	}
}

// P11.1 and P11.2: woods that may not be, and those that are no tree

func TestWoodsThatMayNotBe(t *testing.T) {
	for _, w := range []api.Wood{bare(24), twoLevels(), using(twoLevels(), 15), without(twoLevels(), 10), rooted(bare(24), 10)} {
		for _, v := range never(w) {
			blocksAre(t, v, nil, api.ErrArg)
			for _, more := range [][]int{nil, {15}, {10}, {-1}, {0}, {9}, {24}, {15, 15}, {math.MinInt}, {math.MaxInt, 11}} {
				refused(t, api.ErrArg, v, more...)
			}
		}
	}
	for block := range 10 {
		for _, w := range []api.Wood{without(twoLevels(), block), without(bare(24), block)} {
			blocksAre(t, w, nil, api.ErrArg)
			refused(t, api.ErrArg, w)
			refused(t, api.ErrArg, w, block)
		}
	}
}

func TestFaults(t *testing.T) {
	w := twoLevels()
	nine := []int{10, 10, 10, 10, 10, 10, 10, 10, 10}
	for _, v := range []api.Wood{
		without(w, 12),
		withBytes(w, 12, "x"),
		withBytes(w, 12, pageOf(api.PInner, 2, innerOf("ek", 20, 10, 23))),
		withBytes(w, 12, pageOf(api.PMap, 1, innerOf("ek", 20, 10, 23))),
		with(w, 12, api.Node{Leaf: true}),
		rooted(w, 11),
		// A block that is its own child, or is reached twice.
		with(w, 12, innerOf("ek", 12, 10, 23)),
		with(w, 12, innerOf("ek", 20, 12, 23)),
		with(w, 12, innerOf("ek", 20, 10, 12)),
		with(w, 12, innerOf("abcdefgh", 12, 12, 12, 12, 12, 12, 12, 12, 12)),
		with(w, 10, innerOf("fghi", 10, 10, 10, 10, 10)),
		with(w, 10, innerOf("efghijmn", nine...)),
		with(w, 10, innerOf("fghi", 12, 12, 12, 12, 12)),
		without(with(w, 12, innerOf("ek", 20, 20, 23)), 10),
		without(with(w, 12, innerOf("ek", 20, 10, 10)), 23),
		without(with(w, 12, innerOf("ek", 20, 10, 20)), 23),
		without(with(w, 12, innerOf("e", 10, 10)), 20, 23),
		// A child that holds no node.
		without(w, 20), without(w, 10), without(w, 23),
		withBytes(w, 10, ""),
		withBytes(w, 10, strings.Repeat("x", 4096)),
		withBytes(w, 10, pageOf(api.PLeaf, 2, leafOf("fghi"))),
		withBytes(w, 10, pageOf(api.PRing, 1, leafOf("fghi"))),
		withBytes(w, 10, pageOf(api.PInner, 1, leafOf("fghi"))),
		with(w, 10, leafOf("fgih")),
		with(w, 10, leafOf("ffgh")),
		with(w, 10, leafOf("fgghhiij")),
		with(w, 12, innerOf("ek", 20, 9, 23)),
		with(w, 12, innerOf("ek", 20, 0, 23)),
		with(w, 12, innerOf("ek", 20, 24, 23)),
		with(w, 12, innerOf("ek", 20, 2047, 23)),
		with(w, 12, innerOf("ek", 20, 11, 23)),
		with(w, 12, innerOf("ekz", 20, 10, 23, 11)),
		// Too few keys, or too many.
		with(w, 20, leafOf("abc")), with(w, 10, leafOf("fgh")), with(w, 23, leafOf("klm")), with(w, 23, leafOf("k")),
		with(w, 10, api.Node{Leaf: true}),
		with(w, 23, leafOf("klmnopqrs")),
		// Keys that lie outside their bounds.
		with(w, 20, leafOf("abce")), with(w, 20, leafOf("abcz")),
		with(w, 10, leafOf("dfgh")), with(w, 10, leafOf("afgh")), with(w, 10, leafOf("fghk")), with(w, 10, leafOf("fghz")),
		with(w, 23, leafOf("jlmn")), with(w, 23, leafOf("Zlmn")),
		with(w, 12, innerOf("dk", 20, 10, 23)), with(w, 12, innerOf("gk", 20, 10, 23)), with(w, 12, innerOf("ei", 20, 10, 23)), with(w, 12, innerOf("el", 20, 10, 23)),
		with(w, 12, innerOf("ek", 10, 20, 23)), with(w, 12, innerOf("ek", 20, 23, 10)), with(w, 12, innerOf("ke", 20, 10, 23)),
	} {
		for _, u := range append(bases(v), using(v, 15), using(v, 11)) {
			isNone(t, u)
		}
	}
	// Of the same kind, and right.
	for _, v := range []api.Wood{
		with(w, 10, leafOf("efgh")), with(w, 10, leafOf("eghj")), with(w, 23, leafOf("kxyz")), with(w, 23, leafOf("klmnopqr")), with(w, 20, leafOf("ABCD")),
		with(w, 12, innerOf("fk", 20, 10, 23)), with(w, 12, innerOf("ej", 20, 10, 23)),
		withBytes(w, 10, pageOf(api.PLeaf, 0, leafOf("fghi"))),
	} {
		if _, e := Check(v); e != api.OK {
			t.Errorf("Check(%s): %d", show(v), e)
		}
		ask(t, v)
	}
}

// Leaves that are not equally deep: a to t lie one level below those of capital letters, or of those behind z.
func TestLeavesNotEquallyDeep(t *testing.T) {
	w := bare(40)
	for i, row := range []string{"abcd", "efgh", "ijkl", "mnop", "qrst"} {
		w = with(w, 11+i, leafOf(row))
	}
	w = with(w, 16, innerOf("eimq", 11, 12, 13, 14, 15))
	blocksAre(t, rooted(w, 16), []int{11, 12, 13, 14, 15, 16}, api.OK)
	low := with(with(w, 20, leafOf("ABCD")), 10, innerOf("a", 20, 16))
	high := with(with(w, 20, leafOf("wxyz")), 10, innerOf("u", 16, 20))
	amid := with(with(with(low, 21, leafOf("wxyz")), 22, leafOf("uv")), 10, innerOf("au", 20, 16, 21))
	isNone(t, rooted(low, 10))
	isNone(t, rooted(high, 10))
	isNone(t, rooted(without(amid, 22), 10))
	// A leaf too low: below a node where the other leaves are.
	deep := with(with(with(w, 17, leafOf("ghij")), 12, innerOf("efgh", 17, 18, 19, 20, 21)), 18, leafOf("eeee"))
	isNone(t, rooted(deep, 16))
	for i, row := range []string{"0123", "4567", "89AB", "CDEF", "GHIJ"} {
		low = with(low, 21+i, leafOf(row))
	}
	level := with(low, 20, innerOf("48CG", 21, 22, 23, 24, 25))
	blocksAre(t, rooted(level, 10), []int{10, 11, 12, 13, 14, 15, 16, 20, 21, 22, 23, 24, 25}, api.OK)
	checkIs(t, api.Report{Pairs: 40, Height: 3, Blocks: 13}, api.OK, rooted(level, 10))
}

// Keys within the bounds of the node above, and not within those of the one above it; an inner node's own keys among them.
func TestBoundsOfAllAbove(t *testing.T) {
	w := sown(100, shape{height: 4, keys: few}).Wood
	root, _ := holds(w, w.Root, true)
	for side, kid := range root.Kids {
		bound := root.Keys[0]
		beyond := []string{bound[:5] + "4", bound[:5] + "0", "a"}
		if side == 0 {
			beyond = []string{bound, bound + "\x00", "z"}
		}
		for !read(w.Pages[kid]).node.Leaf {
			spoilSide(t, w, kid, side, beyond)
			n := read(w.Pages[kid]).node
			kid = n.Kids[(1-side)*(len(n.Kids)-1)]
		}
		spoilSide(t, w, kid, side, beyond)
	}
	ask(t, w)
}

// spoilSide has a block's last key, or its first one, be another that lies beyond a bound far above.
func spoilSide(t *testing.T, w api.Wood, block, side int, keys []string) {
	t.Helper()
	for _, key := range keys {
		n := read(w.Pages[block]).node
		n.Keys = slices.Clone(n.Keys)
		n.Keys[(1-side)*(len(n.Keys)-1)] = key
		isNone(t, with(w, block, n))
	}
}

// chain is so many nodes below one another, the last one a leaf, each of them the child of that number of the one above it. The other children hold nothing: no wood has blocks enough for all of a tree that is too high.
func chain(nodes, at int) api.Wood {
	w, stem := rooted(bare(64), 10), ""
	under := func(stem string) []string {
		var l []string
		for _, c := range strings.Split("abcdefgh", "") {
			l = append(l, stem+c)
		}
		return l
	}
	for i := range nodes - 1 {
		kids := slices.Repeat([]int{63}, 9)
		kids[at] = 11 + i
		w = with(w, 10+i, api.Node{Keys: under(stem), Kids: kids})
		stem += []string{"A", "a", "b", "c", "d", "e", "f", "g", "h"}[at]
	}
	return with(w, 9+nodes, api.Node{Leaf: true, Keys: under(stem), Vals: make([]string, 8)})
}

func TestTooHigh(t *testing.T) {
	for nodes := 2; nodes <= 20; nodes++ {
		for at := range 9 {
			isNone(t, chain(nodes, at))
		}
	}
}

// Levels of nodes whose children are all the same one would have millions of leaves.
func TestBlocksThatAreSharedEnd(t *testing.T) {
	for _, height := range []int{2, 3, 6, 7, 8, 9, 13} {
		w := rooted(bare(24), 10)
		for i := range height - 1 {
			w = with(w, 10+i, innerOf("abcdefgh", slices.Repeat([]int{11 + i}, 9)...))
		}
		isNone(t, with(w, 10+height-1, leafOf("abcdefgh")))
		isNone(t, with(w, 10+height-1, innerOf("abcdefgh", slices.Repeat([]int{10}, 9)...)))
	}
	for _, n := range []api.Node{innerOf("m", 10, 10), innerOf("mnop", 10, 10, 10, 10, 10), innerOf("abcdefgh", slices.Repeat([]int{10}, 9)...)} {
		isNone(t, rooted(with(bare(24), 10, n), 10))
	}
	// Each block of a great wood holds a node that names the ones behind it.
	w := rooted(bare(2048), 10)
	for block := 10; block < 2048; block++ {
		n := innerOf("abcdefgh")
		for i := range 9 {
			n.Kids = append(n.Kids, 10+(block+i)%2038)
		}
		w.Now[block], w.Pages[block] = true, pageOf(api.PInner, 1, n)
	}
	isNone(t, w)
}

func TestWoodsWithAFault(t *testing.T) {
	t.Parallel()
	none, trees := 0, 0
	for _, how := range []shape{{height: 1, keys: few}, {height: 1, keys: many, gen: api.MaxTime}, {height: 2, keys: some, gen: 2}, {height: 2, keys: few, loose: true}, {height: 3, keys: few, loose: true, down: true}} {
		w := sown(30, how).Wood
		for _, block := range behind(w) {
			for _, v := range spoilt(w, block) {
				if _, is := treeOf(v); is {
					trees++
				} else {
					none++
				}
				ask(t, v)
				ask(t, using(v, 27), 27)
			}
		}
	}
	if none < 1000 || trees < 100 {
		t.Errorf("%d woods are no tree, %d are", none, trees)
	}
}

// Woods of nodes that were strewn about: most are no tree, many nearly.
func TestStrewnWoods(t *testing.T) {
	t.Parallel()
	const alphabet = "abcdefghijklmnopqrstuvwxyz"
	seed := noise(1)
	trees := 0
	for range 10000 {
		w := bare(24)
		w.Root = 10 + seed.below(6)
		for block := 10; block < 20; block++ {
			from := seed.below(18)
			keys := alphabet[from : from+4+seed.below(5)]
			if block == w.Root {
				keys = keys[:1+seed.below(2)]
			}
			if seed.below(4) > 0 && block != w.Root {
				w = with(w, block, leafOf(keys))
				continue
			}
			var kids []int
			for range len(keys) + 1 {
				kids = append(kids, 10+seed.below(10))
			}
			w = with(w, block, innerOf(keys, kids...))
		}
		tree, e := blocksOf(w)
		if e == api.OK {
			trees++
		}
		more := slices.DeleteFunc(behind(w), func(block int) bool { return slices.Contains(tree, block) })
		ask(t, w, more...)
		ask(t, w)
	}
	if trees < 20 {
		t.Errorf("only %d woods are trees", trees)
	}
}

// P11.3

// model is what a wood is to hold: keys, and blocks that are used beside the tree.
type model struct {
	api.Wood
	keys map[string]bool
	more []int
}

// modelOf is a model of a tree, beside which blocks are used whose bytes may be any.
func modelOf(w api.Wood, seed *noise, more int) *model {
	t, _ := treeOf(w)
	m := &model{Wood: twin(w), keys: map[string]bool{}}
	for _, key := range t.keys {
		m.keys[key] = true
	}
	m.more = seed.mixed(idle(w))[:more]
	for i, block := range m.more {
		m.Now[block], m.Pages[block] = true, []string{"", "x", w.Pages[w.Root]}[i%3]
	}
	return m
}

// checked holds a wood that grow or prune made against what is to be.
func (m *model) checked(t *testing.T) {
	t.Helper()
	r, e := Check(m.Wood, m.more...)
	if e != api.OK || r.Pairs != len(m.keys) || r.Blocks != len(behind(m.Wood))-len(m.more) || (r.Height == 0) != (len(m.keys) == 0) {
		t.Fatalf("Check(%s; %d): %v, %d; %d keys", show(m.Wood), m.more, r, e, len(m.keys))
	}
	blocks, e := Blocks(m.Wood)
	all := append(blocks, m.more...)
	slices.Sort(all)
	if e != api.OK || !slices.Equal(all, behind(m.Wood)) {
		t.Fatalf("Blocks(%s): %d, %d; more %d", show(m.Wood), blocks, e, m.more)
	}
	if len(m.more) > 0 {
		refused(t, api.ErrTree, m.Wood, m.more[1:]...)
	}
	if free := idle(m.Wood); len(free) > 0 {
		refused(t, api.ErrTree, m.Wood, append(slices.Clone(m.more), free[0])...)
		refused(t, api.ErrTree, using(m.Wood, free[len(free)-1]), m.more...)
	}
}

// do is one step: a pair is put, a key is taken out, or what is made counts.
func (m *model) do(t *testing.T, seed *noise, keys int) {
	t.Helper()
	key := keyOf(seed.below(keys))
	w, e := m.Wood, api.OK
	switch seed.below(9) {
	case 0, 1, 2, 3:
		if w, e = grow.Put(m.Wood, key, "new"); e == api.OK {
			m.keys[key] = true
		}
	case 4, 5:
		if w, e = prune.Delete(m.Wood, key); e == api.OK {
			delete(m.keys, key)
		}
	case 6, 7:
		other := keyOf(seed.below(keys)) + "x"
		if w, e = prune.Change(m.Wood, api.Change{Key: key, Gone: true}, api.Change{Key: other, Val: "o"}); e == api.OK {
			delete(m.keys, key)
			m.keys[other] = true
		}
	default:
		if m.Gen < api.MaxTime {
			w.Alloc, e = alloc.Commit(m.Alloc)
			w.Gen++
		}
	}
	if e == api.OK {
		m.Wood = w
	} else if e != api.ErrSpace && e != api.ErrKey {
		t.Fatalf("%d: %s", e, show(m.Wood))
	}
	m.checked(t)
}

func TestWhatGrowAndPruneMake(t *testing.T) {
	t.Parallel()
	seed := noise(11)
	woods := []api.Wood{bare(24), bare(64), bare(200), twoLevels()}
	for _, s := range small() {
		woods = append(woods, s.Wood)
	}
	for _, w := range woods {
		for _, more := range []int{0, 1, 4} {
			m := modelOf(w, &seed, more)
			m.checked(t)
			for range 80 {
				m.do(t, &seed, 60)
			}
		}
	}
}

// A tree grows, pair by pair, and is taken down again: what is used beside it stays.
func TestUpAndDown(t *testing.T) {
	t.Parallel()
	seed := noise(3)
	for _, more := range []int{0, 1, 7} {
		m := modelOf(bare(300), &seed, more)
		for i := range 400 {
			key := keyOf(i * 171 % 400)
			w, e := grow.Put(m.Wood, key, key)
			if e != api.OK {
				t.Fatal(e)
			}
			m.Wood, m.keys[key] = w, true
			m.checked(t)
		}
		for i := range 400 {
			key := keyOf(i * 93 % 400)
			w, e := prune.Delete(m.Wood, key)
			if e != api.OK {
				t.Fatal(e)
			}
			delete(m.keys, key)
			m.Wood = w
			m.checked(t)
		}
		checkIs(t, api.Report{}, api.OK, m.Wood, m.more...)
		blocksAre(t, m.Wood, nil, api.OK)
	}
}

// A tree that was made has a key in the wrong place, a leaf too low, or a block that nothing holds.
func TestWhatIsNotChecked(t *testing.T) {
	var pairs []api.Pair
	for i := range 60 {
		pairs = append(pairs, api.Pair{Key: keyOf(i), Val: "v"})
	}
	w, e := grow.All(bare(64), pairs...)
	if e != api.OK {
		t.Fatal(e)
	}
	blocks, e := Blocks(w)
	if e != api.OK {
		t.Fatal(e)
	}
	for _, block := range blocks {
		n := read(w.Pages[block]).node
		if !n.Leaf {
			continue
		}
		if n.Keys[0] != keyOf(0) {
			isNone(t, with(w, block, api.Node{Leaf: true, Keys: append([]string{"a"}, n.Keys[1:]...), Vals: n.Vals}))
		}
		if !slices.Contains(n.Keys, keyOf(59)) {
			isNone(t, with(w, block, api.Node{Leaf: true, Keys: append(slices.Clone(n.Keys[1:]), "z"), Vals: n.Vals}))
		}
		lower := w
		var kids []int
		for i := range len(n.Keys) + 1 {
			kids = append(kids, 58-i)
			lower = with(lower, 58-i, n)
		}
		isNone(t, with(lower, block, api.Node{Keys: n.Keys, Kids: kids}))
	}
	for _, block := range idle(w) {
		refused(t, api.ErrTree, using(w, block))
	}
}

// P1 and the rules

// Every call ends and none panics, also of great arguments.
func TestGreatArguments(t *testing.T) {
	huge := bare(1 << 20)
	full := make([]int, 1<<20)
	for i := range full {
		full[i] = i
	}
	blocksAre(t, huge, nil, api.ErrArg)
	refused(t, api.ErrArg, huge, full...)
	for _, w := range []api.Wood{bare(24), bare(2048), twoLevels(), rooted(bare(24), 10), using(bare(2048), full[10:2048]...)} {
		refused(t, api.ErrTree, w, full...)
		refused(t, api.ErrTree, w, full[10:]...)
		refused(t, api.ErrTree, w, make([]int, 1<<20)...)
		refused(t, api.ErrTree, w, slices.Repeat([]int{15}, 1<<20)...)
	}
	checkIs(t, api.Report{}, api.OK, using(bare(2048), full[10:2048]...), full[10:2048]...)
	long := withBytes(bare(24), 10, strings.Repeat("h", 1<<24))
	blocksAre(t, long, nil, api.ErrArg)
	refused(t, api.ErrArg, long, 10)
	w := bare(24)
	w.Pages = huge.Pages
	blocksAre(t, w, nil, api.ErrArg)
	refused(t, api.ErrArg, w)
}

func TestArgumentsStay(t *testing.T) {
	for _, w := range []api.Wood{bare(24), using(bare(24), 11, 14), twoLevels(), using(twoLevels(), 11, 14), without(twoLevels(), 10), sown(130, shape{height: 3, keys: some}).Wood} {
		w = spacious(w)
		was := whole(w)
		more := append(make([]int, 0, 8), 14, 11, 15, 10)
		wasMore := slices.Clone(more[:8])
		for i := range 5 {
			Blocks(w)
			Check(w, more[:i]...)
		}
		if !same(whole(w), was) || !slices.Equal(more[:8], wasMore) {
			t.Errorf("%s was %s; %d was %d", show(w), show(was), more, wasMore)
		}
	}
}

// An answer is new memory: what becomes of it is not seen in the next one.
func TestAnswersAreNewMemory(t *testing.T) {
	w := twoLevels()
	l, _ := Blocks(w)
	clear(l[:cap(l)])
	blocksAre(t, w, []int{10, 12, 20, 23}, api.OK)
}

// No lists are empty ones.
func TestNilIsEmpty(t *testing.T) {
	for _, more := range [][]int{nil, {}, make([]int, 0, 5)} {
		checkIs(t, api.Report{Pairs: 12, Height: 2, Blocks: 4}, api.OK, twoLevels(), more...)
		refused(t, api.ErrArg, api.Wood{}, more...)
	}
	refused(t, api.ErrArg, api.Wood{Alloc: api.Alloc{Base: []bool{}, Now: []bool{}}, Pages: []string{}, Gen: 1})
}

// No call keeps anything: asked again, behind others, it answers the same.
func TestCallsKeepNothing(t *testing.T) {
	woods := []api.Wood{twoLevels(), bare(24), using(bare(24), 15), rooted(bare(24), 10), using(twoLevels(), 15), sown(130, shape{height: 3, keys: some}).Wood, {}}
	tell := func(w api.Wood) string {
		l, e := Blocks(w)
		r, f := Check(w)
		s, g := Check(w, 15)
		return fmt.Sprint(l, e, r, f, s, g)
	}
	var first []string
	for _, w := range woods {
		first = append(first, tell(w))
	}
	for i := len(woods) - 1; i >= 0; i-- {
		if again := tell(woods[i]); again != first[i] {
			t.Errorf("%s, then %s", first[i], again)
		}
	}
}
