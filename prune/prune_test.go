package prune

import (
	"fmt"
	"slices"
	"strings"
	"testing"

	"penelope/alloc"
	"penelope/api"
	"penelope/grow"
	"penelope/look"
)

// del holds what Delete tells against the chapter's words, and the wood against what it was.
func del(t *testing.T, w api.Wood, key string) (api.Wood, api.Errno) {
	t.Helper()
	was := twin(w)
	x, e := Delete(w, key)
	if why := fault(was, key, x, e); why != "" {
		t.Fatalf("Delete(%s; %s): %d: %s: %s", show(was), brief(key), e, why, show(x))
	}
	if !same(w, was) {
		t.Fatalf("Delete(%s; %s): %s", show(was), brief(key), show(w))
	}
	return x, e
}

func delIs(t *testing.T, w api.Wood, key string, want api.Errno) api.Wood {
	t.Helper()
	x, e := del(t, w, key)
	if e != want {
		t.Fatalf("Delete(%s; %s): %d, not %d", show(w), brief(key), e, want)
	}
	return x
}

// isTree has a test fail whose wood is none, and tells what it is.
func isTree(t *testing.T, w api.Wood) tree {
	t.Helper()
	is, ok := treeOf(w)
	if !ok {
		t.Fatalf("no tree: %s", show(w))
	}
	return is
}

// isNone has a test fail whose wood may not be, or is a tree.
func isNone(t *testing.T, w api.Wood) {
	t.Helper()
	if _, is := treeOf(w); is || !mayBe(w) {
		t.Fatalf("a tree, or none that may be: %s", show(w))
	}
}

// strangers are keys that none of those pairs has: ahead of all, behind all, and around some that it has.
func strangers(pairs []api.Pair) []string {
	l := []string{"\x00", "a", "k", "l", strings.Repeat("\xff", 32)}
	for i := 0; i < len(pairs); i += max(1, len(pairs)/9) {
		key := pairs[i].Key
		l = append(l, key+"\x00", key[:len(key)-1]+"0")
	}
	return slices.DeleteFunc(l, func(key string) bool { return slices.Contains(keysOf(pairs), key) })
}

// someKeys are keys of pairs, the first and the last one among them, of which each leaf gives some.
func someKeys(pairs []api.Pair) []string {
	l := []string{pairs[len(pairs)-1].Key}
	for i := 0; i < len(pairs); i += max(1, len(pairs)/13) {
		l = append(l, pairs[i].Key)
	}
	return l
}

func keysOf(pairs []api.Pair) []string {
	var l []string
	for _, p := range pairs {
		l = append(l, p.Key)
	}
	return l
}

// P10.1

func TestExamples(t *testing.T) {
	for _, w := range bases(rooted(with(bare(24), 12, leafOf("a")), 12)) {
		x := delIs(t, w, "a", api.OK)
		if x.Root != 0 || x.Now[12] {
			t.Errorf("the only key: %s", show(x))
		}
		delIs(t, w, "b", api.ErrKey)
	}
	delIs(t, bare(24), "a", api.ErrKey)
	delIs(t, twoLevels(), "z", api.ErrKey)
}

func TestKeys(t *testing.T) {
	for _, fill := range []string{"\x00", "a", "k", "z", "\xff"} {
		for _, size := range []int{0, 1, 2, 31, 32, 33, 64, 1 << 16} {
			key := strings.Repeat(fill, size)
			is, there := api.ErrKey, api.OK
			if size < 1 || size > 32 {
				is, there = api.ErrArg, api.ErrArg
			}
			for _, w := range append(bases(sown(24, shape{height: 2, keys: few, gen: 2})), bare(24)) {
				delIs(t, w, key, is)
				x, e := grow.Put(w, key, "v")
				if e == api.ErrSpace {
					continue
				}
				if e != api.OK {
					x = w
				}
				delIs(t, roomy(x, 99), key, there)
			}
		}
	}
}

func TestRootLeaves(t *testing.T) {
	for count := 1; count <= 8; count++ {
		for _, w := range bases(rooted(with(bare(24), 12, leafOf("bdfhjlnp"[:count])), 12)) {
			for i, key := range strings.Split("abcdefghijklmnopq", "") {
				want := api.ErrKey
				if i%2 == 1 && i < 2*count {
					want = api.OK
				}
				if want == api.OK && w.Base[12] && freeOf(w) == 0 && count > 1 {
					want = api.ErrSpace
				}
				x := delIs(t, w, key, want)
				if want == api.OK && (x.Root == 0) != (count == 1) {
					t.Errorf("%d keys and one less: %s", count, show(x))
				}
			}
		}
	}
	for _, size := range []int{24, 25, 2047, 2048} {
		for _, gen := range []int{1, 2, 1<<40 - 1, 1 << 40} {
			w := rooted(with(bare(size), size-1, leafOf("ab")), size-1)
			w.Gen = gen
			w.Base[size-1] = true
			x := delIs(t, w, "a", api.OK)
			if p := read(x.Pages[x.Root]); !p.is || p.Gen != gen {
				t.Errorf("%v", p)
			}
		}
	}
}

func TestDeleteOfTrees(t *testing.T) {
	t.Parallel()
	for _, w := range small() {
		old := isTree(t, w)
		for _, v := range bases(w) {
			for _, key := range someKeys(old.pairs) {
				del(t, v, key)
			}
			for _, key := range strangers(old.pairs) {
				delIs(t, v, key, api.ErrKey)
			}
		}
	}
}

func TestEachKey(t *testing.T) {
	t.Parallel()
	for _, w := range small() {
		for _, p := range isTree(t, w).pairs {
			delIs(t, w, p.Key, api.OK)
			delIs(t, committed(withGen(w, 7)), p.Key, api.OK)
		}
	}
}

func withGen(w api.Wood, gen int) api.Wood {
	w.Gen = max(w.Gen, gen) - 1
	return w
}

// countings are rows of so many numbers, each of 4 to 8.
func countings(n int) [][]int {
	l := [][]int{nil}
	for range n {
		var more [][]int
		for _, row := range l {
			for count := 4; count <= 8; count++ {
				more = append(more, append(slices.Clone(row), count))
			}
		}
		l = more
	}
	return l
}

// Leaves side by side, of as few keys as may be and of more: whoever loses one, each has enough behind it.
func TestLeavesOfFewKeys(t *testing.T) {
	t.Parallel()
	for _, counts := range append(countings(2), countings(3)...) {
		w := sown(24, shape{height: 2, keys: level(2, counts...), gen: 2})
		old := isTree(t, w)
		sum := len(old.pairs)
		for i, key := range keysOf(old.pairs) {
			v := bases(w)[i%5]
			now := isTree(t, delIs(t, v, key, api.OK))
			if sum <= 8 && now.height != 1 || sum > 9 && now.height != 2 {
				t.Errorf("leaves of %v keys, without %s: %d high", counts, key, now.height)
			}
		}
	}
}

// Inner nodes side by side above leaves of as few keys as may be: each key that is taken out has one of them lose a child.
func TestInnerNodesOfFewKeys(t *testing.T) {
	t.Parallel()
	for i, counts := range append(countings(2), countings(3)[:60]...) {
		w := sown(64, shape{height: 3, keys: level(2, counts...), gen: 2, loose: i%2 == 0})
		old := isTree(t, w)
		for j, key := range keysOf(old.pairs) {
			if j%4 != i%4 {
				continue
			}
			v := bases(w)[(i+j/4)%5]
			now := isTree(t, delIs(t, v, key, api.OK))
			lower := len(counts) == 2 && counts[0] == 4 && counts[1] == 4
			if (now.height == 2) != lower {
				t.Errorf("inner nodes of %v keys, without %s: %d high", counts, key, now.height)
			}
		}
	}
}

// In a tree of as few keys as may be each key that goes makes it lower.
func TestFewKeysEverywhere(t *testing.T) {
	t.Parallel()
	for height := 1; height <= 5; height++ {
		w := sown(2048, shape{height: height, keys: few, gen: 3})
		old := isTree(t, w)
		for _, v := range bases(w)[:5] {
			for _, key := range someKeys(old.pairs) {
				now := isTree(t, delIs(t, v, key, api.OK))
				if old.height != height || now.height != height-1 {
					t.Errorf("%d high, then %d", height, now.height)
				}
			}
		}
	}
}

// One node ahead or behind, at any level, has a key to spare: the levels above it stay as they are, but for copies.
func TestOneKeyToSpare(t *testing.T) {
	t.Parallel()
	for height := 2; height <= 5; height++ {
		for deep := 2; deep <= height; deep++ {
			for spare := range 2 {
				counts := []int{4, 4}
				counts[spare]++
				how := shape{height: height, keys: level(deep, counts...), gen: 2}
				if deep > 2 {
					counts[1-spare] = 4
				}
				w := sown(2048, how)
				old := isTree(t, w)
				for _, v := range bases(w)[:5] {
					for _, key := range []string{old.pairs[0].Key, old.pairs[len(old.pairs)-1].Key, old.pairs[len(old.pairs)/3].Key} {
						delIs(t, v, key, api.OK)
					}
				}
				now := isTree(t, delIs(t, w, old.pairs[0].Key, api.OK))
				if now.height != height || countOf(old.blocks)-countOf(now.blocks) != height-deep {
					t.Errorf("%d high, with a key to spare at %d: %d high, of %d blocks %d", height, deep, now.height, countOf(old.blocks), countOf(now.blocks))
				}
			}
		}
	}
}

// A key of an inner node goes, as a pair's key.
func TestKeysOfInnerNodes(t *testing.T) {
	t.Parallel()
	for _, keys := range []func(depth, nth int) int{few, many, some} {
		w := sown(130, shape{height: 3, keys: keys, gen: 2})
		root, _ := held(w, w.Root, true)
		inner := slices.Clone(root.Keys)
		for _, kid := range root.Kids {
			n, _ := held(w, kid, false)
			inner = append(inner, n.Keys...)
		}
		for _, v := range bases(w)[:5] {
			for _, key := range inner {
				x := delIs(t, v, key, api.OK)
				delIs(t, x, key, api.ErrKey)
			}
			x := v
			for _, key := range inner {
				if y, e := del(t, x, key); e == api.OK {
					x = y
				}
			}
		}
		// Such a key parts others also where no pair has it.
		loose := sown(130, shape{height: 3, keys: keys, gen: 2, loose: true})
		root, _ = held(loose, loose.Root, true)
		for _, key := range root.Keys {
			delIs(t, loose, key, api.ErrKey)
		}
	}
}

// Blocks that Base has not are rewritten: no other one is needed then.
func TestBlocksAreRewritten(t *testing.T) {
	t.Parallel()
	for _, w := range small() {
		old := isTree(t, w)
		for _, key := range someKeys(old.pairs) {
			v := roomy(bases(w)[0], 0)
			x := delIs(t, v, key, api.OK)
			if free := freeOf(x); free != countOf(old.blocks)-countOf(isTree(t, x).blocks) {
				t.Errorf("%d free: %s, then %s", free, show(v), show(x))
			}
		}
	}
	// A key that a leaf can spare changes that leaf alone.
	w := roomy(sown(130, shape{height: 3, keys: many, gen: 2}), 0)
	x := delIs(t, w, keyOf(40), api.OK)
	unlike := 0
	for block := range w.Pages {
		if w.Pages[block] != x.Pages[block] {
			unlike++
		}
	}
	if unlike != 1 || x.Root != w.Root || !slices.Equal(x.Now, w.Now) {
		t.Errorf("%d blocks: %s", unlike, show(x))
	}
}

func TestOddKeys(t *testing.T) {
	long := strings.Repeat("k", 31)
	keys := []string{
		"\x00", "\x00\x00", "\x00\x01", "\x01", "1", "10", "2", "9", "A", "Z", "a", "a\x00", "a\x00\x00", "a\x01", "aa", "ab",
		"a\x7f", "a\x80", "a\xff", "b", long, long + "\x00", long + "\x7f", long + "\x80", long + "\xff", "z", "\x7e", "\x7f", "\x7f\xff", "\x80", "\x80\x01",
		"\xc3\xa9", "\xe2\x82\xac", "\xff", "\xff\x00", "\xff\xff", strings.Repeat("\xff", 32),
	}
	var pairs []api.Pair
	for i, key := range keys {
		pairs = append(pairs, api.Pair{Key: key, Val: strings.Repeat(string([]byte{byte(i)}), 200-i%3)})
	}
	w, e := grow.All(bare(40), pairs...)
	if e != api.OK {
		t.Fatal(e)
	}
	for round := range 20 {
		v := bases(w)[round%5]
		for _, i := range order(len(keys), "mixed") {
			key := keys[(i+round)%len(keys)]
			v = delIs(t, v, key, api.OK)
			delIs(t, v, key, api.ErrKey)
		}
	}
}

// P9.2, as P10.1 names it

// freeNeed is how many free blocks Delete takes, if all of the tree counts.
func freeNeed(t *testing.T, w api.Wood, key string) int {
	t.Helper()
	w = twin(w)
	w.Base = slices.Clone(w.Now)
	x := delIs(t, w, key, api.OK)
	return freeOf(w) - freeOf(x)
}

// Where all of a tree counts each of its nodes that changes needs a free block; where P9.2's number of them is free, there is room.
func TestRoom(t *testing.T) {
	t.Parallel()
	for height := 1; height <= 5; height++ {
		for name, how := range map[string]struct {
			keys func(depth, nth int) int
			need int
		}{
			"few":                   {few, height - 1},
			"a leaf of many":        {level(height, 8, 8), height},
			"a neighbour that has":  {level(height, 4, 5), height + 1},
			"a neighbour that has2": {level(height, 4, 8), height + 1},
		} {
			if height == 1 && name != "few" {
				continue
			}
			w := sown(2048, shape{height: height, keys: how.keys, gen: 2})
			w.Base = slices.Clone(w.Now)
			key := keyOf(0)
			if need := freeNeed(t, w, key); need != how.need {
				t.Errorf("%d high, %s: %d, not %d", height, name, need, how.need)
			}
			for free := 0; free <= 2*height+3; free++ {
				want := api.OK
				if free < how.need {
					want = api.ErrSpace
				}
				delIs(t, roomy(w, free), key, want)
			}
		}
	}
}

func TestRoomOfTrees(t *testing.T) {
	t.Parallel()
	refused := 0
	for i, w := range small() {
		old := isTree(t, w)
		keys := someKeys(old.pairs)
		for j, v := range bases(w) {
			for _, free := range []int{0, 1, old.height - 1, old.height, old.height + 1, 2 * old.height, 2*old.height + 1} {
				for k := range 4 {
					if _, e := del(t, roomy(v, free), keys[(i+7*j+11*k)%len(keys)]); e == api.ErrSpace {
						refused++
					}
				}
			}
		}
	}
	if refused < 50 {
		t.Errorf("only %d were refused", refused)
	}
}

// None is free, and all of the tree counts: but for the last key there is no room, and for others that are not there ErrKey.
func TestNoRoom(t *testing.T) {
	for _, w := range append(small(), rooted(with(bare(24), 12, leafOf("ab")), 12)) {
		old := isTree(t, w)
		w = committed(withGen(w, 9))
		for _, key := range someKeys(old.pairs) {
			want := api.ErrSpace
			if len(old.pairs) == 1 {
				want = api.OK
			}
			delIs(t, roomy(w, 0), key, want)
		}
		for _, key := range strangers(old.pairs) {
			delIs(t, roomy(w, 0), key, api.ErrKey)
		}
	}
}

// A block that goes and need not count is room for the node that stays.
func TestRoomOfABlockThatGoes(t *testing.T) {
	w := rooted(with(with(with(bare(24), 11, leafOf("abcd")), 15, leafOf("efgh")), 20, innerOf("e", 11, 15)), 20)
	for _, key := range []string{"a", "d", "e", "h"} {
		for mask := range 8 {
			v := twin(w)
			v.Base[11], v.Base[15], v.Base[20] = mask&1 > 0, mask&2 > 0, mask&4 > 0
			want := api.OK
			if mask&3 == 3 {
				want = api.ErrSpace
			}
			delIs(t, roomy(v, 0), key, want)
		}
	}
}

// P10.2

func TestWoodsThatMayNotBe(t *testing.T) {
	long := strings.Repeat("x", 33)
	for _, w := range []api.Wood{bare(24), sown(24, shape{height: 2, keys: few}), roomy(sown(24, shape{height: 1, keys: many}), 0)} {
		for _, v := range never(w) {
			for _, key := range []string{keyOf(0), keyOf(1), "a", "", long} {
				delIs(t, v, key, api.ErrArg)
				allIs(t, api.ErrArg, v, key, key)
				changeIs(t, api.ErrArg, v, api.Change{Key: key, Gone: true})
				changeIs(t, api.ErrArg, v, api.Change{Key: key, Val: "v"}, api.Change{Key: "z", Gone: true})
				changeIs(t, api.ErrArg, v, api.Change{Key: key, Val: "v", Gone: true})
			}
			allIs(t, api.ErrArg, v)
			changeIs(t, api.ErrArg, v)
		}
	}
}

// Faults that one comes to on the way to f are told, whether the key is there or not.
func TestFaultsOnTheWay(t *testing.T) {
	w := twoLevels()
	nine := []int{10, 10, 10, 10, 10, 10, 10, 10, 10}
	for name, v := range map[string]api.Wood{
		"a root that Now has not":          without(w, 12),
		"a root that is no page":           withBytes(w, 12, "x"),
		"a root leaf of no key":            withBytes(w, 12, pageOf(1, api.Node{Leaf: true})),
		"a root of a generation to come":   withBytes(w, 12, pageOf(2, innerOf("ek", 20, 10, 23))),
		"a root that is its own child":     with(w, 12, innerOf("ek", 20, 12, 23)),
		"a root of no other child":         with(w, 12, innerOf("abcdefgh", 12, 12, 12, 12, 12, 12, 12, 12, 12)),
		"a child that Now has not":         without(w, 10),
		"a child that is no page":          withBytes(w, 10, ""),
		"a child of a generation to come":  withBytes(w, 10, pageOf(2, leafOf("fghi"))),
		"a child of three keys":            with(w, 10, leafOf("fgh")),
		"a child of no key":                withBytes(w, 10, pageOf(1, api.Node{Leaf: true})),
		"a child that is its own child":    with(w, 10, innerOf("fghi", 10, 10, 10, 10, 10)),
		"a full child that is its own one": with(w, 10, innerOf("efghijmn", nine...)),
		"a child that is the root":         with(w, 10, innerOf("fghi", 12, 12, 12, 12, 12)),
		"a child that is there twice":      with(w, 12, innerOf("ek", 20, 20, 23)),
		"a reserved child":                 withBytes(w, 12, pageOf(1, innerOf("ek", 20, 9, 23))),
		"a child behind the last block":    with(w, 12, innerOf("ek", 20, 24, 23)),
		"a key below its bound":            with(w, 10, leafOf("dfgh")),
		"a key that is the bound above it": with(w, 10, leafOf("fghk")),
		"a key above its bound":            with(w, 10, leafOf("fghz")),
	} {
		isNone(t, v)
		for _, u := range append(bases(v), roomy(v, 0), roomy(v, 1)) {
			for _, key := range []string{"f", "f0", "g", "ee"} {
				if x, e := Delete(u, key); e != api.ErrTree || !isZero(x) {
					t.Errorf("%s: Delete(%s): %s, %d", name, key, show(x), e)
				}
				changeIs(t, api.ErrTree, u, api.Change{Key: key, Gone: true})
			}
			for _, key := range []string{"a", "b0", "d", "e", "f", "i", "k", "n", "z"} {
				del(t, u, key)
			}
			for _, key := range []string{"", strings.Repeat("f", 33)} {
				delIs(t, u, key, api.ErrArg)
			}
		}
	}
}

// A neighbour that no tree has there is told of, where a key needs it: that of f to i is a to d, that of a to d is f to i.
func TestFaultsOfANeighbour(t *testing.T) {
	w := twoLevels()
	for _, at := range []struct {
		key   string
		block int      // of the neighbour
		keys  []string // of a neighbour that the key between both does not part from the other
		twice []int    // children of a root, of which one is its own neighbour
		root  []int    // children of a root that is one's neighbour
	}{
		{"g", 20, []string{"abce", "abci", "abcz", "fghi", "wxyz"}, []int{10, 10, 23}, []int{12, 10, 23, 23, 23}},
		{"a", 10, []string{"dfgh", "afgh", "bfgh", "Zabc", "abcd"}, []int{20, 20, 23}, []int{20, 12, 23, 23, 23}},
	} {
		woods := map[string]api.Wood{
			"that Now has not":          without(w, at.block),
			"that is no page":           withBytes(w, at.block, "x"),
			"that is nothing":           withBytes(w, at.block, ""),
			"of a generation to come":   withBytes(w, at.block, pageOf(2, read(w.Pages[at.block]).node)),
			"of three keys":             with(w, at.block, leafOf("abc")),
			"that is no leaf":           with(w, at.block, innerOf("abcd", 13, 14, 15, 16, 17)),
			"that is none behind it":    with(w, at.block, innerOf("fghi", 13, 14, 15, 16, 17)),
			"that is a full inner node": with(w, at.block, innerOf("fghijlmn", 13, 14, 15, 16, 17, 18, 19, 20, 21)),
			"that is itself":            with(w, 12, innerOf("ek", at.twice...)),
			"that is the root":          with(w, 12, innerOf("ekoq", at.root...)),
		}
		for _, keys := range at.keys {
			woods["of the keys "+keys] = with(w, at.block, leafOf(keys))
		}
		for name, v := range woods {
			isNone(t, v)
			for _, u := range append(bases(v), roomy(v, 0), roomy(v, 1)) {
				if x, e := del(t, u, at.key); e != api.ErrTree {
					t.Errorf("a neighbour of %s %s: %s, %d", at.key, name, show(x), e)
				}
				for _, key := range strings.Split("abcdefghijklmnopq", "") {
					del(t, u, key)
				}
			}
		}
	}
}

// A neighbour that no inner node has: one that lies on the way down to the key, above both, among them. What is given back is not laid anew.
func TestFaultsOfAnInnerNeighbour(t *testing.T) {
	w := rooted(bare(40), 10)
	for i, row := range []string{"abcd", "efgh", "ijkl", "mnop", "qrst"} {
		w = with(w, 12+i, leafOf(row))
	}
	w = with(w, 11, innerOf("eimq", 12, 13, 14, 15, 16))
	woods := []api.Wood{
		with(w, 10, innerOf("u", 11, 10)),
		with(w, 10, innerOf("uvwxyz", 11, 10, 10, 10, 10, 10, 10)),
		with(w, 10, innerOf("uvwx", 11, 11, 11, 11, 11)),
		with(w, 10, innerOf("uvwx", 11, 12, 13, 14, 15)),
		with(w, 10, innerOf("uvwxyz", 11, 39, 39, 39, 39, 39, 39)),
		with(with(w, 10, innerOf("u", 11, 18)), 18, innerOf("uvwx", 39, 39, 39, 39, 39)),
		with(with(w, 10, innerOf("u", 11, 18)), 18, innerOf("uvwxy", 39, 39, 39, 39, 39, 39)),
	}
	// Keys of these roots lie behind all keys below them, so that they part nothing wrongly.
	w = with(w, 17, api.Node{Keys: []string{"tt", "tu", "tv", "tw", "tx"}, Kids: []int{11, 10, 39, 39, 39, 39}})
	for _, keys := range []string{"u", "uvwx", "uvwxy", "uvwxyz"} {
		kids := slices.Repeat([]int{39}, len(keys)+1)
		kids[0] = 17
		woods = append(woods, with(w, 10, innerOf(keys, kids...)))
	}
	for _, v := range woods {
		isNone(t, v)
		for base := range 16 {
			v = twin(v)
			v.Base[10], v.Base[11], v.Base[12], v.Base[17] = base&1 > 0, base&2 > 0, base&4 > 0, base&8 > 0
			for _, key := range strings.Split("abcdefghijklmnopqrst", "") {
				delIs(t, v, key, api.ErrTree)
				del(t, roomy(v, 3), key)
			}
		}
	}
}

// Faults beside the way need not be told; what is told may be, and what comes of it, too.
func TestFaultsBesideTheWay(t *testing.T) {
	w := twoLevels()
	for _, v := range []api.Wood{
		without(w, 23), without(w, 20), withBytes(w, 23, "x"), with(w, 20, leafOf("abc")), with(w, 23, leafOf("alm")),
		with(w, 12, innerOf("ek", 10, 10, 10)), with(w, 12, innerOf("ek", 12, 10, 12)), with(w, 12, innerOf("ek", 10, 10, 12)),
		with(w, 12, innerOf("ek", 20, 10, 20)), with(w, 12, innerOf("ek", 23, 10, 23)), with(w, 12, innerOf("ek", 20, 10, 10)),
	} {
		isNone(t, v)
		for _, u := range append(bases(v), roomy(v, 0), roomy(v, 1)) {
			for _, keys := range []string{"abcdefghijklmn", "nmlkjihgfedcba", "gfihaklbmcnd", "fkgalbhmc"} {
				x := u
				for _, key := range strings.Split(keys, "") {
					if y, e := del(t, x, key); e == api.OK {
						x = y
					}
				}
			}
		}
	}
}

// Leaves that are not equally deep: a to t lie one level below A to D.
func TestLeavesNotEquallyDeep(t *testing.T) {
	w := with(bare(40), 20, leafOf("ABCD"))
	for i, row := range []string{"abcd", "efgh", "ijkl", "mnop", "qrst"} {
		w = with(w, 11+i, leafOf(row))
	}
	w = with(w, 16, innerOf("eimq", 11, 12, 13, 14, 15))
	for _, v := range []api.Wood{rooted(with(w, 10, innerOf("a", 20, 16)), 10), rooted(with(w, 10, innerOf("a", 16, 20)), 10)} {
		isNone(t, v)
		for _, u := range append(bases(v), roomy(v, 0), roomy(v, 2)) {
			for _, keys := range []string{"ABCDabcdefghijklmnopqrst", "tsrqponmlkjihgfedcbaDCBA", "aAeBiCmDqbfjnrcgkos"} {
				x := u
				for _, key := range strings.Split(keys, "") {
					if y, e := del(t, x, key); e == api.OK {
						x = y
					}
				}
			}
		}
	}
	// The leaf's neighbour is an inner node.
	delIs(t, rooted(with(w, 10, innerOf("a", 20, 16)), 10), "B", api.ErrTree)
}

// More nodes below one another than a tree has; the children beside them are in a block that holds nothing.
func TestMaxHeight(t *testing.T) {
	for nodes := 2; nodes <= 20; nodes++ {
		w, stem := rooted(bare(64), 10), ""
		for i := range nodes - 1 {
			n := api.Node{Kids: slices.Repeat([]int{63}, 9)}
			for _, c := range strings.Split("abcdefgh", "") {
				n.Keys = append(n.Keys, stem+c)
			}
			n.Kids[4] = 11 + i
			w = with(w, 10+i, n)
			stem += "d"
		}
		leaf := leafOf("abcdefgh")
		for i := range leaf.Keys {
			leaf.Keys[i] = stem + leaf.Keys[i]
		}
		w = with(w, 9+nodes, leaf)
		isNone(t, w)
		for _, v := range bases(w)[:5] {
			is, gone := api.OK, api.ErrKey
			if nodes > 8 {
				is, gone = api.ErrTree, api.ErrTree
			}
			delIs(t, v, stem+"a", is)
			delIs(t, v, stem+"a0", gone)
		}
	}
}

func TestWoodsWithAFault(t *testing.T) {
	t.Parallel()
	none := 0
	for _, how := range []shape{{height: 1, keys: few}, {height: 2, keys: some, gen: 2}, {height: 3, keys: few}} {
		w := sown(30, how)
		old := isTree(t, w)
		keys := append(keysOf(old.pairs), strangers(old.pairs)...)
		for block := 10; block < len(w.Now); block++ {
			if !w.Now[block] {
				continue
			}
			for i, v := range spoilt(w, block) {
				if _, is := treeOf(v); !is {
					none++
				}
				v.Base = bases(v)[i%9].Base
				for j, key := range keys {
					if (i+j)%5 == 0 {
						del(t, v, key)
					}
				}
			}
		}
	}
	if none < 500 {
		t.Errorf("only %d woods are no tree", none)
	}
}

// Woods of nodes that were strewn about: most are no tree, many nearly. Keys are taken out of what comes out.
func TestStrewnWoods(t *testing.T) {
	t.Parallel()
	const alphabet = "abcdefghijklmnopqrstuvwxyz"
	seed := noise(1)
	went := 0
	for range 3000 {
		w := bare(24 + seed.below(4))
		w.Root = 10 + seed.below(6)
		for block := 10; block < 20; block++ {
			from := seed.below(18)
			keys := alphabet[from : from+4+seed.below(5)]
			if block == w.Root {
				keys = keys[:1+seed.below(4)]
			}
			if seed.below(3) > 0 {
				w = with(w, block, leafOf(keys))
			} else {
				var kids []int
				for range len(keys) + 1 {
					kids = append(kids, 10+seed.below(10))
				}
				w = with(w, block, innerOf(keys, kids...))
			}
			w.Base[block] = seed.below(3) == 0
		}
		w.Base[20] = seed.below(2) == 0
		for range 26 {
			at := seed.below(26)
			if x, e := del(t, w, alphabet[at:at+1]); e == api.OK {
				w = x
				went++
			}
		}
	}
	if went < 1000 {
		t.Errorf("only %d keys were taken out", went)
	}
}

// P10.3

// allBy is what All is to tell.
func allBy(w api.Wood, keys ...string) (api.Wood, api.Errno) {
	if !mayBe(w) {
		return api.Wood{}, api.ErrArg
	}
	for _, key := range keys {
		x, e := Delete(w, key)
		if e != api.OK {
			return api.Wood{}, e
		}
		w = x
	}
	return w, api.OK
}

// changeBy is what Change is to tell.
func changeBy(w api.Wood, changes ...api.Change) (api.Wood, api.Errno) {
	if !mayBe(w) {
		return api.Wood{}, api.ErrArg
	}
	for _, c := range changes {
		x, e := w, api.OK
		switch {
		case !c.Gone:
			x, e = grow.Put(w, c.Key, c.Val)
		case len(c.Key) < 1 || len(c.Key) > 32 || len(c.Val) > 0:
			e = api.ErrArg
		default:
			x, e = Delete(w, c.Key)
			if e == api.ErrKey {
				x, e = w, api.OK
			}
		}
		if e != api.OK {
			return api.Wood{}, e
		}
		w = x
	}
	return w, api.OK
}

func all(t *testing.T, w api.Wood, keys ...string) (api.Wood, api.Errno) {
	t.Helper()
	was, wasKeys := twin(w), slices.Clone(keys)
	x, e := All(w, keys...)
	want, f := allBy(w, keys...)
	if !same(x, want) || e != f {
		t.Fatalf("All(%s; %q): %s, %d; not %s, %d", show(was), keys, show(x), e, show(want), f)
	}
	if !same(w, was) || !slices.Equal(keys, wasKeys) {
		t.Fatalf("All(%s; %q): %s, %q", show(was), wasKeys, show(w), keys)
	}
	return x, e
}

func allIs(t *testing.T, want api.Errno, w api.Wood, keys ...string) api.Wood {
	t.Helper()
	x, e := all(t, w, keys...)
	if e != want {
		t.Fatalf("All(%s; %q): %d, not %d", show(w), keys, e, want)
	}
	return x
}

func changed(t *testing.T, w api.Wood, changes ...api.Change) (api.Wood, api.Errno) {
	t.Helper()
	was, wasChanges := twin(w), slices.Clone(changes)
	x, e := Change(w, changes...)
	want, f := changeBy(w, changes...)
	if !same(x, want) || e != f {
		t.Fatalf("Change(%s; %v): %s, %d; not %s, %d", show(was), changes, show(x), e, show(want), f)
	}
	if !same(w, was) || !slices.Equal(changes, wasChanges) {
		t.Fatalf("Change(%s; %v): %s, %v", show(was), wasChanges, show(w), changes)
	}
	return x, e
}

func changeIs(t *testing.T, want api.Errno, w api.Wood, changes ...api.Change) api.Wood {
	t.Helper()
	x, e := changed(t, w, changes...)
	if e != want {
		t.Fatalf("Change(%s; %v): %d, not %d", show(w), changes, e, want)
	}
	return x
}

func gone(keys ...string) []api.Change {
	var l []api.Change
	for _, key := range keys {
		l = append(l, api.Change{Key: key, Gone: true})
	}
	return l
}

func TestAllAndChangeOfNone(t *testing.T) {
	for _, w := range append(small(), bare(24), bare(2048), roomy(bare(24), 0), without(twoLevels(), 10), rooted(bare(24), 10)) {
		for _, v := range bases(w) {
			for _, x := range []api.Wood{allIs(t, api.OK, v), allIs(t, api.OK, v, []string{}...), changeIs(t, api.OK, v), changeIs(t, api.OK, v, []api.Change{}...)} {
				if !same(x, v) {
					t.Errorf("%s, then %s", show(v), show(x))
				}
			}
		}
	}
}

func TestAll(t *testing.T) {
	t.Parallel()
	for _, w := range small() {
		old := isTree(t, w)
		for _, v := range bases(w) {
			all(t, v, old.pairs[len(old.pairs)/2].Key)
			keys := someKeys(old.pairs)[1:]
			x, e := all(t, v, keys...)
			if e == api.ErrSpace {
				continue
			}
			pairs := slices.DeleteFunc(slices.Clone(old.pairs), func(p api.Pair) bool { return slices.Contains(keys, p.Key) })
			if now, is := treeOf(x); e != api.OK || !is || !slices.Equal(now.pairs, pairs) {
				t.Errorf("%s, %d, not %v", show(x), e, pairs)
			}
			// A key that is there but once is taken out but once.
			allIs(t, api.ErrKey, v, append(keys, keys[0])...)
		}
	}
}

func TestChange(t *testing.T) {
	t.Parallel()
	for _, w := range append(small(), bare(60)) {
		old := isTree(t, w)
		for i, v := range bases(w) {
			var changes []api.Change
			pairs := slices.Clone(old.pairs)
			seed := noise(i)
			for range 25 {
				c := api.Change{Key: keyOf(seed.below(len(old.pairs) + 9)), Gone: seed.below(3) > 0}
				pairs, _ = pairsWithout(pairs, c.Key)
				if !c.Gone {
					c.Val = strings.Repeat("w", seed.below(201))
					pairs = append(pairs, api.Pair{Key: c.Key, Val: c.Val})
				}
				changes = append(changes, c)
			}
			changed(t, v, changes[0])
			x, e := changed(t, v, changes...)
			if e == api.ErrSpace {
				continue
			}
			slices.SortFunc(pairs, func(a, b api.Pair) int { return strings.Compare(a.Key, b.Key) })
			if now, is := treeOf(x); e != api.OK || !is || !slices.Equal(now.pairs, pairs) {
				t.Errorf("%s, %d, not %v", show(x), e, pairs)
			}
		}
	}
}

// A key that is not there is an error of All and none of Change, where the tree stays.
func TestKeysThatAreNotThere(t *testing.T) {
	for _, w := range append(small(), bare(24), roomy(bare(24), 0), roomy(twoLevels(), 0)) {
		old := isTree(t, w)
		for _, v := range bases(w) {
			for _, key := range strangers(old.pairs) {
				allIs(t, api.ErrKey, v, key)
				allIs(t, api.ErrKey, v, key, "")
				if x := changeIs(t, api.OK, v, gone(key)...); !same(x, v) {
					t.Errorf("%s: %s, then %s", brief(key), show(v), show(x))
				}
				if x := changeIs(t, api.OK, v, gone(key, key, "not there", key)...); !same(x, v) {
					t.Errorf("%s: %s, then %s", brief(key), show(v), show(x))
				}
			}
		}
	}
	w := twoLevels()
	allIs(t, api.ErrKey, w, "a", "z", "b")
	x := changeIs(t, api.OK, w, gone("a", "z", "b", "a")...)
	if !same(x, allIs(t, api.OK, w, "a", "b")) {
		t.Error(show(x))
	}
	// A key that went comes again, and one that came goes.
	x = changeIs(t, api.OK, bare(24), api.Change{Key: "a", Val: "1"}, api.Change{Key: "a", Gone: true}, api.Change{Key: "a", Val: "2"})
	if v, e := look.Get(x, "a"); v != "2" || e != api.OK {
		t.Errorf("%s, %d", v, e)
	}
	x = changeIs(t, api.OK, bare(24), api.Change{Key: "a", Val: "1"}, api.Change{Key: "a", Gone: true})
	if !slices.Equal(x.Now, bare(24).Now) || x.Root != 0 {
		t.Error(show(x))
	}
}

// The error of the first one that has one is told, wherever it stands.
func TestUpToTheFirstError(t *testing.T) {
	long := strings.Repeat("x", 33)
	wide := strings.Repeat("v", 201)
	w := sown(24, shape{height: 2, keys: level(2, 8, 8)})
	keys := keysOf(isTree(t, w).pairs)
	tight := roomy(committed(w), 0)
	broken := with(w, 10, leafOf("a"))
	if keys[0] != keyOf(0) || isLeaf(broken, 10) != 1 {
		t.Fatal(show(broken))
	}
	for _, wrong := range []string{"", long, strings.Repeat("k", 1<<10)} {
		for _, n := range []int{0, 1, 2, 9, 15} {
			for at := range n + 1 {
				allIs(t, api.ErrArg, w, slices.Insert(slices.Clone(keys[:n]), at, wrong)...)
			}
		}
		allIs(t, api.ErrArg, w, wrong, "z")
		allIs(t, api.ErrKey, w, "z", wrong)
		allIs(t, api.ErrArg, tight, wrong, keys[0])
		allIs(t, api.ErrSpace, tight, keys[0], wrong)
		allIs(t, api.ErrArg, broken, wrong, keys[0])
		allIs(t, api.ErrTree, broken, keys[0], wrong)
	}
	allIs(t, api.ErrKey, tight, "z", keys[0])
	allIs(t, api.ErrSpace, tight, keys[0], "z")
	for _, wrong := range []api.Change{
		{}, {Gone: true}, {Val: "v"}, {Val: "v", Gone: true}, {Key: long}, {Key: long, Gone: true}, {Key: long, Val: wide, Gone: true},
		{Key: keys[3], Val: "v", Gone: true}, {Key: "z", Val: "v", Gone: true}, {Key: keys[3], Val: "\x00", Gone: true},
		{Key: keys[3], Val: wide, Gone: true}, {Key: keys[3], Val: wide}, {Key: "z", Val: wide},
	} {
		for _, n := range []int{0, 1, 2, 9, 15} {
			for at := range n + 1 {
				changeIs(t, api.ErrArg, w, slices.Insert(gone(keys[:n]...), at, wrong)...)
			}
		}
		changeIs(t, api.ErrArg, w, append(gone("z"), wrong)...)
		changeIs(t, api.ErrArg, bare(24), wrong)
		changeIs(t, api.ErrArg, tight, append(gone("z"), wrong)...)
		changeIs(t, api.ErrArg, tight, wrong, api.Change{Key: keys[0], Gone: true})
		changeIs(t, api.ErrSpace, tight, append(gone(keys[0]), wrong)...)
		changeIs(t, api.ErrSpace, tight, api.Change{Key: "z"}, wrong)
		changeIs(t, api.ErrArg, broken, wrong, api.Change{Key: keys[0], Gone: true})
		changeIs(t, api.ErrTree, broken, append(gone(keys[0]), wrong)...)
		changeIs(t, api.ErrTree, broken, api.Change{Key: keys[0], Val: "v"}, wrong)
	}
}

// isLeaf is how many keys the leaf in a block has.
func isLeaf(w api.Wood, block int) int {
	n, _ := held(w, block, true)
	return len(n.Vals)
}

// There is room for all but the last one.
func TestAllButTheLastOne(t *testing.T) {
	lacked := 0
	for _, how := range []string{"rising", "falling", "mixed"} {
		w := committed(sown(130, shape{height: 3, keys: some, gen: 2}))
		old := isTree(t, w)
		var keys []string
		for _, i := range order(len(old.pairs), how) {
			keys = append(keys, old.pairs[i].Key)
		}
		for free := range 9 {
			x, n, e := roomy(w, free), 0, api.OK
			for e == api.OK && n < len(keys) {
				var y api.Wood
				y, e = del(t, x, keys[n])
				if e == api.OK {
					x, n = y, n+1
				}
			}
			if e == api.OK {
				continue
			}
			lacked++
			if y := allIs(t, api.OK, roomy(w, free), keys[:n]...); !same(x, y) {
				t.Errorf("%s, not %s", show(y), show(x))
			}
			if y := changeIs(t, api.OK, roomy(w, free), gone(keys[:n]...)...); !same(x, y) {
				t.Errorf("%s, not %s", show(y), show(x))
			}
			allIs(t, api.ErrSpace, roomy(w, free), keys[:n+1]...)
			allIs(t, api.ErrSpace, roomy(w, free), append(slices.Clone(keys[:n+1]), "")...)
			changeIs(t, api.ErrSpace, roomy(w, free), gone(keys[:n+1]...)...)
			changeIs(t, api.ErrSpace, roomy(w, free), append(gone(keys[:n+1]...), api.Change{})...)
		}
	}
	if lacked < 9 {
		t.Errorf("only %d lacked room", lacked)
	}
}

// P10.4

// All keys of a tree go, in some order and with commits between them: Root is 0 then, and all its blocks are given back.
func TestAllKeysGo(t *testing.T) {
	t.Parallel()
	for i, w := range small() {
		for _, how := range []string{"rising", "falling", "mixed"}[i%2:] {
			old := isTree(t, w)
			if w.Gen+len(old.pairs) > api.MaxTime {
				w.Gen = 5
			}
			for _, each := range []int{0, 1, 7} {
				v := roomy(bases(w)[(i+each)%5], 99)
				left := twin(v)
				for block := range left.Now {
					left.Now[block] = v.Now[block] && !old.blocks[block]
				}
				for j, k := range order(len(old.pairs), how) {
					key := old.pairs[k].Key
					x, e := del(t, v, key)
					if e == api.ErrSpace {
						v = committed(v)
						x, e = del(t, v, key)
					}
					if e != api.OK {
						t.Fatalf("%s of %d, %d: %s", key, len(old.pairs), e, show(v))
					}
					v = x
					delIs(t, v, key, api.ErrKey)
					if each > 0 && j%each == 0 {
						v = committed(v)
					}
				}
				if v.Root != 0 || !slices.Equal(v.Now, left.Now) {
					t.Errorf("%s of %d keys: %s", how, len(old.pairs), show(v))
				}
			}
		}
	}
}

func TestAllKeysGoAtOnce(t *testing.T) {
	t.Parallel()
	for _, how := range []string{"rising", "falling", "mixed"} {
		for _, n := range []int{1, 2, 8, 9, 60, 700} {
			var pairs []api.Pair
			var keys []string
			for _, i := range order(n, how) {
				keys = append(keys, keyOf(i))
			}
			for _, i := range order(n, "mixed") {
				pairs = append(pairs, api.Pair{Key: keyOf(i), Val: "v"})
			}
			size := max(24, 2*n)
			w, e := grow.All(bare(size), pairs...)
			if e != api.OK {
				t.Fatal(e)
			}
			for _, v := range []api.Wood{w, committed(w)} {
				x, e := All(v, keys...)
				if e != api.OK || x.Root != 0 || !slices.Equal(x.Now, used(size)) || !slices.Equal(x.Base, v.Base) {
					t.Errorf("%s, %d keys: %d: %s", how, n, e, show(x))
				}
				y, e := Change(v, gone(keys...)...)
				if e != api.OK || !same(x, y) {
					t.Errorf("%s, %d keys: %d: %s", how, n, e, show(y))
				}
				if free := alloc.Free(committed(x).Alloc); free != size-10 {
					t.Errorf("%s, %d keys: %d free", how, n, free)
				}
			}
		}
	}
}

func TestWhatIsTakenOutIsNotThere(t *testing.T) {
	t.Parallel()
	seed := noise(9)
	for _, w := range small() {
		old := isTree(t, w)
		keys := append(keysOf(old.pairs), strangers(old.pairs)...)
		for range 20 {
			key := keys[seed.below(len(old.pairs))]
			x, e := del(t, w, key)
			if e != api.OK {
				continue
			}
			if v, e := look.Get(x, key); v != "" || e != api.ErrKey {
				t.Errorf("Get(%q): %s, %d", key, brief(v), e)
			}
			for _, other := range keys {
				v, e := look.Get(w, other)
				if is, f := look.Get(x, other); other != key && (v != is || e != f) {
					t.Errorf("Get(%q): %s, %d; then %s, %d", other, brief(v), e, brief(is), f)
				}
			}
			w = x
			if seed.below(3) == 0 && w.Gen < api.MaxTime {
				w = committed(w)
			}
		}
	}
}

// What counted is there as it was, whatever was taken out and put since.
func TestWhatCountedStays(t *testing.T) {
	t.Parallel()
	seed := noise(3)
	for _, size := range []int{24, 40, 100, 400} {
		w := bare(size)
		for round := range 16 {
			w = committed(w)
			counted := isTree(t, w)
			now, root := w.Now, w.Root
			for range 1 + seed.below(size/2) {
				x, e := w, api.OK
				if seed.below(4) < 1+round%3 {
					x, e = del(t, w, keyOf(seed.below(size)))
				} else {
					x, e = grow.Put(w, keyOf(seed.below(size)), strings.Repeat("w", seed.below(201)))
				}
				if e == api.OK {
					w = x
				}
				then := twin(w)
				then.Now, then.Root = slices.Clone(now), root
				if is, ok := treeOf(then); !ok || !slices.Equal(is.pairs, counted.pairs) {
					t.Fatalf("%v, then %v", counted.pairs, is.pairs)
				}
			}
		}
	}
}

// A tree of five levels, taken down.
func TestHighTree(t *testing.T) {
	t.Parallel()
	for _, how := range []string{"rising", "falling", "mixed"} {
		var pairs []api.Pair
		for _, i := range order(5000, how) {
			pairs = append(pairs, api.Pair{Key: keyOf(i), Val: fmt.Sprint("v", i)})
		}
		w, e := grow.All(bare(2048), pairs...)
		if e != api.OK {
			t.Fatal(e)
		}
		high := isTree(t, w).height
		slices.Reverse(pairs[:2500])
		for i, p := range pairs {
			if i%100 == 0 {
				del(t, w, p.Key)
				if i%500 == 0 {
					w = committed(w)
				}
			}
			x, e := Delete(w, p.Key)
			if e != api.OK {
				t.Fatalf("%s, %d keys: %d", how, i, e)
			}
			w = x
		}
		if w.Root != 0 || countOf(w.Now) != 10 || high < 5 {
			t.Errorf("%s: %d high: %s", how, high, show(w))
		}
	}
}

// P1 and the rules

// Of two errors the one named first is told, and nothing beside it.
func TestFirstError(t *testing.T) {
	long := strings.Repeat("x", 33)
	tight := roomy(committed(sown(24, shape{height: 2, keys: few})), 0)
	for _, w := range []api.Wood{roomy(bare(24), 0), bare(24), tight, rooted(bare(24), 10), without(twoLevels(), 12), roomy(without(twoLevels(), 10), 0)} {
		for _, key := range []string{"", long} {
			delIs(t, w, key, api.ErrArg)
			allIs(t, api.ErrArg, w, key, "z")
			changeIs(t, api.ErrArg, w, gone(key, "z")...)
		}
		changeIs(t, api.ErrArg, w, api.Change{Key: "f", Val: "v", Gone: true})
	}
	// ErrKey comes ahead of ErrSpace.
	delIs(t, tight, "f", api.ErrKey)
	delIs(t, tight, keyOf(0), api.ErrSpace)
	delIs(t, roomy(bare(24), 0), "f", api.ErrKey)
}

// Every call ends and none panics, also of great arguments.
func TestGreatArguments(t *testing.T) {
	huge := strings.Repeat("h", 1<<24)
	for _, w := range []api.Wood{bare(24), bare(2048), twoLevels(), rooted(bare(24), 10)} {
		delIs(t, w, huge, api.ErrArg)
		if x, e := Change(w, api.Change{Key: "h", Val: huge, Gone: true}); e != api.ErrArg || !isZero(x) {
			t.Errorf("%s, %d", show(x), e)
		}
		if x, e := Change(w, api.Change{Key: huge, Val: huge}); e != api.ErrArg || !isZero(x) {
			t.Errorf("%s, %d", show(x), e)
		}
		if x, e := All(w, make([]string, 1<<20)...); e != api.ErrArg || !isZero(x) {
			t.Errorf("%s, %d", show(x), e)
		}
		if x, e := Change(w, make([]api.Change, 1<<20)...); e != api.ErrArg || !isZero(x) {
			t.Errorf("%s, %d", show(x), e)
		}
	}
	many := bare(1 << 20)
	delIs(t, many, "a", api.ErrArg)
	delIs(t, withBytes(bare(24), 10, huge), "a", api.ErrArg)
	w := bare(24)
	w.Pages = many.Pages
	delIs(t, w, "a", api.ErrArg)
	if x, e := Change(many); e != api.ErrArg || !isZero(x) {
		t.Errorf("Change: %d", e)
	}
	x, e := Change(twoLevels(), slices.Repeat(gone("z"), 5000)...)
	if e != api.OK || !same(x, twoLevels()) {
		t.Errorf("%s, %d", show(x), e)
	}
	x, e = Change(twoLevels(), slices.Repeat([]api.Change{{Key: "a", Gone: true}, {Key: "a", Val: "va"}}, 2500)...)
	if now := isTree(t, x); e != api.OK || len(now.pairs) != 12 {
		t.Errorf("%s, %d", show(x), e)
	}
}

func TestArgumentsStay(t *testing.T) {
	for _, w := range append(small(), bare(24), twoLevels(), without(twoLevels(), 10)) {
		for _, v := range append(bases(w)[:6], roomy(w, 1)) {
			v = spacious(v)
			was := whole(v)
			keys := append(make([]string, 0, 60), "a", "b", "f", "behind")
			for i := range 20 {
				keys = append(keys, keyOf(i))
			}
			changes := append(make([]api.Change, 0, 60), gone(keys...)...)
			wasKeys, wasChanges := slices.Clone(keys), slices.Clone(changes)
			for i := 0; i < len(keys); i += 5 {
				Delete(v, keys[i])
				All(v, keys[i:]...)
				Change(v, changes[:i]...)
			}
			All(v)
			Change(v)
			if !same(whole(v), was) || !slices.Equal(keys, wasKeys) || !slices.Equal(changes, wasChanges) {
				t.Errorf("%s was %s", show(v), show(was))
			}
		}
	}
}

// An answer is new memory: what becomes of it is seen neither in an argument nor in another list of it.
func TestAnswersAreNewMemory(t *testing.T) {
	woods := append(bases(sown(130, shape{height: 2, keys: some})), bare(24), twoLevels(), rooted(with(bare(24), 12, leafOf("a")), 12))
	calls := []func(api.Wood) (api.Wood, api.Errno){
		func(w api.Wood) (api.Wood, api.Errno) { return All(w) },
		func(w api.Wood) (api.Wood, api.Errno) { return Change(w) },
		func(w api.Wood) (api.Wood, api.Errno) { return Change(w, gone("not there")...) },
		func(w api.Wood) (api.Wood, api.Errno) { return Change(w, api.Change{Key: "new"}) },
		func(w api.Wood) (api.Wood, api.Errno) { return Delete(w, "a") },
		func(w api.Wood) (api.Wood, api.Errno) { return Delete(w, keyOf(0)) },
		func(w api.Wood) (api.Wood, api.Errno) { return All(w, keyOf(0), keyOf(1), keyOf(2), keyOf(3)) },
		func(w api.Wood) (api.Wood, api.Errno) { return Change(w, gone("a", keyOf(0), "b", keyOf(1))...) },
	}
	for _, w := range woods {
		was := twin(w)
		for _, call := range calls {
			x, e := call(w)
			if e != api.OK {
				continue
			}
			want := twin(x)
			for i := range x.Base {
				x.Base[i] = !x.Base[i]
			}
			if !slices.Equal(x.Now, want.Now) {
				t.Error("Base and Now share a list")
			}
			for i := range x.Now {
				x.Now[i] = !x.Now[i]
				x.Pages[i] += "x"
			}
			if !same(w, was) {
				t.Fatalf("an answer and an argument share a list: %s was %s", show(w), show(was))
			}
			if y, _ := call(w); !same(y, want) {
				t.Errorf("%s, then %s", show(want), show(y))
			}
		}
	}
}

// No call keeps anything: asked again, behind others, it answers the same.
func TestCallsKeepNothing(t *testing.T) {
	woods := append(small(), bare(24), twoLevels(), without(twoLevels(), 10), roomy(bare(24), 0), api.Wood{})
	tell := func(w api.Wood) string {
		s := ""
		for _, key := range []string{"", "a", "f", keyOf(2), keyOf(2) + "0", "n"} {
			x, e := Delete(w, key)
			s += fmt.Sprint(x, e)
			x, e = All(w, "a", key)
			s += fmt.Sprint(x, e)
			x, e = Change(w, api.Change{Key: "a", Val: "1"}, api.Change{Key: key, Gone: true})
			s += fmt.Sprint(x, e)
		}
		return s
	}
	var first []string
	for _, w := range woods {
		first = append(first, tell(w))
	}
	for i := len(woods) - 1; i >= 0; i-- {
		if tell(woods[i]) != first[i] {
			t.Errorf("other answers: %s", show(woods[i]))
		}
	}
}
