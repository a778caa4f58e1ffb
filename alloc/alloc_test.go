package alloc

import (
	"fmt"
	"math"
	"slices"
	"testing"

	"penelope/api"
)

const (
	yes = true
	no  = false
)

func full(n int, is bool) []bool { return slices.Repeat([]bool{is}, n) }

// used is n places of which these are true, beside the first ten.
func used(n int, blocks ...int) []bool {
	l := full(n, no)
	for i := range 10 {
		l[i] = yes
	}
	for _, block := range blocks {
		l[block] = yes
	}
	return l
}

// without is n places of which these alone are false.
func without(n int, blocks ...int) []bool {
	l := full(n, yes)
	for _, block := range blocks {
		l[block] = no
	}
	return l
}

// noise is places that look like no pattern, the same ones each time, the first ten true.
func noise(n int, seed uint32) []bool {
	l := used(n)
	for i := 10; i < n; i++ {
		seed = seed*1664525 + 1013904223
		l[i] = seed>>31 == 1
	}
	return l
}

func both(l []bool) api.Alloc { return api.Alloc{Base: slices.Clone(l), Now: l} }

func copied(a api.Alloc) api.Alloc {
	return api.Alloc{Base: slices.Clone(a.Base), Now: slices.Clone(a.Now)}
}

func same(a, b api.Alloc) bool {
	return slices.Equal(a.Base, b.Base) && slices.Equal(a.Now, b.Now)
}

func zero(a api.Alloc) bool { return len(a.Base) == 0 && len(a.Now) == 0 }

func show(a api.Alloc) string {
	return fmt.Sprintf("(%s; %s)", showList(a.Base), showList(a.Now))
}

// showList names the blocks behind the first ten, if they are few.
func showList(l []bool) string {
	var blocks []int
	for i, is := range l {
		if is && i >= 10 {
			blocks = append(blocks, i)
		}
	}
	if len(blocks) > 20 {
		return fmt.Sprint(len(l), " places, ", len(blocks), " used")
	}
	return fmt.Sprint(len(l), " places, used ", blocks)
}

// may, freeOf, taken and given are the chapter's words, said place by place.
func may(a api.Alloc) bool {
	if len(a.Base) != len(a.Now) || len(a.Base) < 24 || len(a.Base) > 2048 {
		return false
	}
	for i := range 10 {
		if !a.Base[i] || !a.Now[i] {
			return false
		}
	}
	return true
}

func freeOf(a api.Alloc) []int {
	var blocks []int
	if may(a) {
		for i := range a.Now {
			if !a.Base[i] && !a.Now[i] {
				blocks = append(blocks, i)
			}
		}
	}
	return blocks
}

func taken(a api.Alloc) (api.Alloc, int, api.Errno) {
	if !may(a) {
		return api.Alloc{}, 0, api.ErrArg
	}
	free := freeOf(a)
	if len(free) == 0 {
		return api.Alloc{}, 0, api.ErrSpace
	}
	b := copied(a)
	b.Now[free[0]] = yes
	return b, free[0], api.OK
}

func given(a api.Alloc, blocks ...int) (api.Alloc, api.Errno) {
	if !may(a) {
		return api.Alloc{}, api.ErrArg
	}
	has := map[int]int{}
	for i, is := range a.Now {
		if is && i >= 10 {
			has[i] = 1
		}
	}
	b := copied(a)
	for _, block := range blocks {
		if has[block] == 0 {
			return api.Alloc{}, api.ErrBlock
		}
		delete(has, block)
		b.Now[block] = no
	}
	return b, api.OK
}

// wrong are allocs that may not be.
func wrong() []api.Alloc {
	l := []api.Alloc{
		{},
		{Base: []bool{}, Now: []bool{}},
		{Base: used(24)},
		{Now: used(24)},
		{Base: used(24), Now: []bool{}},
		{Base: []bool{}, Now: used(24)},
		{Base: used(24), Now: used(25)},
		{Base: used(25), Now: used(24)},
		{Base: used(24), Now: used(23)},
		{Base: used(23), Now: used(24)},
		{Base: used(2048), Now: used(2049)},
		{Base: used(2049), Now: used(2048)},
		{Base: used(24), Now: used(2048)},
		{Base: used(2048), Now: used(24)},
		both(full(24, no)),
		both(full(2048, no)),
	}
	for _, n := range []int{0, 1, 9, 10, 11, 22, 23, 2049, 2050, 4096, 1 << 16} {
		l = append(l, both(full(n, yes)), both(full(n, no)))
		if n >= 10 {
			l = append(l, both(used(n)))
		}
	}
	for _, n := range []int{24, 25, 100, 2047, 2048} {
		for place := range 10 {
			for _, whole := range [][]bool{used(n), full(n, yes)} {
				cut := slices.Clone(whole)
				cut[place] = no
				l = append(l, api.Alloc{Base: cut, Now: whole}, api.Alloc{Base: whole, Now: cut}, both(cut))
			}
		}
		// Each of the ten is true in one of the two.
		half := used(n)
		other := used(n)
		for place := range 10 {
			half[place] = place%2 == 0
			other[place] = place%2 == 1
		}
		l = append(l, api.Alloc{Base: half, Now: other})
	}
	return l
}

// right are allocs that may be.
func right() []api.Alloc {
	var l []api.Alloc
	for _, n := range []int{24, 25, 26, 31, 32, 33, 100, 2047, 2048} {
		l = append(l,
			both(used(n)),
			both(full(n, yes)),
			api.Alloc{Base: used(n), Now: full(n, yes)},
			api.Alloc{Base: full(n, yes), Now: used(n)},
			both(without(n, 10)),
			both(without(n, n-1)),
			both(without(n, n/2)),
			both(without(n, 10, 11, n-1)),
			api.Alloc{Base: without(n, 10), Now: without(n, 11)},
			api.Alloc{Base: without(n, 10, 11), Now: without(n, 11, 12)},
			api.Alloc{Base: used(n, 10), Now: used(n, 11)},
			api.Alloc{Base: used(n, 11), Now: used(n, 10)},
			api.Alloc{Base: used(n, 10, n-1), Now: used(n)},
			api.Alloc{Base: used(n), Now: used(n, 10, n-1)},
		)
		for seed := range uint32(4) {
			l = append(l, api.Alloc{Base: noise(n, seed), Now: noise(n, seed+10)})
		}
	}
	return l
}

func takeIs(t *testing.T, a, want api.Alloc, wantBlock int, wantE api.Errno) {
	t.Helper()
	before := copied(a)
	got, block, e := Take(a)
	if !same(got, want) || block != wantBlock || e != wantE {
		t.Errorf("Take(%s): %s %d %d, want %s %d %d", show(a), show(got), block, e, show(want), wantBlock, wantE)
	}
	if !same(a, before) { // R4
		t.Errorf("Take(%s) changed what it was handed", show(before))
	}
}

func giveIs(t *testing.T, a api.Alloc, blocks []int, want api.Alloc, wantE api.Errno) {
	t.Helper()
	before, blocksBefore := copied(a), slices.Clone(blocks)
	got, e := Give(a, blocks...)
	if !same(got, want) || e != wantE {
		t.Errorf("Give(%s, %v): %s %d, want %s %d", show(a), blocks, show(got), e, show(want), wantE)
	}
	if !same(a, before) || !slices.Equal(blocks, blocksBefore) { // R4
		t.Errorf("Give(%s, %v) changed what it was handed", show(before), blocksBefore)
	}
}

func commitIs(t *testing.T, a, want api.Alloc, wantE api.Errno) {
	t.Helper()
	before := copied(a)
	got, e := Commit(a)
	if !same(got, want) || e != wantE {
		t.Errorf("Commit(%s): %s %d, want %s %d", show(a), show(got), e, show(want), wantE)
	}
	if !same(a, before) { // R4
		t.Errorf("Commit(%s) changed what it was handed", show(before))
	}
}

func made(t *testing.T, n int) api.Alloc {
	t.Helper()
	a, e := New(n)
	if e != api.OK {
		t.Fatalf("New(%d): %d", n, e)
	}
	return a
}

// The chapter's examples.
func TestExamples(t *testing.T) {
	if n := Free(made(t, 24)); n != 14 {
		t.Errorf("Free(New(24)): %d", n)
	}
	takeIs(t, made(t, 24), api.Alloc{Base: used(24), Now: used(24, 10)}, 10, api.OK)
	giveIs(t, made(t, 24), []int{3}, api.Alloc{}, api.ErrBlock)
}

// P6.1

func TestNew(t *testing.T) {
	for n := 24; n <= 2048; n++ {
		a, e := New(n)
		if e != api.OK || !same(a, both(used(n))) {
			t.Errorf("New(%d): %s %d", n, show(a), e)
		}
		if !Right(a) || Free(a) != n-10 {
			t.Errorf("New(%d): right %t, free %d", n, Right(a), Free(a))
		}
	}
}

func TestNewOfWrongNumbers(t *testing.T) {
	for _, n := range []int{23, 22, 11, 10, 9, 1, 0, -1, -24, -2048, 2049, 2050, 4096, 1 << 16, 1 << 32, 1<<32 + 24, 1 << 62, math.MinInt, math.MinInt + 1, math.MinInt + 24, math.MaxInt - 1, math.MaxInt} {
		if a, e := New(n); e != api.ErrArg || !zero(a) {
			t.Errorf("New(%d): %s %d", n, show(a), e)
		}
	}
}

func TestRight(t *testing.T) {
	for _, a := range right() {
		before := copied(a)
		if !Right(a) {
			t.Errorf("Right(%s): false", show(a))
		}
		if !same(a, before) { // R4
			t.Errorf("Right(%s) changed what it was handed", show(before))
		}
	}
	for i, a := range wrong() {
		before := copied(a)
		if Right(a) {
			t.Errorf("Right of wrong alloc %d, %s: true", i, show(a))
		}
		if !same(a, before) { // R4
			t.Errorf("Right(%s) changed what it was handed", show(before))
		}
	}
}

func TestFreeWrittenOut(t *testing.T) {
	for _, c := range []struct {
		a    api.Alloc
		want int
	}{
		{both(used(24)), 14},
		{both(used(2048)), 2038},
		{both(full(24, yes)), 0},
		{both(full(2048, yes)), 0},
		{api.Alloc{Base: used(24), Now: full(24, yes)}, 0},
		{api.Alloc{Base: full(24, yes), Now: used(24)}, 0},
		{api.Alloc{Base: used(24, 10), Now: used(24)}, 13},
		{api.Alloc{Base: used(24), Now: used(24, 10)}, 13},
		{both(used(24, 10)), 13},
		{api.Alloc{Base: used(24, 10), Now: used(24, 23)}, 12},
		{api.Alloc{Base: used(24, 10, 11), Now: used(24, 11, 12)}, 11},
		{both(without(24, 23)), 1},
		{api.Alloc{Base: without(24, 22), Now: without(24, 23)}, 0},
		{both(used(23)), 0},
		{both(used(2049)), 0},
		{both(full(24, no)), 0},
		{api.Alloc{}, 0},
	} {
		if n := Free(c.a); n != c.want {
			t.Errorf("Free(%s): %d, want %d", show(c.a), n, c.want)
		}
	}
}

func TestFree(t *testing.T) {
	for _, a := range slices.Concat(right(), wrong()) {
		before := copied(a)
		if n := Free(a); n != len(freeOf(a)) {
			t.Errorf("Free(%s): %d, want %d", show(a), n, len(freeOf(a)))
		}
		if !same(a, before) { // R4
			t.Errorf("Free(%s) changed what it was handed", show(before))
		}
	}
}

// P6.2

func TestTakeWrittenOut(t *testing.T) {
	for _, c := range []struct {
		base, now []bool
		block     int
	}{
		{used(24), used(24), 10},
		{used(24, 10), used(24), 11},         // what counts has it, alone
		{used(24), used(24, 10), 11},         // what is being made has it, alone
		{used(24, 10), used(24, 10), 11},     // both have it
		{used(24, 11), used(24, 10), 12},     // each has one
		{used(24, 10, 12), used(24, 11), 13}, // by turns
		{used(24, 11), used(24, 11), 10},     // the least one stands ahead
		{without(24, 23), without(24, 23), 23},
		{without(24, 10), without(24, 10), 10},
		{without(24, 15, 20), without(24, 20), 20},
		{without(24, 20), without(24, 15, 20), 20},
		{without(24, 23), used(24), 23},
		{used(24), without(24, 23), 23},
		{without(2048, 2047), without(2048, 2047), 2047},
	} {
		want := api.Alloc{Base: slices.Clone(c.base), Now: slices.Clone(c.now)}
		want.Now[c.block] = yes
		takeIs(t, api.Alloc{Base: c.base, Now: c.now}, want, c.block, api.OK)
	}
}

func TestTakeOfNoneFree(t *testing.T) {
	for _, n := range []int{24, 25, 2047, 2048} {
		for _, a := range []api.Alloc{
			both(full(n, yes)),
			{Base: full(n, yes), Now: used(n)},
			{Base: used(n), Now: full(n, yes)},
			{Base: without(n, 10), Now: without(n, n-1)},
			{Base: without(n, n-1), Now: without(n, 10)},
		} {
			takeIs(t, a, api.Alloc{}, 0, api.ErrSpace)
		}
	}
}

func TestTake(t *testing.T) {
	for _, a := range slices.Concat(right(), wrong()) {
		want, block, e := taken(a)
		takeIs(t, a, want, block, e)
	}
}

// All that is free is taken, by rising numbers, and no more.
func TestTakeUntilNoneIsFree(t *testing.T) {
	for _, n := range []int{24, 25, 100, 2048} {
		for _, a := range []api.Alloc{made(t, n), {Base: noise(n, 1), Now: noise(n, 2)}} {
			base := slices.Clone(a.Base)
			var got []int
			want := freeOf(a)
			for range n + 1 {
				b, block, e := Take(a)
				if e != api.OK {
					break
				}
				if Free(b) != Free(a)-1 {
					t.Fatalf("Take(%s): free %d, then %d", show(a), Free(a), Free(b))
				}
				got = append(got, block)
				a = b
			}
			if !slices.Equal(got, want) || !slices.Equal(a.Base, base) {
				t.Errorf("of %d blocks taken %d, want %d, or the base changed", n, len(got), len(want))
			}
			takeIs(t, a, api.Alloc{}, 0, api.ErrSpace)
		}
	}
}

func TestGiveWrittenOut(t *testing.T) {
	a := api.Alloc{Base: used(24, 10, 11), Now: used(24, 11, 12, 23)}
	now := func(blocks ...int) api.Alloc { return api.Alloc{Base: used(24, 10, 11), Now: used(24, blocks...)} }
	for _, c := range []struct {
		blocks []int
		want   api.Alloc
		e      api.Errno
	}{
		{nil, a, api.OK},
		{[]int{}, a, api.OK},
		{[]int{11}, now(12, 23), api.OK},
		{[]int{12}, now(11, 23), api.OK},
		{[]int{23}, now(11, 12), api.OK},
		{[]int{11, 12}, now(23), api.OK},
		{[]int{12, 11}, now(23), api.OK},
		{[]int{23, 11, 12}, now(), api.OK},
		{[]int{10}, api.Alloc{}, api.ErrBlock}, // what counts has it, what is being made has it not
		{[]int{13}, api.Alloc{}, api.ErrBlock}, // it is free
		{[]int{22}, api.Alloc{}, api.ErrBlock},
		{[]int{24}, api.Alloc{}, api.ErrBlock},
		{[]int{11, 11}, api.Alloc{}, api.ErrBlock},
		{[]int{11, 12, 11}, api.Alloc{}, api.ErrBlock},
		{[]int{12, 12, 11}, api.Alloc{}, api.ErrBlock},
		{[]int{11, 9}, api.Alloc{}, api.ErrBlock},
		{[]int{9, 11}, api.Alloc{}, api.ErrBlock},
		{[]int{11, 12, 24}, api.Alloc{}, api.ErrBlock},
		{[]int{11, -1, 12}, api.Alloc{}, api.ErrBlock},
	} {
		giveIs(t, a, c.blocks, c.want, c.e)
	}
}

// A block that is not one behind the reserved ones, though all places are used.
func TestGiveOfNoBlock(t *testing.T) {
	for _, n := range []int{24, 25, 2047, 2048} {
		a := both(full(n, yes))
		for _, block := range []int{0, 1, 2, 8, 9, n, n + 1, n + 8, 2048, 2049, 4096, 1 << 32, 1<<32 + 10, -1, -2, -10, -n, math.MinInt, math.MinInt + 1, math.MinInt + 10, math.MaxInt - 1, math.MaxInt} {
			giveIs(t, a, []int{block}, api.Alloc{}, api.ErrBlock)
			giveIs(t, a, []int{10, block}, api.Alloc{}, api.ErrBlock)
			giveIs(t, a, []int{block, 10}, api.Alloc{}, api.ErrBlock)
		}
		for block := 10; block < n; block++ {
			giveIs(t, a, []int{block}, api.Alloc{Base: full(n, yes), Now: without(n, block)}, api.OK)
		}
		giveIs(t, a, []int{10, n - 1}, api.Alloc{Base: full(n, yes), Now: without(n, 10, n-1)}, api.OK)
	}
}

func TestGive(t *testing.T) {
	for _, a := range slices.Concat(right(), wrong()) {
		n := len(a.Now)
		var all []int
		for block := 10; block < n; block++ {
			if a.Now[block] {
				all = append(all, block)
			}
		}
		backwards := slices.Clone(all)
		slices.Reverse(backwards)
		for _, blocks := range [][]int{nil, {}, {0}, {9}, {10}, {11}, {n - 1}, {n}, {-1}, {10, 10}, {10, 11}, {11, 10}, {n - 1, n}, {math.MinInt}, {math.MaxInt}, all, backwards, append(slices.Clone(all), n), append(slices.Clone(all), 10)} {
			want, e := given(a, blocks...)
			giveIs(t, a, blocks, want, e)
		}
	}
}

// Many blocks, of which the last ones alone are wrong, are gone through once.
func TestGiveOfMany(t *testing.T) {
	var blocks []int
	for block := 10; block < 2048; block++ {
		blocks = append(blocks, block)
	}
	a := both(full(2048, yes))
	giveIs(t, a, blocks, api.Alloc{Base: full(2048, yes), Now: used(2048)}, api.OK)
	giveIs(t, a, slices.Concat(blocks, blocks), api.Alloc{}, api.ErrBlock)
	giveIs(t, a, slices.Repeat([]int{10}, 1<<20), api.Alloc{}, api.ErrBlock)
}

func TestCommitWrittenOut(t *testing.T) {
	for _, c := range []struct{ base, now []bool }{
		{used(24), used(24)},
		{used(24), used(24, 10)},
		{used(24, 10), used(24)},
		{used(24, 10), used(24, 11)},
		{used(24), full(24, yes)},
		{full(24, yes), used(24)},
		{full(2048, yes), used(2048, 2047)},
	} {
		want := both(slices.Clone(c.now))
		commitIs(t, api.Alloc{Base: c.base, Now: c.now}, want, api.OK)
	}
}

func TestCommit(t *testing.T) {
	for _, a := range right() {
		commitIs(t, a, both(slices.Clone(a.Now)), api.OK)
	}
	for _, a := range wrong() {
		commitIs(t, a, api.Alloc{}, api.ErrArg)
	}
}

func TestTakeBehindCommit(t *testing.T) {
	// 10 counts and is given: it is free behind the commit, not ahead of it.
	a := api.Alloc{Base: used(24, 10), Now: used(24)}
	takeIs(t, a, api.Alloc{Base: used(24, 10), Now: used(24, 11)}, 11, api.OK)
	b, _ := Commit(a)
	takeIs(t, b, api.Alloc{Base: used(24), Now: used(24, 10)}, 10, api.OK)
	// 10 was taken and counts: it is no more free behind the commit either.
	a = api.Alloc{Base: used(24), Now: used(24, 10)}
	b, _ = Commit(a)
	takeIs(t, b, api.Alloc{Base: used(24, 10), Now: used(24, 10, 11)}, 11, api.OK)
	// What was taken and given ahead of a commit is taken again at once.
	b, _ = Give(a, 10)
	takeIs(t, b, api.Alloc{Base: used(24), Now: used(24, 10)}, 10, api.OK)
	// What is full by what counts alone has room behind a commit.
	a = api.Alloc{Base: full(24, yes), Now: used(24)}
	takeIs(t, a, api.Alloc{}, 0, api.ErrSpace)
	b, _ = Commit(a)
	takeIs(t, b, api.Alloc{Base: used(24), Now: used(24, 10)}, 10, api.OK)
}

// An alloc that may not be is told ahead of a block that may not be, and of no room.
func TestTheFirstErrorIsTold(t *testing.T) {
	for _, a := range wrong() {
		takeIs(t, a, api.Alloc{}, 0, api.ErrArg)
		for _, blocks := range [][]int{nil, {10}, {9}, {3, 3}, {len(a.Now)}, {-1}, {math.MaxInt}, {math.MinInt}} {
			giveIs(t, a, blocks, api.Alloc{}, api.ErrArg)
		}
	}
	takeIs(t, both(full(2049, yes)), api.Alloc{}, 0, api.ErrArg) // and none is free
	takeIs(t, both(full(23, yes)), api.Alloc{}, 0, api.ErrArg)
}

// An answer is new memory: neither of its lists changes with the other, nor with what was handed in, nor has it room in common with them.
func TestNothingIsShared(t *testing.T) {
	roomy := func() []bool { return append(make([]bool, 0, 100), used(24, 10)...) }
	answers := map[string]func(a api.Alloc) api.Alloc{
		"New":          func(api.Alloc) api.Alloc { b, _ := New(24); return b },
		"Take":         func(a api.Alloc) api.Alloc { b, _, _ := Take(a); return b },
		"Give":         func(a api.Alloc) api.Alloc { b, _ := Give(a, 10); return b },
		"Give of none": func(a api.Alloc) api.Alloc { b, _ := Give(a); return b },
		"Commit":       func(a api.Alloc) api.Alloc { b, _ := Commit(a); return b },
	}
	for name, answer := range answers {
		a := api.Alloc{Base: roomy(), Now: roomy()}
		b := answer(a)
		if len(b.Base) != 24 || len(b.Now) != 24 {
			t.Fatalf("%s: %s", name, show(b))
		}
		before, now := copied(a), slices.Clone(b.Now)
		for i := range b.Base {
			b.Base[i] = !b.Base[i]
		}
		_ = append(b.Base, yes)
		if !slices.Equal(b.Now, now) {
			t.Errorf("%s: the answer's lists share their places", name)
		}
		for i := range b.Now {
			b.Now[i] = !b.Now[i]
		}
		_ = append(b.Now, yes)
		if !same(a, before) || a.Base[:100][24] || a.Now[:100][24] {
			t.Errorf("%s: the answer shares what was handed in", name)
		}
	}
}

// One list that is handed in as both stays as it was.
func TestOneListAsBoth(t *testing.T) {
	l := used(24, 10)
	a := api.Alloc{Base: l, Now: l}
	takeIs(t, a, api.Alloc{Base: used(24, 10), Now: used(24, 10, 11)}, 11, api.OK)
	giveIs(t, a, []int{10}, api.Alloc{Base: used(24, 10), Now: used(24)}, api.OK)
	commitIs(t, a, both(used(24, 10)), api.OK)
}

// P6.3

// Whatever is taken, given and committed: what is taken was free and is not any more, what counts is not taken, and all that is answered may be.
func TestWhatFollows(t *testing.T) {
	for _, n := range []int{24, 25, 40, 2048} {
		for seed := range uint32(20) {
			play(t, n, seed)
		}
	}
}

func play(t *testing.T, n int, seed uint32) {
	t.Helper()
	a := made(t, n)
	next := func(below int) int {
		seed = seed*1664525 + 1013904223
		return int(seed>>8) % below
	}
	for range 600 {
		old := copied(a)
		switch next(10) {
		case 0:
			b, e := Commit(a)
			if e != api.OK || !slices.Equal(b.Base, old.Now) || !slices.Equal(b.Now, old.Now) {
				t.Fatalf("Commit(%s): %s %d", show(old), show(b), e)
			}
			a = b
		case 1, 2, 3:
			block := next(n + 4)
			want, wantE := given(a, block)
			b, e := Give(a, block)
			if e != wantE || !same(b, want) {
				t.Fatalf("Give(%s, %d): %s %d, want %d", show(old), block, show(b), e, wantE)
			}
			if e == api.OK {
				a = b
			}
		default:
			b, block, e := Take(a)
			if e == api.ErrSpace && Free(a) == 0 {
				continue
			}
			if e != api.OK || old.Base[block] || old.Now[block] || !b.Now[block] || Free(b) != Free(old)-1 {
				t.Fatalf("Take(%s): %s %d %d", show(old), show(b), block, e)
			}
			a = b
		}
		if !Right(a) {
			t.Fatalf("%s may not be", show(a))
		}
	}
}

// A block that counts is kept from being taken until it was given and a commit came, though all else is taken and given again and again.
func TestWhatCountsIsNotTaken(t *testing.T) {
	a, block, _ := Take(made(t, 24))
	a, _ = Commit(a)
	for _, give := range []bool{no, yes} {
		b := a
		if give {
			var e api.Errno
			if b, e = Give(b, block); e != api.OK {
				t.Fatalf("Give(%s, %d): %d", show(a), block, e)
			}
		}
		for range 3 {
			var blocks []int
			for range 24 {
				c, got, e := Take(b)
				if e == api.ErrSpace {
					break
				}
				if e != api.OK || got == block {
					t.Fatalf("Take(%s): %d %d", show(b), got, e)
				}
				blocks = append(blocks, got)
				b = c
			}
			if len(blocks) != 13 {
				t.Fatalf("%d blocks were taken", len(blocks))
			}
			b, _ = Give(b, blocks...)
		}
		b, _ = Commit(b)
		if _, got, e := Take(b); e != api.OK || (got == block) != give {
			t.Errorf("behind a commit, given %t: block %d %d", give, got, e)
		}
	}
}

// P1, R1, R2: every call ends, answers the same each time, and beside an error all else is zero.
func TestNoCallPanics(t *testing.T) {
	numbers := []int{math.MinInt, -2049, -1, 0, 9, 10, 23, 24, 2047, 2048, 2049, math.MaxInt}
	lists := [][]bool{nil, {}, {yes}, full(9, yes), full(10, yes), used(23), used(24), full(24, yes), full(24, no), noise(24, 1), used(2048), full(2048, yes), noise(2048, 2), used(2049), full(1<<16, yes)}
	for _, base := range lists {
		for _, now := range lists {
			a := api.Alloc{Base: base, Now: now}
			if Right(a) != may(a) || Free(a) != len(freeOf(a)) {
				t.Errorf("Right(%s): %t, Free: %d", show(a), Right(a), Free(a))
			}
			b, block, e := Take(a)
			again, blockAgain, f := Take(a)
			if e != f || block != blockAgain || !same(b, again) || e != api.OK && (!zero(b) || block != 0) {
				t.Errorf("Take(%s): %s %d %d, then %s %d %d", show(a), show(b), block, e, show(again), blockAgain, f)
			}
			b, e = Commit(a)
			again, f = Commit(a)
			if e != f || !same(b, again) || e != api.OK && !zero(b) {
				t.Errorf("Commit(%s): %s %d, then %s %d", show(a), show(b), e, show(again), f)
			}
			for _, n := range numbers {
				b, e = Give(a, n, 10)
				again, f = Give(a, n, 10)
				if e != f || !same(b, again) || e != api.OK && !zero(b) {
					t.Errorf("Give(%s, %d, 10): %s %d, then %s %d", show(a), n, show(b), e, show(again), f)
				}
			}
		}
	}
}
