package store

import (
	"fmt"
	"slices"
	"strings"
	"testing"

	"penelope/api"
	"penelope/pager"
)

// masksOf are masks for so many writes: no sector, all, the first one alone, all but it, one write whole, all but one, some first ones, and any.
func masksOf(n int, seed *noise) [][]int {
	all := [][]int{nil, slices.Repeat([]int{255}, n)}
	if n == 0 {
		return all[:1]
	}
	all = append(all, slices.Repeat([]int{1}, n), slices.Repeat([]int{254}, n))
	for k := range n {
		one, others := make([]int, n), slices.Repeat([]int{255}, n)
		one[k], others[k] = 255, 0
		all = append(all, one, others, slices.Repeat([]int{255}, k))
	}
	for range 3 {
		all = append(all, strewn(n, seed))
	}
	return all
}

func strewn(n int, seed *noise) []int {
	l := make([]int, n)
	for k := range l {
		l[k] = []int{0, 255, seed.below(256)}[seed.below(3)]
	}
	return l
}

// history is the pairs at the beginning and behind each Do that told OK, and how many of these were done ahead of the last Sync or Checkpoint that did.
type history struct {
	pairs [][]api.Pair
	sure  int
}

func historyOf(t *testing.T, s api.Store) *history {
	t.Helper()
	return &history{pairs: [][]api.Pair{pairsOf(t, s.Wood)}}
}

func (h *history) did(t *testing.T, s api.Store) {
	t.Helper()
	h.pairs = append(h.pairs, pairsOf(t, s.Wood))
}

func (h *history) all() int { return len(h.pairs) - 1 }

// place is behind how many Dos the pairs are those of the store: some first ones of all, in which are those that are there for sure. It is -1, if there is no such place.
func (h *history) place(t *testing.T, s api.Store) int {
	t.Helper()
	pairs := pairsOf(t, s.Wood)
	for n := h.all(); n >= h.sure; n-- {
		if slices.Equal(h.pairs[n], pairs) {
			return n
		}
	}
	return -1
}

// opens opens a device behind a crash: P15.6. It tells the store, and how many Dos are in it.
func (h *history) opens(t *testing.T, what string, d api.Device) (api.Store, int) {
	t.Helper()
	s, e := Open(withPower(d, -1))
	if e != api.OK {
		t.Fatalf("%s: Open(%s): %d", what, showDevice(d), e)
	}
	n := h.place(t, s)
	if n < 0 {
		t.Fatalf("%s: opened with %v; %d done, %d for sure", what, pairsOf(t, s.Wood), h.all(), h.sure)
	}
	if !Right(s) || s.Seq != 0 || s.Synced != 0 {
		t.Fatalf("%s: opened: %s", what, showStore(s))
	}
	return s, n
}

// opensWithoutPower has the power go behind each call of an opening, too, and opens what is left.
func (h *history) opensWithoutPower(t *testing.T, what string, d api.Device, seed *noise) {
	t.Helper()
	for left := 0; ; left++ {
		s, e := Open(withPower(d, left))
		if e == api.OK {
			h.opens(t, fmt.Sprint(what, ", opened with power for ", left), crashed(t, s))
			return
		}
		if e != api.ErrDown || s.Left != 0 || !sameStore(s, api.Store{Power: s.Power}) {
			t.Fatalf("%s: Open with power for %d: %s, %d", what, left, showStore(s), e)
		}
		for _, l := range [][]int{nil, slices.Repeat([]int{255}, len(s.Pending)), strewn(len(s.Pending), seed)} {
			h.opens(t, fmt.Sprint(what, ", opened with power for ", left, ", masks ", l), crashed(t, s, l...))
		}
	}
}

// step is a Do of changes, a Sync, or a Checkpoint.
type step struct {
	changes    []api.Change
	sync, mark bool
}

func (s step) of(at api.Store) (api.Store, api.Errno) {
	switch {
	case s.sync:
		return Sync(at)
	case s.mark:
		return Checkpoint(at)
	default:
		return Do(at, s.changes...)
	}
}

// play does steps up to the first one that tells ErrDown; one that tells ErrSpace is left out. It tells the store as it is then, and whether the power has gone.
func (h *history) play(t *testing.T, s api.Store, steps []step) (api.Store, bool) {
	t.Helper()
	for i, step := range steps {
		next, e := step.of(s)
		switch e {
		case api.OK:
			h.note(t, step, s, next)
			s = next
		case api.ErrDown:
			return next, true
		case api.ErrSpace:
			if step.mark {
				t.Fatalf("step %d: Checkpoint told ErrSpace", i)
			}
		default:
			t.Fatalf("step %d: %d", i, e)
		}
		if e == api.OK && !Right(s) {
			t.Fatalf("step %d: %s", i, showStore(s))
		}
	}
	return s, false
}

func (h *history) note(t *testing.T, s step, was, is api.Store) {
	t.Helper()
	switch {
	case s.sync, s.mark:
		h.sure = h.all()
	case was.Seq == 8:
		// The Checkpoint that came first told OK.
		h.sure = h.all()
		h.did(t, is)
	default:
		h.did(t, is)
	}
}

// numbered are steps by letters: d is a Do of a number and another pair, e one without changes, t one that takes a pair, w one of long values, s a Sync, c a Checkpoint.
func numbered(letters string) []step {
	var all []step
	for i, letter := range letters {
		count := put("n", fmt.Sprint(i))
		switch letter {
		case 'd':
			all = append(all, step{changes: []api.Change{count, put(keyOf(i), "x")}})
		case 'e':
			all = append(all, step{})
		case 't':
			all = append(all, step{changes: []api.Change{count, take(keyOf(i - 1)), take(keyOf(i / 2))}})
		case 'w':
			all = append(all, step{changes: append(puts(190, i%7, i%5), count)})
		case 's':
			all = append(all, step{sync: true})
		case 'c':
			all = append(all, step{mark: true})
		}
	}
	return all
}

// powerGoes has the power go behind each call of a play, with many sectors staying, and opens what is left; each time also with power for some calls.
func powerGoes(t *testing.T, what string, s api.Store, steps []step) {
	t.Helper()
	seed := noise(len(what))
	for left := 0; ; left++ {
		h := historyOf(t, s)
		at, gone := h.play(t, powered(s, left), steps)
		where := fmt.Sprint(what, ", power for ", left)
		if gone && (at.Left != 0 || !sameStore(at, api.Store{Power: at.Power})) {
			t.Fatalf("%s: %s", where, showStore(at))
		}
		for i, l := range masksOf(len(at.Pending), &seed) {
			d := crashed(t, at, l...)
			h.opens(t, fmt.Sprint(where, ", masks ", l), d)
			if i < 2 {
				h.opensWithoutPower(t, fmt.Sprint(where, ", masks ", l), d, &seed)
			}
		}
		if !gone {
			return
		}
	}
}

// P15.6

func TestPowerGoes(t *testing.T) {
	for _, letters := range []string{
		"d", "dd", "ds", "dsd", "dc", "dcd", "sc", "ddsdd", "dddsddc", "dddddddddddddddddd", "eeeeeeeeee", "dtdtdtdtdt", "wwwwwwwww", "ddsddcddsdtwed", "ddddddddsd", "ddddddddcd", "cccc", "ssss",
	} {
		t.Run(letters, func(t *testing.T) {
			t.Parallel()
			powerGoes(t, letters, made(t, 24), numbered(letters))
			powerGoes(t, letters, filled(t, made(t, 40), puts(100, upTo(0, 14)...)...), numbered(letters))
		})
	}
}

// Little room: what is done again behind a crash has the room that it had.
func TestPowerGoesWithLittleRoom(t *testing.T) {
	t.Parallel()
	s := tight(t)
	other := func(n int) step { return step{changes: puts(2, n)} }
	more := func(n int) step { return step{changes: puts(1, n)} }
	none, gone := step{}, func(n int) step { return step{changes: []api.Change{take(keyOf(n))}} }
	mark := step{mark: true}
	powerGoes(t, "little room", s, []step{other(39), mark, other(0), more(40), none, none, none, none, none, none, none, other(20), none, mark})
	powerGoes(t, "less and less", s, []step{gone(0), gone(39), gone(20), mark, gone(1), gone(2), gone(3), gone(4), more(50), mark, other(30)})
}

// Records are there up to the first one of which the sector did not stay; those behind it are not done, though they lie there.
func TestRecordsUpToTheFirstThatIsGone(t *testing.T) {
	s := made(t, 24)
	h := historyOf(t, s)
	s, _ = h.play(t, s, numbered("dddddddd"))
	for mask := range 256 {
		l := make([]int, 8)
		stay := 0
		for no := range l {
			// A record lies within the first sector: others tell nothing.
			l[no] = 254 + mask>>no&1
			if l[no] == 255 && stay == no {
				stay++
			}
		}
		back, n := h.opens(t, fmt.Sprint("mask ", mask), crashed(t, s, l...))
		if n != stay {
			t.Fatalf("mask %d: %d of the records, want %d", mask, n, stay)
		}
		// What was not done is not done later, either.
		again, n := h.opens(t, fmt.Sprint("mask ", mask), crashed(t, back))
		if n != stay || again.Super.Gen != back.Super.Gen+1 {
			t.Fatalf("mask %d, opened again: %d of the records, want %d", mask, n, stay)
		}
		// Nor behind new records that come to lie ahead of elder ones.
		next := done(t, back, put("z", fmt.Sprint(mask)))
		more := synced(t, next)
		if got := opened(t, crashed(t, more)); !slices.Equal(pairsOf(t, got.Wood), pairsOf(t, next.Wood)) {
			t.Fatalf("mask %d: a new record, opened: %v", mask, pairsOf(t, got.Wood))
		}
	}
}

// What is on its way behind a Sync is lost or not; what was done ahead of it stays.
func TestSyncedStays(t *testing.T) {
	for sure := range 9 {
		s := made(t, 40)
		h := historyOf(t, s)
		s, _ = h.play(t, s, numbered(strings.Repeat("d", sure)+"s"+strings.Repeat("d", 8-sure)))
		if h.sure != sure || s.Synced != sure || s.Seq != 8 {
			t.Fatal(showStore(s))
		}
		if _, n := h.opens(t, "none stay", crashed(t, s)); n != sure {
			t.Errorf("%d of %d that are sure", n, sure)
		}
		if _, n := h.opens(t, "all stay", crashed(t, s, slices.Repeat([]int{1}, 8)...)); n != 8 {
			t.Errorf("%d of 8", n)
		}
	}
}

// A long play: Dos, Syncs and Checkpoints with power for some calls, crashes, and openings whose power goes, too.
func TestPlays(t *testing.T) {
	for seed := range noise(10) {
		t.Run(fmt.Sprint(seed), func(t *testing.T) {
			t.Parallel()
			at := seed
			longPlay(t, &at, 24+9*int(seed))
		})
	}
}

func longPlay(t *testing.T, seed *noise, n int) {
	t.Helper()
	s := made(t, n)
	h := historyOf(t, s)
	for round := range 120 {
		var steps []step
		for range seed.below(20) {
			steps = append(steps, strewnStep(seed, n))
		}
		at, gone := h.play(t, powered(s, seed.below(30)), steps)
		if !gone && seed.below(3) > 0 {
			s = powered(at, -1)
			continue
		}
		d := crashed(t, at, strewn(len(at.Pending), seed)...)
		for seed.below(2) == 0 {
			half, e := Open(withPower(d, seed.below(6)))
			if e != api.OK && e != api.ErrDown {
				t.Fatalf("round %d: Open: %d", round, e)
			}
			d = crashed(t, half, strewn(len(half.Pending), seed)...)
		}
		var in int
		s, in = h.opens(t, fmt.Sprint("round ", round), d)
		h = historyOf(t, s)
		if in < 0 {
			t.Fatal(round)
		}
	}
}

func strewnStep(seed *noise, n int) step {
	switch seed.below(10) {
	case 0:
		return step{sync: true}
	case 1:
		return step{mark: true}
	}
	var s step
	for range seed.below(4) {
		key := keyOf(seed.below(2 * n))
		if seed.below(5) < 2 {
			s.changes = append(s.changes, take(key))
		} else {
			s.changes = append(s.changes, put(key, strings.Repeat("v", seed.below(110))))
		}
	}
	return s
}

// P15.7

// One free block is enough, whatever the tree and whatever counts.
func TestCheckpointWithOneFreeBlock(t *testing.T) {
	for _, s := range stages(t) {
		for keep := range s.store.Wood.Now {
			w := twinWood(s.store.Wood)
			if w.Now[keep] || w.Base[keep] {
				continue
			}
			for block := range w.Base {
				w.Base[block] = w.Base[block] || !w.Now[block] && block != keep
			}
			at := s.store
			at.Wood = w
			if freeOf(w.Alloc) != 1 || !Right(at) {
				t.Fatal(s.name, freeOf(w.Alloc))
			}
			next := checkpointed(t, at)
			if next.Super.Map != keep || freeOf(next.Wood.Alloc) < 1 || !Right(next) {
				t.Fatalf("%s: %s", s.name, showStore(next))
			}
			checkpointAsWritten(t, s.name, at)
		}
	}
}

// Stores that are filled until nothing has room: each one that may be is checkpointed, and may be then.
func TestCheckpointNeverTellsErrSpace(t *testing.T) {
	t.Parallel()
	for _, n := range []int{24, 25, 33} {
		seed := noise(n)
		s := made(t, n)
		refused := 0
		for range 300 {
			changes := puts(seed.below(20), seed.below(9*n), seed.below(9*n))
			if seed.below(4) == 0 {
				changes = append(changes, take(keyOf(seed.below(9*n))))
			}
			next, e := Do(s, changes...)
			if e == api.ErrSpace {
				refused++
				next = checkpointed(t, s)
			} else if e != api.OK {
				t.Fatal(e)
			}
			if !Right(next) || !Right(checkpointed(t, next)) {
				t.Fatal(showStore(next))
			}
			s = next
		}
		if refused < 50 {
			t.Errorf("%d blocks have no room only %d times", n, refused)
		}
	}
}

// A great store, and many records behind one another.
func TestGreatStore(t *testing.T) {
	t.Parallel()
	s := made(t, 2048)
	for n := range 60 {
		s = done(t, s, puts(20, upTo(15*n, 15*n+15)...)...)
	}
	want := pairsOf(t, s.Wood)
	if len(want) != 900 || s.Super.Gen != 2+7 || s.Seq != 4 {
		t.Fatal(len(want), s.Super, s.Seq)
	}
	back := opened(t, crashed(t, synced(t, s)))
	if !slices.Equal(pairsOf(t, back.Wood), want) {
		t.Error("other pairs behind a Sync")
	}
	lost := opened(t, crashed(t, s))
	if got := pairsOf(t, lost.Wood); len(got) != 56*15 || !slices.Equal(got, want[:56*15]) {
		t.Error("other pairs without a Sync:", len(got))
	}
	if f, e := pager.Mount(back.Device); e != api.OK || f.Super != back.Super || f.Slot != back.Slot || len(f.Ring) != 0 {
		t.Error(f.Super, e)
	}
}
