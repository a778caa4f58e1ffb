package task

import (
	"slices"
	"strings"
	"testing"

	"penelope/api"
)

// P18.6

// steps calls f with whatever can be done with a task, told by a name, and what is made of it; where there is an error, it stays.
func steps(x api.Task, s api.State, now, token int, result string, f func(string, api.State)) {
	f("Ready", Ready(s))
	f("Expire", Expire(x, s, now))
	f("Cancel", Cancel(s))
	told := func(name string, made api.State, e api.Errno) {
		if e != api.OK {
			made = s
		}
		f(name, made)
	}
	made, e := Lease(x, s, now, token)
	told("Lease", made, e)
	made, e = Beat(x, s, now)
	told("Beat", made, e)
	made, e = Done(x, s, result)
	told("Done", made, e)
	made, e = Fail(x, s, now)
	told("Fail", made, e)
}

func TestWhatIsMadeOfWhatMayBeMayBe(t *testing.T) {
	for _, x := range plainTasks() {
		for _, s := range sound(x) {
			for _, now := range append(times(), s.Due-1, s.Due, s.Due+1) {
				for i, token := range tokens() {
					steps(x, s, now, token, results()[i%len(results())], func(name string, made api.State) {
						if !right(x, made) || !Right(x, made) {
							t.Fatalf("%s of %#v with %v at %d: %#v", name, s, x, now, made)
						}
					})
				}
			}
		}
	}
}

// Each result of each length, as far as Done takes it.
func TestWhatIsDoneMayBe(t *testing.T) {
	for _, x := range plainTasks() {
		for size := range 20 {
			s, e := Lease(x, Ready(api.State{}), 3, 4)
			if e != api.OK {
				t.Fatal(e)
			}
			made, e := Done(x, s, strings.Repeat("r", size))
			if (e == api.OK) != (size <= 16) || e == api.OK && !Right(x, made) {
				t.Errorf("Done of %d bytes: %#v, %d", size, made, e)
			}
		}
	}
}

// lost tries a task until it is lost, each lease ended by end, and tells how many leases there were.
func lost(t *testing.T, x api.Task, end func(api.State) api.State) int {
	t.Helper()
	s := Ready(api.State{})
	for leases := 0; ; leases++ {
		if s.Is == api.SLost {
			return leases
		}
		if s.Is != api.SDue || s.Tried != leases || leases > 8 {
			t.Fatalf("%v, behind %d leases: %#v", x, leases, s)
		}
		if ahead, e := Lease(x, s, s.Due-1, 1); e != api.ErrIdle && s.Due > 0 {
			t.Fatalf("%v, leased at %d: %#v, %d", x, s.Due-1, ahead, e)
		}
		held, e := Lease(x, s, s.Due, leases+1)
		if e != api.OK || held.Tried != leases+1 || held.Token != leases+1 {
			t.Fatalf("%v, lease %d of %#v: %#v, %d", x, leases+1, s, held, e)
		}
		s = end(held)
	}
}

func TestATaskIsTriedUntilItIsLost(t *testing.T) {
	for tries := 1; tries <= 8; tries++ {
		x := api.Task{Tries: tries, Wait: 3, Lease: 5}
		failed := lost(t, x, func(s api.State) api.State {
			s, e := Fail(x, s, s.Due-2)
			if e != api.OK {
				t.Fatal(e)
			}
			return s
		})
		expired := lost(t, x, func(s api.State) api.State {
			if s != Expire(x, s, s.Due-1) {
				t.Fatalf("%#v is over too soon", s)
			}
			return Expire(x, s, s.Due)
		})
		both := lost(t, x, func(s api.State) api.State {
			if s.Tried%2 == 1 {
				return Expire(x, s, highest)
			}
			s, _ = Fail(x, s, s.Due)
			return s
		})
		if failed != tries || expired != tries || both != tries {
			t.Errorf("%d tries: lost behind %d, %d, %d leases", tries, failed, expired, both)
		}
	}
}

// The times at which a task of eight tries may be leased, each lease of which is over: the waits double.
func TestWaitsOfATaskThatIsNeverAnswered(t *testing.T) {
	x := api.Task{Tries: 8, Wait: 3, Lease: 5}
	var at []int
	lost(t, x, func(s api.State) api.State {
		at = append(at, s.Due)
		return Expire(x, s, s.Due)
	})
	if want := []int{5, 13, 24, 41, 70, 123, 224, 421}; !slices.Equal(at, want) {
		t.Errorf("leases are over at %v; want %v", at, want)
	}
}

// Whatever is done, in whatever order: it may be, it is leased at most Tries times, and what has ended stays.
func TestLeasesAreAtMostTries(t *testing.T) {
	n := noise(6)
	seen := map[int]int{}
	for range 40000 {
		x := api.Task{Tries: 1 + n.below(8), Wait: n.below(4), Lease: 1 + n.below(4)}
		s, now, leases := api.State{}, 0, 0
		for token := 1; token < 60; token++ {
			var made []api.State
			steps(x, s, now, token, "done", func(_ string, m api.State) { made = append(made, m) })
			// Ending what is done at every step would leave few tries: Done and Cancel come seldom.
			pick := []int{0, 1, 3, 3, 4, 6}[n.below(6)]
			if n.below(20) == 0 {
				pick = n.below(len(made))
			}
			was := s
			s = made[pick]
			if s.Token == token {
				leases++
			}
			if !right(x, s) || leases > x.Tries || leases != s.Tried {
				t.Fatalf("%v, behind %d leases: %#v made %#v", x, leases, was, s)
			}
			if was.Is >= api.SDone && s != was {
				t.Fatalf("%v: %#v became %#v", x, was, s)
			}
			now += n.below(4)
		}
		seen[s.Is]++
	}
	for _, is := range []int{api.SDone, api.SLost, api.SGone} {
		if seen[is] < 100 {
			t.Errorf("only %d plays came to %d", seen[is], is)
		}
	}
}

// What has ended stays, also where it could not be with the task.
func TestWhatHasEndedStays(t *testing.T) {
	for _, s := range asked() {
		if s.Is != api.SDone && s.Is != api.SLost && s.Is != api.SGone {
			continue
		}
		for _, x := range tasks() {
			for _, now := range times() {
				steps(x, s, now, 7, "done", func(name string, made api.State) {
					if made != s {
						t.Fatalf("%s of %#v: %#v", name, s, made)
					}
				})
			}
		}
	}
}

func TestWhatIsPutIsGotAgain(t *testing.T) {
	put := map[string]api.State{}
	for _, s := range standing() {
		b, e := Put(s)
		if e != api.OK || len(b) != 16+len(s.Result) {
			t.Fatalf("Put(%#v) = %x, %d", s, b, e)
		}
		if was, is := put[b]; is {
			t.Fatalf("%#v and %#v are both put as %x", was, s, b)
		}
		put[b] = s
		if g, e := Get(b); g != s || e != api.OK {
			t.Fatalf("%#v was put, and got: %#v, %d", s, g, e)
		}
	}
	if len(put) < 600 {
		t.Errorf("only %d of them may stand", len(put))
	}
}

// The rules, and P1

// R4: a task's Needs stay as they are, also behind the end of the list, and no call looks at them.
func TestNeedsStay(t *testing.T) {
	whole := []int{4, -1, highest, 7, 9}
	was := slices.Clone(whole)
	for _, needs := range [][]int{nil, {}, whole[:3], whole} {
		for _, s := range eachKind() {
			x := plain()
			x.Needs = needs
			var with, without []api.State
			steps(x, s, 20, 9, "done", func(_ string, made api.State) { with = append(with, made) })
			steps(plain(), s, 20, 9, "done", func(_ string, made api.State) { without = append(without, made) })
			if !slices.Equal(with, without) || Right(x, s) != Right(plain(), s) {
				t.Errorf("%v: %#v makes %#v; without needs %#v", needs, s, with, without)
			}
		}
	}
	if !slices.Equal(whole, was) {
		t.Errorf("Needs %v were %v", whole, was)
	}
}

// R1: no call hangs on what was called ahead of it.
func TestNothingIsKept(t *testing.T) {
	calls := func() []api.State {
		var all []api.State
		for _, s := range eachKind() {
			steps(plain(), s, 20, 9, "done", func(_ string, made api.State) { all = append(all, made) })
			b, _ := Put(s)
			g, _ := Get(b)
			all = append(all, g)
		}
		return all
	}
	first := calls()
	for range 3 {
		if again := calls(); !slices.Equal(again, first) {
			t.Errorf("%#v, then %#v", first, again)
		}
	}
}

// P1, R2: at all arguments every call ends and none panics; beside an error all else is zero.
func TestEveryCallEnds(t *testing.T) {
	zero := api.State{}
	hold := func(name string, s api.State, e api.Errno, may ...api.Errno) {
		t.Helper()
		if e != api.OK && (s != zero || !slices.Contains(may, e)) {
			t.Fatalf("%s: %#v, %d", name, s, e)
		}
	}
	numbers := []int{lowest, lowest + 1, -1 << 40, -1, 0, 1, 2, 3, 4, 5, 6, 8, 9, 1 << 40, 1<<40 + 1, highest - 1, highest}
	n := noise(9)
	one := func() int { return numbers[n.below(len(numbers))] }
	long := strings.Repeat("r", 65536)
	for range 300000 {
		x := api.Task{Tries: one(), Wait: one(), Lease: one()}
		s := api.State{Is: one(), Tried: one(), Due: one(), Token: one(), Result: long[:n.below(20)]}
		if n.below(3) == 0 {
			s.Is = n.below(6)
		}
		if n.below(50) == 0 {
			s.Result = long
		}
		Right(x, s)
		Ready(s)
		Expire(x, s, one())
		Cancel(s)
		g, e := Lease(x, s, one(), one())
		hold("Lease", g, e, api.ErrArg, api.ErrIdle)
		g, e = Beat(x, s, one())
		hold("Beat", g, e, api.ErrToken)
		g, e = Done(x, s, long[:n.below(20)])
		hold("Done", g, e, api.ErrToken, api.ErrArg)
		g, e = Fail(x, s, one())
		hold("Fail", g, e, api.ErrToken)
		if b, e := Put(s); e != api.OK && (b != "" || e != api.ErrArg) {
			t.Fatalf("Put(%#v) = %x, %d", s, b, e)
		}
	}
	for range 100000 {
		b := make([]byte, n.below(40))
		for i := range b {
			b[i] = byte([]int{0, 0, 0, 1, 2, 3, 9, 255}[n.below(8)])
		}
		g, e := Get(string(b))
		hold("Get", g, e, api.ErrShort, api.ErrForm)
	}
}
