package task

import (
	"strings"
	"testing"

	"penelope/api"
)

// plain is the task of the chapter's examples.
func plain() api.Task { return api.Task{Tries: 2, Wait: 3, Lease: 5} }

// held is what is leased, at the first of two tries.
func held() api.State { return api.State{Is: api.SHeld, Tried: 1, Due: 15, Token: 7} }

// due is what may be leased again.
func due() api.State { return api.State{Is: api.SDue, Tried: 1, Due: 18} }

// eachKind is one of each kind, which may be with the task of the examples.
func eachKind() []api.State {
	return []api.State{
		{},
		due(),
		held(),
		{Is: api.SDone, Tried: 1, Result: "ok"},
		{Is: api.SLost, Tried: 2},
		{Is: api.SGone, Tried: 1},
	}
}

// sound are those that may be with a task, of the states at all edges.
func sound(x api.Task) []api.State {
	var all []api.State
	for _, s := range standing() {
		if right(x, s) {
			all = append(all, s)
		}
	}
	return all
}

// The chapter's examples

func TestExamples(t *testing.T) {
	x := plain()
	s, e := Lease(x, api.State{Is: api.SDue}, 10, 7)
	if want := (api.State{Is: api.SHeld, Tried: 1, Due: 15, Token: 7}); s != want || e != api.OK {
		t.Errorf("Lease of SDue at 10 with 7: %#v, %d", s, e)
	}
	s = Expire(x, s, 15)
	if want := (api.State{Is: api.SDue, Tried: 1, Due: 18}); s != want {
		t.Errorf("Expire of that at 15: %#v", s)
	}
	if s, e := Lease(x, s, 17, 8); s != (api.State{}) || e != api.ErrIdle {
		t.Errorf("Lease of that at 17: %#v, %d", s, e)
	}
}

// P18.1

func TestRightOfAPlainTask(t *testing.T) {
	x := plain()
	for _, c := range []struct {
		name string
		s    api.State
		want bool
	}{
		{"SWait", api.State{}, true},
		{"SWait, tried", api.State{Tried: 1}, false},
		{"SWait with a Due", api.State{Due: 1}, false},
		{"SWait with a Token", api.State{Token: 1}, false},
		{"SWait with a Result", api.State{Result: "r"}, false},

		{"SDue", api.State{Is: api.SDue}, true},
		{"SDue, tried once", api.State{Is: api.SDue, Tried: 1, Due: 18}, true},
		{"SDue at the end of time", api.State{Is: api.SDue, Tried: 1, Due: 1 << 40}, true},
		{"SDue behind the end of time", api.State{Is: api.SDue, Tried: 1, Due: 1<<40 + 1}, false},
		{"SDue ahead of all time", api.State{Is: api.SDue, Due: -1}, false},
		{"SDue without a try left", api.State{Is: api.SDue, Tried: 2}, false},
		{"SDue, tried too often", api.State{Is: api.SDue, Tried: 3}, false},
		{"SDue, tried less than never", api.State{Is: api.SDue, Tried: -1}, false},
		{"SDue with a Token", api.State{Is: api.SDue, Token: 1}, false},
		{"SDue with a Token below 0", api.State{Is: api.SDue, Token: -1}, false},
		{"SDue with a Result", api.State{Is: api.SDue, Result: "r"}, false},

		{"SHeld", held(), true},
		{"SHeld at the last try", api.State{Is: api.SHeld, Tried: 2, Due: 15, Token: 7}, true},
		{"SHeld, never tried", api.State{Is: api.SHeld, Due: 15, Token: 7}, false},
		{"SHeld, tried too often", api.State{Is: api.SHeld, Tried: 3, Due: 15, Token: 7}, false},
		{"SHeld until 0", api.State{Is: api.SHeld, Tried: 1, Token: 7}, true},
		{"SHeld until the end of time", api.State{Is: api.SHeld, Tried: 1, Due: 1 << 40, Token: 7}, true},
		{"SHeld beyond the end of time", api.State{Is: api.SHeld, Tried: 1, Due: 1<<40 + 1, Token: 7}, false},
		{"SHeld without a Token", api.State{Is: api.SHeld, Tried: 1, Due: 15}, false},
		{"SHeld with a Token below 0", api.State{Is: api.SHeld, Tried: 1, Due: 15, Token: -1}, false},
		{"SHeld with the last Token", api.State{Is: api.SHeld, Tried: 1, Due: 15, Token: 1 << 40}, true},
		{"SHeld with a Token behind that", api.State{Is: api.SHeld, Tried: 1, Due: 15, Token: 1<<40 + 1}, false},
		{"SHeld with a Result", api.State{Is: api.SHeld, Tried: 1, Due: 15, Token: 7, Result: "r"}, false},

		{"SDone", api.State{Is: api.SDone, Tried: 1, Result: "ok"}, true},
		{"SDone at the last try", api.State{Is: api.SDone, Tried: 2, Result: "ok"}, true},
		{"SDone without a Result", api.State{Is: api.SDone, Tried: 1}, true},
		{"SDone with a Result of 16 bytes", api.State{Is: api.SDone, Tried: 1, Result: strings.Repeat("r", 16)}, true},
		{"SDone with a Result of 17 bytes", api.State{Is: api.SDone, Tried: 1, Result: strings.Repeat("r", 17)}, false},
		{"SDone with a Result of 9 characters in 18 bytes", api.State{Is: api.SDone, Tried: 1, Result: strings.Repeat("ü", 9)}, false},
		{"SDone, never tried", api.State{Is: api.SDone, Result: "ok"}, false},
		{"SDone, tried too often", api.State{Is: api.SDone, Tried: 3, Result: "ok"}, false},
		{"SDone with a Due", api.State{Is: api.SDone, Tried: 1, Due: 1, Result: "ok"}, false},
		{"SDone with a Token", api.State{Is: api.SDone, Tried: 1, Token: 7, Result: "ok"}, false},

		{"SLost", api.State{Is: api.SLost, Tried: 2}, true},
		{"SLost with a try left", api.State{Is: api.SLost, Tried: 1}, false},
		{"SLost, tried too often", api.State{Is: api.SLost, Tried: 3}, false},
		{"SLost with a Due", api.State{Is: api.SLost, Tried: 2, Due: 1}, false},
		{"SLost with a Token", api.State{Is: api.SLost, Tried: 2, Token: 7}, false},
		{"SLost with a Result", api.State{Is: api.SLost, Tried: 2, Result: "r"}, false},

		{"SGone", api.State{Is: api.SGone}, true},
		{"SGone, tried once", api.State{Is: api.SGone, Tried: 1}, true},
		{"SGone, tried twice", api.State{Is: api.SGone, Tried: 2}, true},
		{"SGone, tried too often", api.State{Is: api.SGone, Tried: 3}, false},
		{"SGone, tried less than never", api.State{Is: api.SGone, Tried: -1}, false},
		{"SGone with a Due", api.State{Is: api.SGone, Tried: 1, Due: 1}, false},
		{"SGone with a Token", api.State{Is: api.SGone, Tried: 1, Token: 7}, false},
		{"SGone with a Result", api.State{Is: api.SGone, Tried: 1, Result: "r"}, false},

		{"no kind, below", api.State{Is: -1}, false},
		{"no kind, above", api.State{Is: 6}, false},
		{"the lowest kind", api.State{Is: lowest}, false},
		{"the greatest kind", api.State{Is: highest, Tried: 1}, false},
		{"a kind of two bytes", api.State{Is: 256}, false},
	} {
		if got := Right(x, c.s); got != c.want {
			t.Errorf("%s: %t", c.name, got)
		}
	}
}

// What may be hangs on the task's Tries, and on no other of its fields.
func TestRightHangsOnTries(t *testing.T) {
	for tries := -1; tries <= 9; tries++ {
		for tried := -1; tried <= 9; tried++ {
			stands := tried >= 0 && tried <= 8 && tried <= tries
			for _, c := range []struct {
				s    api.State
				want bool
			}{
				{api.State{Is: api.SWait, Tried: tried}, stands && tried == 0},
				{api.State{Is: api.SDue, Tried: tried}, stands && tried < tries},
				{api.State{Is: api.SHeld, Tried: tried, Token: 1}, stands && tried > 0},
				{api.State{Is: api.SDone, Tried: tried}, stands && tried > 0},
				{api.State{Is: api.SLost, Tried: tried}, stands && tried == tries},
				{api.State{Is: api.SGone, Tried: tried}, stands},
			} {
				for _, x := range tasks() {
					x.Tries = tries
					if got := Right(x, c.s); got != c.want {
						t.Errorf("Right(%v, %#v) = %t", x, c.s, got)
					}
				}
			}
		}
	}
}

func TestReady(t *testing.T) {
	if s := Ready(api.State{}); s != (api.State{Is: api.SDue}) {
		t.Errorf("Ready of SWait: %#v", s)
	}
	for _, s := range append(eachKind()[1:], api.State{Is: -1}, api.State{Is: 6}, api.State{Is: 9, Tried: -5, Due: lowest, Token: highest, Result: "r"}) {
		if g := Ready(s); g != s {
			t.Errorf("Ready(%#v) = %#v", s, g)
		}
	}
}

// P18.2

func TestLease(t *testing.T) {
	fresh := api.State{Is: api.SDue}
	for _, c := range []struct {
		name       string
		x          api.Task
		s          api.State
		now, token int
		want       api.State
		why        api.Errno
	}{
		{"at 0", plain(), fresh, 0, 1, api.State{Is: api.SHeld, Tried: 1, Due: 5, Token: 1}, api.OK},
		{"ahead of all time", plain(), fresh, -9, 1, api.State{Is: api.SHeld, Tried: 1, Due: 5, Token: 1}, api.OK},
		{"at the lowest number", plain(), fresh, lowest, 1, api.State{Is: api.SHeld, Tried: 1, Due: 5, Token: 1}, api.OK},
		{"at the end of time", plain(), fresh, 1 << 40, 1, api.State{Is: api.SHeld, Tried: 1, Due: 1 << 40, Token: 1}, api.OK},
		{"shortly ahead of that", plain(), fresh, 1<<40 - 5, 1, api.State{Is: api.SHeld, Tried: 1, Due: 1 << 40, Token: 1}, api.OK},
		{"at the greatest number", plain(), fresh, highest, 1, api.State{Is: api.SHeld, Tried: 1, Due: 1 << 40, Token: 1}, api.OK},
		{"the longest lease", api.Task{Tries: 2, Lease: 1 << 20}, fresh, 3, 1, api.State{Is: api.SHeld, Tried: 1, Due: 1<<20 + 3, Token: 1}, api.OK},
		{"a lease below 0", api.Task{Tries: 2, Lease: -4}, fresh, 3, 1, api.State{Is: api.SHeld, Tried: 1, Due: 3, Token: 1}, api.OK},

		{"one ahead of Due", plain(), due(), 17, 8, api.State{}, api.ErrIdle},
		{"at Due", plain(), due(), 18, 8, api.State{Is: api.SHeld, Tried: 2, Due: 23, Token: 8}, api.OK},
		{"one behind Due", plain(), due(), 19, 8, api.State{Is: api.SHeld, Tried: 2, Due: 24, Token: 8}, api.OK},
		{"due at 1, ahead of all time", plain(), api.State{Is: api.SDue, Due: 1}, -1, 8, api.State{}, api.ErrIdle},
		{"due at the end of time, one ahead", plain(), api.State{Is: api.SDue, Due: 1 << 40}, 1<<40 - 1, 8, api.State{}, api.ErrIdle},
		{"due at the end of time, there", plain(), api.State{Is: api.SDue, Due: 1 << 40}, 1 << 40, 8, api.State{Is: api.SHeld, Tried: 1, Due: 1 << 40, Token: 8}, api.OK},
		{"due at the end of time, behind it", plain(), api.State{Is: api.SDue, Due: 1 << 40}, highest, 8, api.State{Is: api.SHeld, Tried: 1, Due: 1 << 40, Token: 8}, api.OK},
		{"due behind the end of time", plain(), api.State{Is: api.SDue, Due: 1<<40 + 1}, highest, 8, api.State{}, api.ErrIdle},

		{"token below 0", plain(), fresh, 10, -1, api.State{}, api.ErrArg},
		{"token 0", plain(), fresh, 10, 0, api.State{}, api.ErrArg},
		{"the last token", plain(), fresh, 10, 1 << 40, api.State{Is: api.SHeld, Tried: 1, Due: 15, Token: 1 << 40}, api.OK},
		{"a token behind the last one", plain(), fresh, 10, 1<<40 + 1, api.State{}, api.ErrArg},
		{"the lowest token", plain(), fresh, 10, lowest, api.State{}, api.ErrArg},
		{"the greatest token", plain(), fresh, 10, highest, api.State{}, api.ErrArg},

		// Both errors: that of the token comes first.
		{"no token, ahead of Due", plain(), due(), 17, 0, api.State{}, api.ErrArg},
		{"no token, of SHeld", plain(), held(), 17, 1<<40 + 1, api.State{}, api.ErrArg},
		{"no token, of no kind", plain(), api.State{Is: 6}, 17, -1, api.State{}, api.ErrArg},
	} {
		if s, e := Lease(c.x, c.s, c.now, c.token); s != c.want || e != c.why {
			t.Errorf("%s: %#v, %d; want %#v, %d", c.name, s, e, c.want, c.why)
		}
	}
}

func TestLeaseOfEachKind(t *testing.T) {
	for _, s := range append(eachKind(), api.State{Is: -1}, api.State{Is: 6}) {
		for _, now := range []int{-1, 0, 17, 18, 1 << 40} {
			g, e := Lease(plain(), s, now, 9)
			if may := s.Is == api.SDue && now >= 18; may != (e == api.OK) || !may && (e != api.ErrIdle || g != (api.State{})) {
				t.Errorf("Lease(%#v) at %d: %#v, %d", s, now, g, e)
			}
		}
	}
}

// P18.3

func TestBeat(t *testing.T) {
	last := api.State{Is: api.SHeld, Tried: 2, Due: 15, Token: 7}
	for _, c := range []struct {
		name string
		x    api.Task
		s    api.State
		now  int
		due  int
	}{
		{"ahead of Due", plain(), held(), 12, 17},
		{"one ahead of Due", plain(), held(), 14, 19},
		{"at Due", plain(), held(), 15, 20},
		{"one behind Due", plain(), held(), 16, 21},
		{"so that it is over sooner", plain(), held(), 1, 6},
		{"at 0", plain(), held(), 0, 5},
		{"ahead of all time", plain(), held(), -3, 5},
		{"at the lowest number", plain(), held(), lowest, 5},
		{"up to the end of time", plain(), held(), 1<<40 - 5, 1 << 40},
		{"over the end of time", plain(), held(), 1<<40 - 4, 1 << 40},
		{"at the greatest number", plain(), held(), highest, 1 << 40},
		{"at the last try", plain(), last, 12, 17},
		{"the longest lease", api.Task{Tries: 2, Lease: 1 << 20}, held(), 1, 1<<20 + 1},
	} {
		want := c.s
		want.Due = c.due
		if s, e := Beat(c.x, c.s, c.now); s != want || e != api.OK {
			t.Errorf("%s: %#v, %d; want %#v", c.name, s, e, want)
		}
	}
}

func TestDone(t *testing.T) {
	for _, c := range []struct {
		name   string
		s      api.State
		result string
		want   api.State
		why    api.Errno
	}{
		{"a result", held(), "ok", api.State{Is: api.SDone, Tried: 1, Result: "ok"}, api.OK},
		{"no result", held(), "", api.State{Is: api.SDone, Tried: 1}, api.OK},
		{"at the last try", api.State{Is: api.SHeld, Tried: 2, Due: 15, Token: 7}, "ok", api.State{Is: api.SDone, Tried: 2, Result: "ok"}, api.OK},
		{"16 bytes", held(), strings.Repeat("r", 16), api.State{Is: api.SDone, Tried: 1, Result: strings.Repeat("r", 16)}, api.OK},
		{"17 bytes", held(), strings.Repeat("r", 17), api.State{}, api.ErrArg},
		{"65536 bytes", held(), strings.Repeat("r", 65536), api.State{}, api.ErrArg},
		{"8 characters in 16 bytes", held(), strings.Repeat("ü", 8), api.State{Is: api.SDone, Tried: 1, Result: strings.Repeat("ü", 8)}, api.OK},
		{"9 characters in 18 bytes", held(), strings.Repeat("ü", 9), api.State{}, api.ErrArg},
		{"zero bytes", held(), "\x00\x00", api.State{Is: api.SDone, Tried: 1, Result: "\x00\x00"}, api.OK},
		{"bytes that are no characters", held(), "\xff\xc0", api.State{Is: api.SDone, Tried: 1, Result: "\xff\xc0"}, api.OK},

		// Both errors: that of the lease comes first.
		{"17 bytes, of SWait", api.State{}, strings.Repeat("r", 17), api.State{}, api.ErrToken},
		{"17 bytes, of SDone", api.State{Is: api.SDone, Tried: 1}, strings.Repeat("r", 17), api.State{}, api.ErrToken},
		{"17 bytes, of no kind", api.State{Is: 6}, strings.Repeat("r", 17), api.State{}, api.ErrToken},
	} {
		if s, e := Done(plain(), c.s, c.result); s != c.want || e != c.why {
			t.Errorf("%s: %#v, %d; want %#v, %d", c.name, s, e, c.want, c.why)
		}
	}
}

func TestFail(t *testing.T) {
	x := api.Task{Tries: 8, Wait: 3, Lease: 5}
	at := func(tried int) api.State { return api.State{Is: api.SHeld, Tried: tried, Due: 15, Token: 7} }
	long := api.Task{Tries: 8, Wait: 1 << 20, Lease: 5}
	for _, c := range []struct {
		name string
		x    api.Task
		s    api.State
		now  int
		want api.State
	}{
		{"the first time", x, at(1), 12, api.State{Is: api.SDue, Tried: 1, Due: 15}},
		{"the second time", x, at(2), 12, api.State{Is: api.SDue, Tried: 2, Due: 18}},
		{"the third time", x, at(3), 12, api.State{Is: api.SDue, Tried: 3, Due: 24}},
		{"the seventh time", x, at(7), 12, api.State{Is: api.SDue, Tried: 7, Due: 204}},
		{"the eighth time", x, at(8), 12, api.State{Is: api.SLost, Tried: 8}},
		{"at 0", x, at(1), 0, api.State{Is: api.SDue, Tried: 1, Due: 3}},
		{"ahead of all time", x, at(1), -7, api.State{Is: api.SDue, Tried: 1, Due: 3}},
		{"at the lowest number", x, at(1), lowest, api.State{Is: api.SDue, Tried: 1, Due: 3}},
		{"one ahead of Due", x, at(1), 14, api.State{Is: api.SDue, Tried: 1, Due: 17}},
		{"at Due", x, at(1), 15, api.State{Is: api.SDue, Tried: 1, Due: 18}},
		{"one behind Due", x, at(1), 16, api.State{Is: api.SDue, Tried: 1, Due: 19}},
		{"up to the end of time", x, at(1), 1<<40 - 3, api.State{Is: api.SDue, Tried: 1, Due: 1 << 40}},
		{"at the greatest number", x, at(1), highest, api.State{Is: api.SDue, Tried: 1, Due: 1 << 40}},
		{"without a wait", api.Task{Tries: 8, Lease: 5}, at(4), 12, api.State{Is: api.SDue, Tried: 4, Due: 12}},
		{"the longest wait", long, at(1), 12, api.State{Is: api.SDue, Tried: 1, Due: 1<<20 + 12}},
		{"the longest wait, again", long, at(7), 12, api.State{Is: api.SDue, Tried: 7, Due: 1<<20 + 12}},
		{"of one try", api.Task{Tries: 1, Wait: 3, Lease: 5}, at(1), 12, api.State{Is: api.SLost, Tried: 1}},
		{"of the last of two tries", plain(), at(2), 12, api.State{Is: api.SLost, Tried: 2}},
		{"tried too often", plain(), at(3), 12, api.State{Is: api.SLost, Tried: 3}},
		{"never tried", plain(), at(0), 12, api.State{Is: api.SDue, Due: 12}},
	} {
		if s, e := Fail(c.x, c.s, c.now); s != c.want || e != api.OK {
			t.Errorf("%s: %#v, %d; want %#v", c.name, s, e, c.want)
		}
	}
}

func TestWhatIsNotHeldIsNotAnswered(t *testing.T) {
	for _, s := range append(eachKind(), api.State{Is: -1}, api.State{Is: 6}, api.State{Is: lowest, Token: 7}, api.State{Is: highest, Token: 7}, api.State{Is: api.SDue, Token: 7}) {
		if s.Is == api.SHeld {
			continue
		}
		for _, now := range times() {
			if g, e := Beat(plain(), s, now); g != (api.State{}) || e != api.ErrToken {
				t.Errorf("Beat(%#v, %d) = %#v, %d", s, now, g, e)
			}
			if g, e := Fail(plain(), s, now); g != (api.State{}) || e != api.ErrToken {
				t.Errorf("Fail(%#v, %d) = %#v, %d", s, now, g, e)
			}
		}
		if g, e := Done(plain(), s, "ok"); g != (api.State{}) || e != api.ErrToken {
			t.Errorf("Done(%#v) = %#v, %d", s, g, e)
		}
	}
}

// P18.4

func TestExpire(t *testing.T) {
	last := api.State{Is: api.SHeld, Tried: 2, Due: 15, Token: 7}
	endless := api.State{Is: api.SHeld, Tried: 1, Due: 1 << 40, Token: 7}
	atOnce := api.State{Is: api.SHeld, Tried: 1, Token: 7}
	again := api.State{Is: api.SDue, Tried: 1, Due: 18}
	for _, c := range []struct {
		name string
		s    api.State
		now  int
		want api.State
	}{
		{"one ahead of Due", held(), 14, held()},
		{"at Due", held(), 15, again},
		{"one behind Due", held(), 16, again},
		{"long behind Due", held(), 1 << 30, again},
		{"at the end of time", held(), 1 << 40, again},
		{"at the greatest number", held(), highest, again},
		{"at 0", held(), 0, held()},
		{"ahead of all time", held(), -1, held()},
		{"at the lowest number", held(), lowest, held()},
		{"the last try, one ahead of Due", last, 14, last},
		{"the last try, at Due", last, 15, api.State{Is: api.SLost, Tried: 2}},
		{"the last try, behind Due", last, 99, api.State{Is: api.SLost, Tried: 2}},
		{"due at 0, ahead of all time", atOnce, -5, api.State{Is: api.SDue, Tried: 1, Due: 3}},
		{"due at 0, at 0", atOnce, 0, api.State{Is: api.SDue, Tried: 1, Due: 3}},
		{"due at the end of time, one ahead", endless, 1<<40 - 1, endless},
		{"due at the end of time, there", endless, 1 << 40, api.State{Is: api.SDue, Tried: 1, Due: 1 << 40}},
		{"due at the end of time, behind it", endless, 1<<40 + 1, api.State{Is: api.SDue, Tried: 1, Due: 1 << 40}},
	} {
		if s := Expire(plain(), c.s, c.now); s != c.want {
			t.Errorf("%s: %#v; want %#v", c.name, s, c.want)
		}
	}
	for _, s := range append(eachKind(), api.State{Is: -1}, api.State{Is: 6}, api.State{Is: 6, Tried: 1, Due: 15, Token: 7}) {
		for _, now := range times() {
			if g := Expire(plain(), s, now); s.Is != api.SHeld && g != s {
				t.Errorf("Expire(%#v, %d) = %#v", s, now, g)
			}
		}
	}
}

func TestCancel(t *testing.T) {
	want := []api.State{
		{Is: api.SGone},
		{Is: api.SGone, Tried: 1},
		{Is: api.SGone, Tried: 1},
		{Is: api.SDone, Tried: 1, Result: "ok"},
		{Is: api.SLost, Tried: 2},
		{Is: api.SGone, Tried: 1},
	}
	for i, s := range eachKind() {
		if g := Cancel(s); g != want[i] {
			t.Errorf("Cancel(%#v) = %#v; want %#v", s, g, want[i])
		}
	}
	for _, s := range []api.State{{Is: -1, Due: 3, Token: 7}, {Is: 6, Due: 3, Token: 7}, {Is: highest, Due: 3, Token: 7}, {Is: lowest, Due: 3, Token: 7}} {
		if g := Cancel(s); g != s {
			t.Errorf("Cancel(%#v) = %#v", s, g)
		}
	}
}

// P18.5

func TestPutAndGet(t *testing.T) {
	for _, c := range []struct {
		s     api.State
		bytes string
	}{
		{api.State{}, "\x00\x00" + "\x00\x00\x00\x00\x00\x00" + "\x00\x00\x00\x00\x00\x00" + "\x00\x00"},
		{api.State{Is: api.SDue, Tried: 7, Due: 258}, "\x01\x07" + "\x00\x00\x00\x00\x01\x02" + "\x00\x00\x00\x00\x00\x00" + "\x00\x00"},
		{held(), "\x02\x01" + "\x00\x00\x00\x00\x00\x0f" + "\x00\x00\x00\x00\x00\x07" + "\x00\x00"},
		{api.State{Is: api.SHeld, Tried: 8, Due: 1 << 40, Token: 1 << 40}, "\x02\x08" + "\x01\x00\x00\x00\x00\x00" + "\x01\x00\x00\x00\x00\x00" + "\x00\x00"},
		{api.State{Is: api.SHeld, Due: 0x0012345678, Token: 0x00fedcba98}, "\x02\x00" + "\x00\x00\x12\x34\x56\x78" + "\x00\x00\xfe\xdc\xba\x98" + "\x00\x00"},
		{api.State{Is: api.SDone, Tried: 1, Result: "ok"}, "\x03\x01" + "\x00\x00\x00\x00\x00\x00" + "\x00\x00\x00\x00\x00\x00" + "\x00\x02ok"},
		{api.State{Is: api.SDone, Tried: 1, Due: 9, Result: strings.Repeat("\xff", 16)}, "\x03\x01" + "\x00\x00\x00\x00\x00\x09" + "\x00\x00\x00\x00\x00\x00" + "\x00\x10" + strings.Repeat("\xff", 16)},
		{api.State{Is: api.SLost, Tried: 2}, "\x04\x02" + "\x00\x00\x00\x00\x00\x00" + "\x00\x00\x00\x00\x00\x00" + "\x00\x00"},
		{api.State{Is: api.SGone}, "\x05\x00" + "\x00\x00\x00\x00\x00\x00" + "\x00\x00\x00\x00\x00\x00" + "\x00\x00"},
	} {
		if b, e := Put(c.s); b != c.bytes || e != api.OK {
			t.Errorf("Put(%#v) = %x, %d; want %x", c.s, b, e, c.bytes)
		}
		if s, e := Get(c.bytes); s != c.s || e != api.OK {
			t.Errorf("Get(%x) = %#v, %d; want %#v", c.bytes, s, e, c.s)
		}
	}
}

// May stand is asked, not whether it may be: that hangs on a task, which Put and Get do not know.
func TestPutOfWhatMayNotStand(t *testing.T) {
	for _, s := range []api.State{
		{Is: -1}, {Is: 6}, {Is: 255}, {Is: 256}, {Is: lowest}, {Is: highest},
		{Tried: -1}, {Tried: 9}, {Is: api.SGone, Tried: 255}, {Tried: 256}, {Tried: lowest}, {Tried: highest},
		{Due: -1}, {Due: 1<<40 + 1}, {Due: 1<<48 - 1}, {Due: 1 << 48}, {Due: lowest}, {Due: highest},
		{Token: 1}, {Token: -1}, {Is: api.SDue, Token: 1 << 40}, {Is: api.SDone, Token: 1}, {Is: api.SLost, Token: 1}, {Is: api.SGone, Token: 1},
		{Is: api.SHeld}, {Is: api.SHeld, Token: -1}, {Is: api.SHeld, Token: 1<<40 + 1}, {Is: api.SHeld, Token: highest}, {Is: api.SHeld, Token: lowest},
		{Result: "r"}, {Is: api.SDue, Result: "r"}, {Is: api.SHeld, Token: 1, Result: "r"}, {Is: api.SLost, Result: "r"}, {Is: api.SGone, Result: "\x00"},
		{Is: api.SDone, Result: strings.Repeat("r", 17)}, {Is: api.SDone, Result: strings.Repeat("r", 65536)}, {Is: 6, Result: strings.Repeat("r", 65536)},
	} {
		if b, e := Put(s); b != "" || e != api.ErrArg {
			t.Errorf("Put(%d, %d, %d, %d, %d bytes) = %x, %d", s.Is, s.Tried, s.Due, s.Token, len(s.Result), b, e)
		}
	}
}

func TestGetOfWrongBytes(t *testing.T) {
	const (
		times = "\x00\x00\x00\x00\x00\x00\x00\x00\x00\x00\x00\x00"
		late  = "\x01\x00\x00\x00\x00\x01\x00\x00\x00\x00\x00\x00"
		seven = "\x00\x00\x00\x00\x00\x00\x00\x00\x00\x00\x00\x07"
		alien = "\x00\x00\x00\x00\x00\x00\x01\x00\x00\x00\x00\x01"
		most  = "\xff\xff\xff\xff\xff\xff\xff\xff\xff\xff\xff\xff"
	)
	for _, c := range []struct {
		name  string
		bytes string
		why   api.Errno
	}{
		{"none", "", api.ErrShort},
		{"a kind alone", "\x00", api.ErrShort},
		{"without times", "\x00\x00", api.ErrShort},
		{"a Due that is cut off", "\x00\x00" + times[:5], api.ErrShort},
		{"without a Token", "\x00\x00" + times[:6], api.ErrShort},
		{"a Token that is cut off", "\x00\x00" + times[:11], api.ErrShort},
		{"without a Result", "\x00\x00" + times, api.ErrShort},
		{"a length that is cut off", "\x00\x00" + times + "\x00", api.ErrShort},
		{"a Result that is cut off", "\x03\x01" + times + "\x00\x03ok", api.ErrShort},
		{"a length that is too great", "\x03\x01" + times + "\xff\xffok", api.ErrShort},
		{"a length that is too small", "\x03\x01" + times + "\x00\x01ok", api.ErrForm},
		{"a byte behind", "\x00\x00" + times + "\x00\x00\x00", api.ErrForm},
		{"a byte behind a Result", "\x03\x01" + times + "\x00\x02ok\x00", api.ErrForm},
		{"a Result of 17 bytes", "\x03\x01" + times + "\x00\x11" + strings.Repeat("r", 17), api.ErrForm},
		{"a Result of 65535 bytes", "\x03\x01" + times + "\xff\xff" + strings.Repeat("r", 65535), api.ErrForm},
		{"a Result of what is not done", "\x01\x01" + times + "\x00\x02ok", api.ErrForm},
		{"kind 6", "\x06\x00" + times + "\x00\x00", api.ErrForm},
		{"kind 255", "\xff\x00" + times + "\x00\x00", api.ErrForm},
		{"kind 6 with a Token", "\x06\x01" + seven + "\x00\x00", api.ErrForm},
		{"tried 9 times", "\x05\x09" + times + "\x00\x00", api.ErrForm},
		{"tried 255 times", "\x05\xff" + times + "\x00\x00", api.ErrForm},
		{"Due behind the end of time", "\x01\x00" + late + "\x00\x00", api.ErrForm},
		{"held without a Token", "\x02\x01" + times + "\x00\x00", api.ErrForm},
		{"held with a Token behind the last one", "\x02\x01" + alien + "\x00\x00", api.ErrForm},
		{"a Token of what is not held", "\x01\x01" + seven + "\x00\x00", api.ErrForm},
		{"all bits set", "\xff\xff" + most + "\x00\x00", api.ErrForm},

		// Both errors: that of the bytes comes first.
		{"kind 6, cut off", "\x06\x00" + times + "\x00", api.ErrShort},
		{"kind 255 alone", "\xff", api.ErrShort},
		{"tried 9 times, cut off", "\x05\x09", api.ErrShort},
		{"all bits set, cut off", "\xff\xff" + most + "\xff\xff", api.ErrShort},
		{"held without a Token, a Result that is cut off", "\x02\x01" + times + "\x00\x01", api.ErrShort},
	} {
		if s, e := Get(c.bytes); s != (api.State{}) || e != c.why {
			t.Errorf("%s: %#v, %d; want %d", c.name, s, e, c.why)
		}
	}
}
