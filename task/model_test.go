package task

import (
	"math"
	"slices"
	"strings"
	"testing"

	"penelope/api"
)

const (
	lowest  = math.MinInt
	highest = math.MaxInt
	end     = 1 << 40 // the last time, and the last token
)

// noise tells numbers that look like no pattern, the same ones each time.
type noise uint32

func (n *noise) below(limit int) int {
	*n = *n*1664525 + 1013904223
	return int(uint32(*n)>>8) % limit
}

// The chapter's words, said one by one.

func mayStandAsWritten(s api.State) bool {
	if s.Is < 0 || s.Is > 5 {
		return false
	}
	if s.Tried < 0 || s.Tried > 8 {
		return false
	}
	if s.Due < 0 || s.Due > end {
		return false
	}
	if s.Token < 0 || s.Token > end || s.Is == 2 && s.Token == 0 || s.Is != 2 && s.Token != 0 {
		return false
	}
	return len(s.Result) <= 16 && (s.Is == 3 || s.Result == "")
}

func right(t api.Task, s api.State) bool {
	if !mayStandAsWritten(s) || s.Tried > t.Tries {
		return false
	}
	if s.Is == 0 && (s.Tried != 0 || s.Due != 0) {
		return false
	}
	if s.Is == 1 && s.Tried >= t.Tries {
		return false
	}
	if (s.Is == 2 || s.Is == 3) && s.Tried < 1 {
		return false
	}
	if s.Is == 4 && s.Tried != t.Tries {
		return false
	}
	return s.Is < 3 || s.Due == 0
}

// counted is a time as it counts.
func counted(t int) int {
	if t < 0 {
		return 0
	}
	if t > end {
		return end
	}
	return t
}

// later is a time and how long behind it.
func later(now, by int) int { return counted(counted(now) + counted(by)) }

// pause is how long a task waits behind so many failures.
func pause(wait, tried int) int {
	if wait < 1 || tried < 1 {
		return 0
	}
	for i := 1; i < tried && wait < 1<<20; i++ {
		wait *= 2
	}
	if wait > 1<<20 {
		return 1 << 20
	}
	return wait
}

func ready(s api.State) api.State {
	if s.Is == 0 {
		return api.State{Is: 1, Tried: s.Tried, Due: s.Due, Token: s.Token, Result: s.Result}
	}
	return s
}

func lease(t api.Task, s api.State, now, token int) (api.State, api.Errno) {
	switch {
	case token < 1 || token > end:
		return api.State{}, 1
	case s.Is != 1 || s.Due > counted(now):
		return api.State{}, 192
	}
	return api.State{Is: 2, Tried: s.Tried + 1, Due: later(now, t.Lease), Token: token, Result: s.Result}, 0
}

func beat(t api.Task, s api.State, now int) (api.State, api.Errno) {
	if s.Is != 2 {
		return api.State{}, 191
	}
	return api.State{Is: 2, Tried: s.Tried, Due: later(now, t.Lease), Token: s.Token, Result: s.Result}, 0
}

func done(s api.State, result string) (api.State, api.Errno) {
	switch {
	case s.Is != 2:
		return api.State{}, 191
	case len(result) > 16:
		return api.State{}, 1
	}
	return api.State{Is: 3, Tried: s.Tried, Result: result}, 0
}

func fail(t api.Task, s api.State, now int) (api.State, api.Errno) {
	switch {
	case s.Is != 2:
		return api.State{}, 191
	case s.Tried >= t.Tries:
		return api.State{Is: 4, Tried: s.Tried, Result: s.Result}, 0
	}
	return api.State{Is: 1, Tried: s.Tried, Due: later(now, pause(t.Wait, s.Tried)), Result: s.Result}, 0
}

func expire(t api.Task, s api.State, now int) api.State {
	if s.Is == 2 && s.Due <= counted(now) {
		s, _ = fail(t, s, s.Due)
	}
	return s
}

func cancel(s api.State) api.State {
	if s.Is == 0 || s.Is == 1 || s.Is == 2 {
		return api.State{Is: 5, Tried: s.Tried, Result: s.Result}
	}
	return s
}

// laid is the bytes of what may stand, and of what may not, as far as it has room in its bytes.
func laid(s api.State) string {
	b := []byte{byte(s.Is), byte(s.Tried)}
	for _, n := range []int{s.Due, s.Token} {
		b = append(b, byte(n>>40), byte(n>>32), byte(n>>24), byte(n>>16), byte(n>>8), byte(n))
	}
	b = append(b, byte(len(s.Result)>>8), byte(len(s.Result)))
	return string(b) + s.Result
}

// got is Get word for word.
func got(bytes string) (api.State, api.Errno) {
	if len(bytes) < 16 {
		return api.State{}, 3
	}
	number := func(b string) int {
		n := 0
		for i := range len(b) {
			n = 256*n + int(b[i])
		}
		return n
	}
	result := bytes[16:]
	size := number(bytes[14:16])
	if size > len(result) {
		return api.State{}, 3
	}
	s := api.State{Is: int(bytes[0]), Tried: int(bytes[1]), Due: number(bytes[2:8]), Token: number(bytes[8:14]), Result: result[:size]}
	if size < len(result) || !mayStandAsWritten(s) {
		return api.State{}, 4
	}
	return s, 0
}

// Arguments at the edges that the chapter names, and beyond them.

func kinds() []int { return []int{lowest, -1, 0, 1, 2, 3, 4, 5, 6, 256, highest} }

func counts() []int { return []int{lowest, -1, 0, 1, 2, 6, 7, 8, 9, 256, highest} }

func times() []int {
	return []int{lowest, -1, 0, 1, 9, 10, 11, 1 << 20, end - 1, end, end + 1, highest}
}

func tokens() []int { return []int{lowest, -1, 0, 1, 7, end - 1, end, end + 1, highest} }

func results() []string {
	return []string{"", "\x00", "done", strings.Repeat("r", 16), strings.Repeat("r", 17), strings.Repeat("ü", 8), strings.Repeat("ü", 9), strings.Repeat("\x00", 256)}
}

// tasks are those of graphs that may be, and others.
func tasks() []api.Task {
	return append(plainTasks(),
		api.Task{Tries: 0, Wait: 0, Lease: 0},
		api.Task{Tries: -1, Wait: -1, Lease: -1},
		api.Task{Tries: 9, Wait: 1<<20 + 1, Lease: 1<<20 + 1},
		api.Task{Tries: highest, Wait: highest, Lease: highest},
		api.Task{Tries: lowest, Wait: lowest, Lease: lowest},
	)
}

// plainTasks may be in a graph.
func plainTasks() []api.Task {
	return []api.Task{
		{Tries: 2, Wait: 3, Lease: 5},
		{Tries: 1, Wait: 0, Lease: 1},
		{Tries: 1, Wait: 1 << 20, Lease: 1 << 20},
		{Tries: 3, Wait: 0, Lease: 10},
		{Tries: 7, Wait: 1, Lease: 1},
		{Tries: 8, Wait: 1, Lease: 2, Needs: []int{0, 1}},
		{Tries: 8, Wait: 1 << 20, Lease: 1 << 20},
	}
}

// states calls f with what may stand and what may not, at all edges together.
func states(f func(api.State)) {
	for _, is := range kinds() {
		for _, tried := range counts() {
			for _, due := range times() {
				for _, token := range tokens() {
					for _, result := range results() {
						f(api.State{Is: is, Tried: tried, Due: due, Token: token, Result: result})
					}
				}
			}
		}
	}
}

// standing are all of these that may stand.
func standing() []api.State {
	var all []api.State
	states(func(s api.State) {
		if mayStandAsWritten(s) {
			all = append(all, s)
		}
	})
	return all
}

// odd are some of those that may not, each by one fault or more.
func odd() []api.State {
	var all []api.State
	n := noise(18)
	states(func(s api.State) {
		if !mayStandAsWritten(s) && n.below(97) == 0 {
			all = append(all, s)
		}
	})
	return all
}

// asked are the states that the calls are asked about.
func asked() []api.State { return append(standing(), odd()...) }

// The calls are held against these words, at all edges together.

func TestRightIsAsWritten(t *testing.T) {
	may := 0
	for _, task := range tasks() {
		states(func(s api.State) {
			want := right(task, s)
			if Right(task, s) != want {
				t.Fatalf("Right(%v, %#v) = %t", task, s, !want)
			}
			if want {
				may++
			}
		})
	}
	if may < 1000 {
		t.Errorf("only %d of them may be", may)
	}
}

func TestLeaseIsAsWritten(t *testing.T) {
	for _, task := range tasks() {
		for _, s := range asked() {
			for _, now := range append(times(), s.Due-1, s.Due, s.Due+1) {
				for _, token := range tokens() {
					g, e := Lease(task, s, now, token)
					if want, why := lease(task, s, now, token); g != want || e != why {
						t.Fatalf("Lease(%v, %#v, %d, %d) = %#v, %d; want %#v, %d", task, s, now, token, g, e, want, why)
					}
				}
			}
		}
	}
}

func TestBeatFailAndExpireAreAsWritten(t *testing.T) {
	for _, task := range tasks() {
		for _, s := range asked() {
			for _, now := range append(times(), s.Due-1, s.Due, s.Due+1) {
				g, e := Beat(task, s, now)
				if want, why := beat(task, s, now); g != want || e != why {
					t.Fatalf("Beat(%v, %#v, %d) = %#v, %d; want %#v, %d", task, s, now, g, e, want, why)
				}
				g, e = Fail(task, s, now)
				if want, why := fail(task, s, now); g != want || e != why {
					t.Fatalf("Fail(%v, %#v, %d) = %#v, %d; want %#v, %d", task, s, now, g, e, want, why)
				}
				if g, want := Expire(task, s, now), expire(task, s, now); g != want {
					t.Fatalf("Expire(%v, %#v, %d) = %#v; want %#v", task, s, now, g, want)
				}
			}
		}
	}
}

func TestDoneIsAsWritten(t *testing.T) {
	for _, task := range tasks() {
		for _, s := range asked() {
			for _, result := range append(results(), strings.Repeat("r", 65536)) {
				g, e := Done(task, s, result)
				if want, why := done(s, result); g != want || e != why {
					t.Fatalf("Done(%v, %#v, %d bytes) = %#v, %d; want %#v, %d", task, s, len(result), g, e, want, why)
				}
			}
		}
	}
}

func TestReadyAndCancelAreAsWritten(t *testing.T) {
	states(func(s api.State) {
		if g, want := Ready(s), ready(s); g != want {
			t.Fatalf("Ready(%#v) = %#v; want %#v", s, g, want)
		}
		if g, want := Cancel(s), cancel(s); g != want {
			t.Fatalf("Cancel(%#v) = %#v; want %#v", s, g, want)
		}
	})
}

func TestPutIsAsWritten(t *testing.T) {
	states(func(s api.State) {
		want, why := "", api.Errno(1)
		if mayStandAsWritten(s) {
			want, why = laid(s), 0
		}
		if b, e := Put(s); b != want || e != why {
			t.Fatalf("Put(%#v) = %x, %d; want %x, %d", s, b, e, want, why)
		}
	})
}

// holdGet holds Get of bytes against the chapter's words, and what is got against the bytes.
func holdGet(t *testing.T, bytes string) {
	t.Helper()
	s, e := Get(bytes)
	if want, why := got(bytes); s != want || e != why {
		t.Fatalf("Get(%x) = %#v, %d; want %#v, %d", bytes, s, e, want, why)
	}
	if e != api.OK {
		return
	}
	if b, e := Put(s); b != bytes || e != api.OK {
		t.Fatalf("%x was got, and put: %x, %d", bytes, b, e)
	}
}

// Bytes of what has room in them, whether it may stand or not; cut off anywhere, with others behind them, and with one byte changed to any other.
func TestGetIsAsWritten(t *testing.T) {
	for _, is := range []int{0, 1, 2, 3, 4, 5, 6, 7, 255} {
		for _, tried := range []int{0, 1, 8, 9, 255} {
			for _, due := range []int{0, 1, end - 1, end, end + 1, 1<<48 - 1} {
				for _, token := range []int{0, 1, end, end + 1, 1<<48 - 1} {
					for _, result := range results() {
						b := laid(api.State{Is: is, Tried: tried, Due: due, Token: token, Result: result})
						holdGet(t, b)
						holdGet(t, b[:len(b)-1])
						holdGet(t, b+"\x00")
					}
				}
			}
		}
	}
}

func TestGetOfBytesThatWereSpoiled(t *testing.T) {
	n := noise(5)
	few := slices.DeleteFunc(standing(), func(api.State) bool { return n.below(11) != 0 })
	for _, s := range few {
		b := laid(s)
		for size := range len(b) {
			holdGet(t, b[:size])
		}
		for _, behind := range []string{"\x00", "\x01", "\xff", "behind", b} {
			holdGet(t, b+behind)
		}
		for at := range len(b) {
			for other := range 256 {
				holdGet(t, b[:at]+string([]byte{byte(other)})+b[at+1:])
			}
		}
	}
}
