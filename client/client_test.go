package client_test

import (
	"slices"
	"testing"

	"carrack/api"
	"carrack/client"
	"carrack/head"
	"carrack/seg"
	"carrack/tx"
)

const largest = 1<<64 - 1

// What the document says, as numbers: also package api is asked.
const (
	clients = 8
	table   = 64
	record  = 416
	names   = 3392 // the directory, behind the last record

	all = 4800 // bytes of most segments here
	end = 4480 // where their heaps end
)

// stateAt and headAt are where a client's words should be.
func stateAt(c int) uint64 { return table + uint64(c)*record }

func headAt(c int) uint64 { return stateAt(c) + 8 }

// mixed is a number that hangs on n alone, with unlike bytes.
func mixed(n uint64) uint64 {
	n = (n + 1) * 0x9E3779B97F4A7C15
	n = (n ^ n>>31) * 0xBF58476D1CE4E5B9
	return n ^ n>>29
}

// formatted is a segment that must be one.
func formatted(t *testing.T) *seg.Seg {
	t.Helper()
	s := seg.New(all)
	if err := head.Format(s, end); err != api.OK {
		t.Fatalf("Format of %d bytes at %d: %d", all, end, err)
	}
	return s
}

// littered is a segment whose every word is another number.
func littered(t *testing.T, all uint64) *seg.Seg {
	t.Helper()
	s := seg.New(all)
	for off := uint64(0); off < all; off += 8 {
		lay(t, s, off, mixed(off)|1<<63)
	}
	return s
}

// lay stores a word in the segment itself.
func lay(t *testing.T, s *seg.Seg, off, v uint64) {
	t.Helper()
	if err := s.Store(off, v); err != api.OK {
		t.Fatalf("Store(%d) in a segment of %d bytes: %d", off, s.Size(), err)
	}
}

// nobodies are numbers of no client.
func nobodies() []int {
	l := []int{-1, -2, -7, -8, -9, -16, -416, 8, 9, 10, 15, 16, 17, 64, 255, 256, 257, 263, 416, 1 << 16, 1<<16 + 1, 1<<31 - 1, -1 << 31}
	for shift := 32; shift < 63; shift++ { // the low bits alone look like a client's
		l = append(l, 1<<shift, 1<<shift+1, 1<<shift+7, -1<<shift, -1<<shift+1, -1<<shift+7)
	}
	return append(l, 1<<63-1, -1<<63, -1<<63+1, -1<<63+7)
}

// odd are States that are none.
func odd() []uint64 {
	l := []uint64{3, 4, 5, 7, 8, 255, 256, 257, 258, 1 << 16, 1<<31 - 1, 1 << 31, 1<<32 - 1, largest, largest - 1, largest - 2, 1<<63 - 1}
	for bit := range 64 { // also if the low bits alone are those of one that is
		if bit > 1 {
			l = append(l, 1<<bit, 1<<bit+1, 1<<bit+2)
		}
	}
	return l
}

// puts asks for all words that are thought of, in turn.
func puts(t *testing.T, what string, x *tx.Tx, want ...api.Put) {
	t.Helper()
	if got := x.Puts(); !slices.Equal(got, want) {
		t.Errorf("%s: Puts: %v, not %v", what, got, want)
	}
}

// same asks whether the segment has the words that the other one has.
func same(t *testing.T, what string, s, want *seg.Seg) {
	t.Helper()
	if l := seg.Diff(s, want); len(l) > 0 {
		t.Errorf("%s: other words at %d", what, l)
	}
}

// stands asks for the words of a client's record that are told.
func stands(t *testing.T, what string, x *tx.Tx, c int, state, head uint64) {
	t.Helper()
	if got := client.State(x, c); got != state {
		t.Errorf("%s: State(%d): %d, not %d", what, c, got, state)
	}
	if got := client.Head(x, c); got != head {
		t.Errorf("%s: Head(%d): %d, not %d", what, c, got, head)
	}
}

func tells(t *testing.T, what string, x *tx.Tx, state uint64, want ...int) {
	t.Helper()
	if got := client.All(x, state); !slices.Equal(got, want) {
		t.Errorf("%s: All(%d): %v, not %v", what, state, got, want)
	}
}

// does asks what a call with a client tells.
func does(t *testing.T, what string, f func(*tx.Tx, int) api.Errno, x *tx.Tx, c int, want api.Errno) {
	t.Helper()
	if got := f(x, c); got != want {
		t.Errorf("%s: of the client %d: %d, not %d", what, c, got, want)
	}
}

// calls are those that change a State.
func calls() []func(*tx.Tx, int) api.Errno {
	return []func(*tx.Tx, int) api.Errno{client.Attach, client.Detach, client.Kill, client.Clear}
}

// wants is what calls()[call] should tell, and the State behind it, with whether it is thought of.
func wants(call int, state, head uint64) (api.Errno, uint64, bool) {
	switch {
	case call == 0 && state == 1:
		return 7, state, false // ErrThere
	case call == 0 && state != 0:
		return 13, state, false // ErrDead
	case call == 0:
		return 0, 1, true
	case call == 1 && state != 1:
		return 10, state, false // ErrClient
	case call == 1 && head != 0:
		return 11, state, false // ErrBusy
	case call == 2:
		return 0, 2, true
	}
	return 0, 0, true
}

// The states are numbered.
func TestStates(t *testing.T) {
	if client.Nobody != 0 || client.Live != 1 || client.Dead != 2 {
		t.Errorf("the states are %d, %d, %d", client.Nobody, client.Live, client.Dead)
	}
	var u uint64 = client.Dead // of any type of numbers
	var i int = client.Dead
	if u != uint64(i) {
		t.Error("Dead is two numbers")
	}
}

// P8.1, by hand
func TestWordByHand(t *testing.T) {
	for _, x := range []struct {
		c         int
		what, off uint64
	}{
		{0, 0, 64}, {0, 8, 72}, {0, 16, 80}, {0, 32, 96}, {0, 408, 472},
		{1, 0, 480}, {1, 8, 488}, {1, 408, 888}, {2, 0, 896}, {3, 24, 1336}, {4, 0, 1728}, {5, 400, 2544}, {6, 0, 2560},
		{7, 0, 2976}, {7, 8, 2984}, {7, 408, 3384},
	} {
		if off, ok := client.Word(x.c, x.what); off != x.off || !ok {
			t.Errorf("Word(%d, %d): %d, %v, not %d", x.c, x.what, off, ok, x.off)
		}
	}
}

// P8.1
func TestWord(t *testing.T) {
	for c := -300; c < 700; c++ {
		for what := range uint64(1000) {
			off, ok := client.Word(c, what)
			if c >= 0 && c <= 7 && what%8 == 0 && what < 416 {
				if want := 64 + uint64(c)*416 + what; off != want || !ok {
					t.Fatalf("Word(%d, %d): %d, %v, not %d", c, what, off, ok, want)
				}
			} else if off != 0 || ok {
				t.Fatalf("Word(%d, %d): %d, %v, not nothing", c, what, off, ok)
			}
		}
	}
}

// P8.1
func TestNoWord(t *testing.T) {
	for _, c := range nobodies() {
		for _, what := range []uint64{0, 8, 16, 32, 408, 416, 424, 7, 1 << 32, 1 << 63, largest, largest - 7, -uint64(c) * 416, -uint64(c) * 416 &^ 7} {
			if off, ok := client.Word(c, what); off != 0 || ok {
				t.Errorf("Word(%d, %d): %d, %v, not nothing", c, what, off, ok)
			}
		}
	}
	far := []uint64{1, 2, 4, 7, 9, 12, 407, 409, 412, 415, 416, 417, 424, 832, 3320, 3328, 3384, 1 << 20, 1<<32 - 8, largest - 415, largest - 71, largest - 63, largest - 8, largest - 7, largest}
	for shift := 9; shift < 64; shift++ { // the low bits alone are those of a word
		bit := uint64(1) << shift
		far = append(far, bit, bit+8, bit+408, -bit, -bit+8)
	}
	for c := range clients {
		for _, what := range append(far, -stateAt(c), -stateAt(c)+8, -uint64(c)*416-8, -uint64(c)*416-64) {
			if off, ok := client.Word(c, what); off != 0 || ok {
				t.Errorf("Word(%d, %d): %d, %v, not nothing", c, what, off, ok)
			}
		}
	}
}

// P8.3: no two clients' words are the same, and all stand between the head and the directory; there is none over.
func TestWordsApart(t *testing.T) {
	seen := map[uint64]int{}
	for c := range clients {
		for what := uint64(0); what < record; what += 8 {
			off, ok := client.Word(c, what)
			if !ok || off < table || off >= names || off%8 != 0 {
				t.Errorf("Word(%d, %d): %d, %v", c, what, off, ok)
			}
			if b, ok := seen[off]; ok {
				t.Errorf("the word at %d is one of the clients %d and %d", off, b, c)
			}
			seen[off] = c
		}
	}
	if n := (names - table) / 8; len(seen) != n {
		t.Errorf("%d words, not %d", len(seen), n)
	}
}

// P8.1: State and Head are these two words alone, as they are thought of.
func TestStateAndHead(t *testing.T) {
	s := littered(t, all)
	x := tx.New(s)
	for c := range clients {
		stands(t, "littered", x, c, mixed(stateAt(c))|1<<63, mixed(headAt(c))|1<<63)
	}
	for c := range clients {
		for _, v := range append(odd(), 0, 1, 2) {
			x.Store(stateAt(c), v)
			x.Store(headAt(c), ^v)
			stands(t, "thought of", x, c, v, ^v)
			stands(t, "of another Tx", tx.New(s), c, mixed(stateAt(c))|1<<63, mixed(headAt(c))|1<<63)
		}
	}
	lay(t, s, 480, 2)
	lay(t, s, 488, 3776)
	stands(t, "laid", tx.New(s), 1, 2, 3776)
	stands(t, "still thought of", x, 1, 2, largest-2)
}

// P8.1: of nobody it is 0, whatever stands in the segment, the head's first word among it.
func TestOfNobody(t *testing.T) {
	for _, s := range []*seg.Seg{littered(t, all), formatted(t), littered(t, 8)} {
		was := s.Copy()
		x := tx.New(s)
		x.Store(0, 1)
		x.Store(8, 1)
		for _, c := range nobodies() {
			stands(t, "nobody", x, c, 0, 0)
			for _, off := range []uint64{0, 1, 3776, largest} {
				client.Point(x, c, off)
			}
			for _, f := range calls() {
				does(t, "nobody", f, x, c, api.ErrArg)
			}
			stands(t, "nobody", x, c, 0, 0)
		}
		if s.Size() > 8 {
			puts(t, "nobody", x, api.Put{Off: 0, V: 1}, api.Put{Off: 8, V: 1})
		} else {
			puts(t, "nobody", x, api.Put{Off: 0, V: 1})
		}
		same(t, "nobody", s, was)
	}
}

// P8.1
func TestPoint(t *testing.T) {
	for c := range clients {
		s := formatted(t)
		was := s.Copy()
		x := tx.New(s)
		client.Point(x, c, 0) // as it is already
		puts(t, "as it is", x, api.Put{Off: headAt(c)})
		for _, off := range []uint64{3776, 3824, 3776, 0, 1, 7, all, all + 8, 1 << 32, 1 << 63, largest, largest, 4000} { // any number
			client.Point(x, c, off)
			stands(t, "it points", x, c, 0, off)
			puts(t, "it points", x, api.Put{Off: headAt(c), V: off})
			for d := range clients {
				if d != c {
					stands(t, "another one", x, d, 0, 0)
				}
			}
		}
		same(t, "not applied", s, was)
		x.Apply()
		lay(t, was, headAt(c), 4000)
		same(t, "applied", s, was)
		stands(t, "applied", tx.New(s), c, 0, 4000)
	}
}

// P8.1: all, by hand
func TestAllByHand(t *testing.T) {
	s := formatted(t)
	x := tx.New(s)
	tells(t, "formatted", x, client.Nobody, 0, 1, 2, 3, 4, 5, 6, 7)
	tells(t, "formatted", x, client.Live)
	tells(t, "formatted", x, client.Dead)
	for _, c := range []int{7, 0, 4} { // in no turn
		does(t, "Attach", client.Attach, x, c, api.OK)
	}
	does(t, "Kill", client.Kill, x, 5, api.OK)
	does(t, "Kill", client.Kill, x, 2, api.OK)
	x.Store(64+3*416, 9)
	tells(t, "some", x, client.Nobody, 1, 6)
	tells(t, "some", x, client.Live, 0, 4, 7)
	tells(t, "some", x, client.Dead, 2, 5)
	tells(t, "some", x, 9, 3)
	for _, state := range []uint64{3, 8, 10, 1<<32 + 1, 1 << 63, 1<<63 + 1, largest} {
		tells(t, "some", x, state)
	}
	tells(t, "in the segment", tx.New(s), client.Nobody, 0, 1, 2, 3, 4, 5, 6, 7)
	for c := range clients {
		client.Kill(x, c)
	}
	tells(t, "all are", x, client.Dead, 0, 1, 2, 3, 4, 5, 6, 7)
	tells(t, "all are", x, client.Nobody)
	tells(t, "all are", x, client.Live)
}

// P8.1: all clients of each State, whichever have it.
func TestAll(t *testing.T) {
	for n := range uint64(6561) { // 3 to the 8th
		x := tx.New(seg.New(names))
		var want [3][]int
		for c, m := 0, n; c < clients; c, m = c+1, m/3 {
			x.Store(stateAt(c), m%3)
			want[m%3] = append(want[m%3], c)
		}
		was := x.Puts()
		for state, l := range want {
			tells(t, "each", x, uint64(state), l...)
		}
		tells(t, "each", x, 3)
		puts(t, "each", x, was...)
	}
}

// P8.1: any States, also such as are none: each client is told once.
func TestAllOfAnyState(t *testing.T) {
	x := tx.New(littered(t, all))
	for c := range clients {
		tells(t, "littered", x, mixed(stateAt(c))|1<<63, c)
		tells(t, "the head isn't asked", x, mixed(headAt(c))|1<<63)
		tells(t, "the low bits alone", x, mixed(stateAt(c))&^(1<<63))
	}
	for state := range uint64(3) {
		tells(t, "littered", x, state)
	}
	for _, state := range odd() {
		x.Store(stateAt(6), state)
		x.Store(stateAt(2), state)
		tells(t, "two of them", x, state, 2, 6)
	}
}

// R3: what is told is the caller's own.
func TestAllIsTheCallers(t *testing.T) {
	x := tx.New(formatted(t))
	a := client.All(x, client.Nobody)
	for i := range a {
		a[i] = 5
	}
	_ = append(a[:2], 9, 9, 9)
	tells(t, "again", x, client.Nobody, 0, 1, 2, 3, 4, 5, 6, 7)
	b, c := client.All(x, client.Nobody), client.All(x, client.Nobody)
	b[0] = 7
	if c[0] != 0 {
		t.Error("two that are told are one")
	}
}

// P8.2, by hand
func TestByHand(t *testing.T) {
	s := formatted(t)
	was := s.Copy()
	x := tx.New(s)
	does(t, "Attach", client.Attach, x, 1, api.OK)
	puts(t, "Attach", x, api.Put{Off: 480, V: 1})
	does(t, "Attach again", client.Attach, x, 1, api.ErrThere)
	does(t, "Detach of another one", client.Detach, x, 2, api.ErrClient)
	puts(t, "refused", x, api.Put{Off: 480, V: 1})
	client.Point(x, 1, 3776)
	does(t, "Detach with a block", client.Detach, x, 1, api.ErrBusy)
	stands(t, "with a block", x, 1, client.Live, 3776)
	client.Point(x, 1, 0)
	does(t, "Detach", client.Detach, x, 1, api.OK)
	puts(t, "Detach", x, api.Put{Off: 480}, api.Put{Off: 488})
	does(t, "Detach again", client.Detach, x, 1, api.ErrClient)
	does(t, "Kill", client.Kill, x, 1, api.OK)
	does(t, "Attach of a dead one", client.Attach, x, 1, api.ErrDead)
	does(t, "Detach of a dead one", client.Detach, x, 1, api.ErrClient)
	puts(t, "dead", x, api.Put{Off: 480, V: 2}, api.Put{Off: 488})
	does(t, "Clear", client.Clear, x, 1, api.OK)
	does(t, "Attach of a cleared one", client.Attach, x, 1, api.OK)
	same(t, "not applied", s, was)
	x.Apply()
	lay(t, was, 480, 1)
	same(t, "applied", s, was)
}

// P8.2: each call, of each client, of each State and Head: what is told, and that this word alone is thought of, also where it is so already.
func TestEachCall(t *testing.T) {
	other := littered(t, all)
	for call, f := range calls() {
		for c := range clients {
			for _, state := range append([]uint64{0, 1, 2}, odd()...) {
				for _, head := range []uint64{0, 1, 3776, 1 << 32, 1 << 63, largest} {
					s := other.Copy()
					lay(t, s, stateAt(c), state)
					lay(t, s, headAt(c), head)
					was := s.Copy()
					x := tx.New(s)
					err, now, stored := wants(call, state, head)
					does(t, "each call", f, x, c, err)
					if stored {
						puts(t, "each call", x, api.Put{Off: stateAt(c), V: now})
					} else {
						puts(t, "each call", x)
					}
					stands(t, "each call", x, c, now, head)
					same(t, "each call", s, was)
					if t.Failed() {
						t.Fatalf("the call %d of the client %d, whose State is %d, and Head %d", call, c, state, head)
					}
				}
			}
		}
	}
}

// P8.2: what is thought of is asked, not what stands in the segment.
func TestAsksWhatIsThought(t *testing.T) {
	s := formatted(t)
	for call, f := range calls() {
		for _, below := range []uint64{0, 1, 2, 3} {
			for _, state := range []uint64{0, 1, 2, 3} {
				for _, head := range []uint64{0, 3776} {
					lay(t, s, stateAt(6), below)
					lay(t, s, headAt(6), 3776-head)
					x := tx.New(s)
					x.Store(headAt(6), head)
					x.Store(stateAt(6), state)
					err, now, _ := wants(call, state, head)
					does(t, "thought of", f, x, 6, err)
					puts(t, "thought of", x, api.Put{Off: headAt(6), V: head}, api.Put{Off: stateAt(6), V: now})
				}
			}
		}
	}
}

// P8.2: of an own word Kill and Clear don't ask, and never what another client is.
func TestOfWhateverState(t *testing.T) {
	for c := range clients {
		x := tx.New(littered(t, all))
		does(t, "Kill", client.Kill, x, c, api.OK)
		does(t, "Kill again", client.Kill, x, c, api.OK)
		puts(t, "Kill", x, api.Put{Off: stateAt(c), V: 2})
		does(t, "Clear", client.Clear, x, c, api.OK)
		does(t, "Clear again", client.Clear, x, c, api.OK)
		puts(t, "Clear", x, api.Put{Off: stateAt(c)})
		does(t, "Attach", client.Attach, x, c, api.OK) // its Head isn't asked
		does(t, "Detach", client.Detach, x, c, api.ErrBusy)
		puts(t, "Attach", x, api.Put{Off: stateAt(c), V: 1})
	}
}

// P8.3: what is done to one client changes no other one, and no word beside it: calls of any turn, against plain numbers.
func TestAnyTurn(t *testing.T) {
	for n := range uint64(60) {
		s := formatted(t)
		was := s.Copy()
		x := tx.New(s)
		var state, head [clients]uint64
		var want []api.Put
		think := func(off, v uint64) {
			i := slices.IndexFunc(want, func(p api.Put) bool { return p.Off == off })
			if i < 0 {
				i = len(want)
				want = append(want, api.Put{Off: off})
			}
			want[i].V = v
		}
		for k := range uint64(100) {
			m := mixed(n<<20 + k)
			c := int(m >> 8 % 8)
			switch call := int(m % 6); call {
			case 4:
				head[c] = m >> 40 % 2 * 3776
				client.Point(x, c, head[c])
				think(headAt(c), head[c])
			case 5:
				x.Apply()
				for _, p := range want {
					lay(t, was, p.Off, p.V)
				}
				x, want = x.Bare(), nil
			default:
				err, now, stored := wants(call, state[c], head[c])
				does(t, "in any turn", calls()[call], x, c, err)
				state[c] = now
				if stored {
					think(stateAt(c), now)
				}
			}
			puts(t, "in any turn", x, want...)
			same(t, "in any turn", s, was)
			for d := range clients {
				stands(t, "in any turn", x, d, state[d], head[d])
			}
			for v := range uint64(3) {
				var l []int
				for d := range clients {
					if state[d] == v {
						l = append(l, d)
					}
				}
				tells(t, "in any turn", x, v, l...)
			}
			if t.Failed() {
				t.Fatalf("turn %d, call %d", n, k)
			}
		}
	}
}

// P8.1: what is asked isn't thought of.
func TestAskingChangesNothing(t *testing.T) {
	s := littered(t, all)
	was := s.Copy()
	x := tx.New(s)
	for c := -10; c < 20; c++ {
		client.State(x, c)
		client.Head(x, c)
		client.All(x, uint64(c))
	}
	puts(t, "asked", x)
	x.Store(480, 5)
	client.State(x, 1)
	client.All(x, 5)
	puts(t, "asked", x, api.Put{Off: 480, V: 5})
	same(t, "asked", s, was)
}

// P8.2: two over one segment don't know of each other.
func TestTwo(t *testing.T) {
	s := formatted(t)
	a, b := tx.New(s), tx.New(s)
	does(t, "the one", client.Attach, a, 3, api.OK)
	does(t, "the other", client.Detach, b, 3, api.ErrClient)
	does(t, "the other", client.Kill, b, 3, api.OK)
	tells(t, "the one", a, client.Live, 3)
	tells(t, "the other", b, client.Live)
	a.Apply()
	stands(t, "the other", b, 3, client.Dead, 0)
	stands(t, "a third", tx.New(s), 3, client.Live, 0)
}

// P8.2: nobody's Tx: its words are 0, and stay.
func TestNil(t *testing.T) {
	for _, x := range []*tx.Tx{nil, tx.New(nil), tx.New(seg.New(0)), tx.New(nil).Bare()} {
		for c := range clients {
			for range 2 {
				stands(t, "nobody", x, c, 0, 0)
				does(t, "nobody: Attach", client.Attach, x, c, api.OK)
				does(t, "nobody: Detach", client.Detach, x, c, api.ErrClient)
				does(t, "nobody: Kill", client.Kill, x, c, api.OK)
				does(t, "nobody: Attach", client.Attach, x, c, api.OK)
				does(t, "nobody: Clear", client.Clear, x, c, api.OK)
				client.Point(x, c, 3776)
			}
		}
		for _, c := range nobodies() {
			stands(t, "nobody's nobody", x, c, 0, 0)
			client.Point(x, c, 3776)
			for _, f := range calls() {
				does(t, "nobody's nobody", f, x, c, api.ErrArg)
			}
		}
		tells(t, "nobody", x, client.Nobody, 0, 1, 2, 3, 4, 5, 6, 7)
		tells(t, "nobody", x, client.Live)
		tells(t, "nobody", x, client.Dead)
		tells(t, "nobody", x, largest)
		puts(t, "nobody", x)
	}
}

// P8.2: of a record that the segment has in part, or not at all, the words that it hasn't are 0, and stay.
func TestShort(t *testing.T) {
	for _, size := range []uint64{8, 16, 64, 72, 80, 480, 488, 496, 2968, 2976, 2984, 2992, 3384, names} {
		s := seg.New(size)
		for off := uint64(0); off < size; off += 8 {
			lay(t, s, off, 1)
		}
		was := s.Copy()
		for c := range clients {
			x := tx.New(s)
			var state, head uint64
			if stateAt(c) < size {
				state = 1
			}
			if headAt(c) < size {
				head = 1
			}
			stands(t, "short", x, c, state, head)
			for call, f := range calls() {
				x := tx.New(s)
				err, now, stored := wants(call, state, head)
				does(t, "short", f, x, c, err)
				if stored && stateAt(c) < size {
					puts(t, "short", x, api.Put{Off: stateAt(c), V: now})
					stands(t, "short", x, c, now, head)
				} else {
					puts(t, "short", x)
					stands(t, "short", x, c, state, head)
				}
			}
			client.Point(x, c, 9)
			if headAt(c) < size {
				puts(t, "short", x, api.Put{Off: headAt(c), V: 9})
			} else {
				puts(t, "short", x)
			}
		}
		var live, none []int
		for c := range clients {
			if stateAt(c) < size {
				live = append(live, c)
			} else {
				none = append(none, c)
			}
		}
		tells(t, "short", tx.New(s), client.Live, live...)
		tells(t, "short", tx.New(s), client.Nobody, none...)
		same(t, "short", s, was)
		if t.Failed() {
			t.Fatalf("of %d bytes", size)
		}
	}
}
