package ledger_test

import (
	"slices"
	"testing"

	"carrack/api"
	"carrack/client"
	"carrack/head"
	"carrack/ledger"
	"carrack/seg"
	"carrack/tag"
	"carrack/tx"
)

const largest = 1<<64 - 1

// What the document says, as numbers: also package api is asked.
const (
	clients = 8
	table   = 64
	record  = 416
	heap    = 3776
	most    = 1 << 20

	all = 4800 // bytes of most segments here
	end = 4480 // where their heaps end
)

// headAt is where a client's first block should be told.
func headAt(c int) uint64 { return table + uint64(c)*record + 8 }

// mixed is a number that hangs on n alone, with unlike bytes.
func mixed(n uint64) uint64 {
	n = (n + 1) * 0x9E3779B97F4A7C15
	n = (n ^ n>>31) * 0xBF58476D1CE4E5B9
	return n ^ n>>29
}

// formatted is a segment that must be one.
func formatted(t *testing.T) *seg.Seg {
	t.Helper()
	s := seg.New(all)
	if err := head.Format(s, end); err != api.OK {
		t.Fatalf("Format of %d bytes at %d: %d", all, end, err)
	}
	return s
}

// littered is a segment whose every word is another number, but that nobody has a block.
func littered(t *testing.T, all uint64) *seg.Seg {
	t.Helper()
	s := seg.New(all)
	for off := uint64(0); off < all; off += 8 {
		lay(t, s, off, mixed(off)|1<<63)
	}
	for c := range clients {
		if headAt(c) < all {
			lay(t, s, headAt(c), 0)
		}
	}
	return s
}

// lay stores a word in the segment itself.
func lay(t *testing.T, s *seg.Seg, off, v uint64) {
	t.Helper()
	if err := s.Store(off, v); err != api.OK {
		t.Fatalf("Store(%d) in a segment of %d bytes: %d", off, s.Size(), err)
	}
}

// nobodies are numbers of no client.
func nobodies() []int {
	l := []int{-1, -2, -7, -8, -9, -16, -416, 8, 9, 10, 15, 16, 17, 64, 255, 256, 257, 263, 416, 1 << 16, 1<<16 + 1, 1<<31 - 1, -1 << 31}
	for shift := 32; shift < 63; shift++ { // the low bits alone look like a client's
		l = append(l, 1<<shift, 1<<shift+1, 1<<shift+7, -1<<shift, -1<<shift+1, -1<<shift+7)
	}
	return append(l, 1<<63-1, -1<<63, -1<<63+1, -1<<63+7)
}

// strange are offsets of blocks that have no words in a segment, not all, or some near its begin, where sums wrap round.
func strange(all uint64) []uint64 {
	l := []uint64{1, 2, 4, 7, 9, heap + 1, heap + 4, heap + 7, all - 17, all - 16, all - 9, all - 8, all - 1, all, all + 1, all + 8, 1 << 20, 1<<20 + 8, 1 << 32, 1<<32 + heap, 1 << 63, 1<<63 + heap}
	for n := uint64(1); n <= 48; n++ {
		l = append(l, -n)
	}
	return l
}

// links are the words of a client's list, as the chapter tells what they are.
func links(c int, l []uint64) []api.Put {
	out := []api.Put{{Off: headAt(c)}}
	for i, off := range l {
		out[len(out)-1].V = off // the next one of the one ahead
		var ahead uint64
		if i > 0 {
			ahead = l[i-1]
		}
		out = append(out, api.Put{Off: off + 24, V: ahead}, api.Put{Off: off + 16})
	}
	return out
}

// right is what Check should tell, word by word.
func right(x *tx.Tx, c int, l []uint64) bool {
	for i, p := range links(c, l) {
		v := x.Load(p.Off)
		if i == 0 && (c < 0 || c >= clients) { // nobody's first block
			v = 0
		}
		if v != p.V {
			return false
		}
	}
	return true
}

// checks asks what Check tells.
func checks(t *testing.T, what string, x *tx.Tx, c int, l []uint64, want bool) {
	t.Helper()
	if got := ledger.Check(x, c, l); got != want {
		t.Errorf("%s: Check(%d, %v): %v", what, c, l, got)
	}
}

// stands asks for a client's list: by its words, by Check, and by List.
func stands(t *testing.T, what string, x *tx.Tx, c int, l ...uint64) {
	t.Helper()
	for _, p := range links(c, l) {
		if v := x.Load(p.Off); v != p.V {
			t.Errorf("%s: of the client %d, with %v, the word at %d: %d, not %d", what, c, l, p.Off, v, p.V)
		}
	}
	checks(t, what, x, c, l, true)
	if got := ledger.List(x, c); !slices.Equal(got, l) {
		t.Errorf("%s: List(%d): %v, not %v", what, c, got, l)
	}
}

// puts asks for all words that are thought of, in whatever turn.
func puts(t *testing.T, what string, x *tx.Tx, want ...api.Put) {
	t.Helper()
	got := x.Puts()
	for _, p := range want {
		if !slices.Contains(got, p) {
			t.Errorf("%s: not thought of: %v, but %v", what, p, got)
		}
	}
	if len(got) != len(want) {
		t.Errorf("%s: Puts: %v, not %v", what, got, want)
	}
}

// same asks whether the segment has the words that the other one has.
func same(t *testing.T, what string, s, want *seg.Seg) {
	t.Helper()
	if l := seg.Diff(s, want); len(l) > 0 {
		t.Errorf("%s: other words at %d", what, l)
	}
}

// words is what a Tx tells of each word of its segment.
func words(x *tx.Tx) []uint64 {
	var l []uint64
	for off := uint64(0); off < x.Size(); off += 8 {
		l = append(l, x.Load(off))
	}
	return l
}

// kept asks for all words as they were, but those that may be others.
func kept(t *testing.T, what string, x *tx.Tx, was []uint64, may ...uint64) {
	t.Helper()
	for i, v := range words(x) {
		if off := uint64(i) * 8; v != was[i] && !slices.Contains(may, off) {
			t.Errorf("%s: another word, at %d: %d, not %d", what, off, v, was[i])
		}
	}
	for _, p := range x.Puts() {
		if !slices.Contains(may, p.Off) {
			t.Errorf("%s: thought of at %d, too", what, p.Off)
		}
	}
}

// turns are all turns of a list.
func turns[T any](l []T) [][]T {
	if len(l) == 0 {
		return [][]T{nil}
	}
	var out [][]T
	for i := range l {
		for _, rest := range turns(slices.Delete(slices.Clone(l), i, i+1)) {
			out = append(out, append([]T{l[i]}, rest...))
		}
	}
	return out
}

// without is a list without a block, ahead is it with one ahead of it.
func without(l []uint64, off uint64) []uint64 {
	return slices.DeleteFunc(slices.Clone(l), func(o uint64) bool { return o == off })
}

func ahead(off uint64, l []uint64) []uint64 { return append([]uint64{off}, l...) }

// linked is a Tx in which a client has blocks, the first one of l first, that were linked.
func linked(x *tx.Tx, c int, l ...uint64) *tx.Tx {
	for _, off := range slices.Backward(l) {
		ledger.Link(x, c, off)
	}
	return x
}

// P9.1, P9.2, by hand
func TestByHand(t *testing.T) {
	s := formatted(t)
	was := s.Copy()
	x := tx.New(s)
	stands(t, "formatted", x, 2)
	ledger.Link(x, 2, 3776)
	puts(t, "one", x, api.Put{Off: 904, V: 3776}, api.Put{Off: 3792}, api.Put{Off: 3800})
	ledger.Link(x, 2, 3824)
	puts(t, "two", x, api.Put{Off: 904, V: 3824}, api.Put{Off: 3792}, api.Put{Off: 3800, V: 3824}, api.Put{Off: 3840, V: 3776}, api.Put{Off: 3848})
	ledger.Link(x, 2, 3872)
	stands(t, "three", x, 2, 3872, 3824, 3776)
	for _, w := range []api.Put{{Off: 904, V: 3872}, {Off: 3888, V: 3824}, {Off: 3896}, {Off: 3840, V: 3776}, {Off: 3848, V: 3872}, {Off: 3792}, {Off: 3800, V: 3824}} {
		if v := x.Load(w.Off); v != w.V {
			t.Errorf("the word at %d: %d, not %d", w.Off, v, w.V)
		}
	}
	same(t, "not applied", s, was)
	ledger.Unlink(x, 2, 3824)
	stands(t, "without the middle", x, 2, 3872, 3776)
	for _, w := range []api.Put{{Off: 904, V: 3872}, {Off: 3888, V: 3776}, {Off: 3896}, {Off: 3792}, {Off: 3800, V: 3872}} {
		if v := x.Load(w.Off); v != w.V {
			t.Errorf("without the middle the word at %d: %d, not %d", w.Off, v, w.V)
		}
	}
	x.Apply()
	stands(t, "applied", tx.New(s), 2, 3872, 3776)
	x = x.Bare()
	ledger.Unlink(x, 2, 3872)
	stands(t, "without the first", x, 2, 3776)
	puts(t, "without the first", x, api.Put{Off: 904, V: 3776}, api.Put{Off: 3800})
	ledger.Unlink(x, 2, 3776)
	stands(t, "without any", x, 2)
	puts(t, "without any", x, api.Put{Off: 904}, api.Put{Off: 3800})
	stands(t, "not applied", tx.New(s), 2, 3872, 3776)
}

// The chapter's example: two that are linked, the later one first.
func TestExample(t *testing.T) {
	x := tx.New(formatted(t))
	ledger.Link(x, 0, 4000)
	ledger.Link(x, 0, 4048)
	stands(t, "two", x, 0, 4048, 4000)
}

// P9.1: no block at all, where there is a first one, and where there is none.
func TestCheckOfNone(t *testing.T) {
	for c := range clients {
		x := tx.New(littered(t, all))
		for _, l := range [][]uint64{nil, {}, []uint64{4000}[:0]} {
			checks(t, "of none", x, c, l, true)
			for _, first := range []uint64{1, 8, heap, all, 1 << 32, 1 << 63, largest} {
				y := x.Bare()
				client.Point(y, c, first)
				checks(t, "of none, with a block", y, c, l, false)
				for d := range clients {
					if d != c {
						checks(t, "of another one", y, d, l, true)
					}
				}
			}
		}
		for _, off := range []uint64{0, 1, 8, 16, heap, 4000, all - 24, all, 1 << 63, largest} {
			checks(t, "one, where there is none", x, c, []uint64{off}, false)
			checks(t, "two, where there is none", x, c, []uint64{off, off + 48}, false)
		}
	}
}

// P9.1: a list itself, with one block more, with one less, turned, and with one that stands twice.
func TestCheckOfOthers(t *testing.T) {
	for n := 1; n <= 6; n++ {
		var l []uint64
		for i := range n {
			l = append(l, heap+uint64(i*5%7)*96)
		}
		for c := range clients {
			x := linked(tx.New(littered(t, all)), c, l...)
			stands(t, "itself", x, c, l...)
			for _, off := range append([]uint64{0, 1, 8, 4700, all, largest}, l...) {
				for i := range n + 1 {
					checks(t, "one more", x, c, slices.Insert(slices.Clone(l), i, off), false)
				}
			}
			for i := range n {
				checks(t, "one less", x, c, slices.Delete(slices.Clone(l), i, i+1), false)
				checks(t, "up to one", x, c, l[:i], false)
				if i > 0 {
					checks(t, "from one on", x, c, l[i:], false)
				}
				for _, off := range []uint64{0, 1, 8, 4700, all, l[i] + 8, l[i] + 1, l[i] - 16, l[i] + 1<<32, l[i] + 1<<63} {
					other := slices.Clone(l)
					other[i] = off
					checks(t, "another one", x, c, other, false)
				}
			}
			for _, m := range turns(l) {
				checks(t, "turned", x, c, m, slices.Equal(m, l))
			}
			checks(t, "twice", x, c, append(slices.Clone(l), l...), false)
			checks(t, "cut off", x, c, append(slices.Clone(l), 4700)[:n], true)
			checks(t, "without any", x, c, nil, false)
			for d := range clients {
				checks(t, "of another client", x, d, l, d == c)
			}
		}
		if t.Failed() {
			t.Fatalf("of %v", l)
		}
	}
}

// P9.1: each word of a list otherwise, bit by bit, and each other word, that isn't asked.
func TestCheckOfEachWord(t *testing.T) {
	l := []uint64{4000, 3776, 4192, 3880}
	for _, c := range []int{0, 3, 7} {
		x := linked(tx.New(littered(t, all)), c, l...)
		x.Apply()
		for _, p := range links(c, l) {
			values := []uint64{0, 4000, 3776, 4192, 3880, p.V + 8, p.V - 8, largest, heap}
			for bit := range 64 {
				values = append(values, p.V^1<<bit)
			}
			for _, v := range values {
				y := x.Bare()
				y.Store(p.Off, v)
				checks(t, "otherwise", y, c, l, v == p.V)
				if t.Failed() {
					t.Fatalf("of the client %d, at %d: %d, not %d", c, p.Off, v, p.V)
				}
			}
		}
		y := x.Bare()
		for off := uint64(0); off < all; off += 8 {
			if !slices.ContainsFunc(links(c, l), func(p api.Put) bool { return p.Off == off }) {
				y.Store(off, mixed(off+1))
				checks(t, "otherwise, but it isn't asked", y, c, l, true)
			}
		}
		if got := ledger.List(y, c); !slices.Equal(got, l) {
			t.Errorf("List: %v, not %v", got, l)
		}
	}
}

// P9.1: the words ahead alone, or behind alone, are as they should be.
func TestCheckOfHalf(t *testing.T) {
	l := []uint64{3776, 3872, 3824}
	for skip := range 7 {
		x := tx.New(littered(t, all))
		for i, p := range links(5, l) {
			if i != skip {
				x.Store(p.Off, p.V)
			}
		}
		checks(t, "all but one", x, 5, l, false)
	}
	x := tx.New(littered(t, all))
	for _, p := range links(5, l) {
		x.Store(p.Off, p.V)
	}
	stands(t, "all of them", x, 5, l...)
}

// P9.1: what is thought of is asked, not what stands in the segment.
func TestAsksWhatIsThought(t *testing.T) {
	s := formatted(t)
	x := linked(tx.New(s), 4, 3776, 3824, 3872)
	bare := tx.New(s)
	stands(t, "in the segment", bare, 4)
	x.Apply()
	stands(t, "in the segment", bare, 4, 3776, 3824, 3872) // it follows the segment
	ledger.Unlink(x, 4, 3776)
	stands(t, "thought of", x, 4, 3824, 3872)
	stands(t, "in the segment", bare, 4, 3776, 3824, 3872)
	ledger.Unlink(bare, 4, 3872)
	ledger.Link(bare, 4, 3920)
	stands(t, "the one", x, 4, 3824, 3872)
	stands(t, "the other", bare, 4, 3920, 3776, 3824)
}

// P9.1: of numbers of no client: there is no first block, whatever stands in the segment; and nothing is thought of for them.
func TestNobody(t *testing.T) {
	s := littered(t, all)
	x := linked(tx.New(s), 7, 3776, 3824)
	linked(x, 0, 4000)
	linked(x, 1, 4048, 4096)
	x.Apply()
	was := s.Copy()
	for _, c := range nobodies() {
		for _, l := range [][]uint64{nil, {}} {
			checks(t, "nobody", x, c, l, true)
		}
		for _, l := range [][]uint64{{0}, {1}, {3776, 3824}, {4000}, {4048, 4096}, {0, 0}, {largest}} {
			checks(t, "nobody", x, c, l, false)
		}
		if l := ledger.List(x, c); len(l) > 0 {
			t.Errorf("nobody: List(%d): %v", c, l)
		}
		y := x.Bare()
		for _, off := range []uint64{4200, 3776, 3824, 4000, 0, 8, all, 5, largest, largest - 15} {
			ledger.Link(y, c, off)
			ledger.Unlink(y, c, off)
		}
		puts(t, "nobody", y)
		same(t, "nobody", s, was)
		if t.Failed() {
			t.Fatalf("of the client %d", c)
		}
	}
	stands(t, "the last client", x, 7, 3776, 3824)
	stands(t, "the first client", x, 0, 4000)
}

// P9.1: of nobody, of blocks whose words are 0.
func TestNobodysZeros(t *testing.T) {
	x := tx.New(seg.New(all))
	for _, c := range append(nobodies(), 0, 7) {
		for _, l := range [][]uint64{nil, {0}, {0, 0}, {0, 0, 0}} { // the block at 0 has words as any other one
			checks(t, "zeros", x, c, l, true)
		}
		for _, l := range [][]uint64{{8}, {0, 8}, {8, 0}, {0, 8, 0}, {0, 0, 8}, {largest}} {
			checks(t, "zeros", x, c, l, false)
		}
	}
	x.Store(16, 8)
	checks(t, "the first one's next", x, 0, []uint64{0}, false)
	x.Store(16, 0)
	x.Store(24, 8)
	checks(t, "the first one's one ahead", x, 0, []uint64{0}, false)
	checks(t, "of none", x, 0, nil, true)
}

// P9.1: blocks of whatever offsets, also without words, and where sums wrap round: the words that there are are asked.
func TestCheckOfStrange(t *testing.T) {
	for _, size := range []uint64{8, 16, 24, 32, 64, 72, 80, 3776, 3800, all} {
		for n, a := range strange(size) {
			for _, b := range []uint64{0, 1, 3776, a, a + 1, a + 8, a + 24, size - 24, -a, largest - 23, largest - 15, largest - 7} {
				for _, l := range [][]uint64{{a}, {a, b}, {b, a}, {a, b, a}} {
					for _, c := range []int{0, 7, -1, 8} {
						x := tx.New(seg.New(size))
						checks(t, "strange, of zeros", x, c, l, right(x, c, l))
						for _, p := range links(c, l) {
							if c >= 0 && c < clients || p.Off != headAt(c) {
								x.Store(p.Off, p.V) // those that it has
							}
						}
						checks(t, "strange", x, c, l, right(x, c, l))
						checks(t, "strange, of another one", x, 3, l, right(x, 3, l))
						if t.Failed() {
							t.Fatalf("of %d bytes, %d: %v", size, n, l)
						}
					}
				}
			}
		}
	}
}

// P9.1: any few small words, and any few blocks: as the chapter says, word by word.
func TestCheckOfAnyWords(t *testing.T) {
	some := []uint64{0, 40, 48, 56, 64, largest - 15, largest - 7}
	told := 0
	for n := range uint64(60000) {
		x := tx.New(seg.New(112))
		m := mixed(n)
		for i := range uint64(14) {
			x.Store(i*8, some[m%7*(m>>40%2)])
			m = mixed(m)
		}
		for range 4 {
			var l []uint64
			for range m % 4 {
				m = mixed(m)
				l = append(l, some[m>>8%7])
			}
			want := right(x, 0, l)
			if want && len(l) > 0 {
				told++
			}
			checks(t, "any words", x, 0, l, want)
			m = mixed(m)
		}
		for i := range uint64(3) { // and a list that there is
			l := []uint64{48, 40 + m>>20%4*8, 64 - m>>30%3*8}[:i+1]
			for _, p := range links(0, l) {
				if p.Off != m%14*8 {
					x.Store(p.Off, p.V)
				}
			}
			checks(t, "any words", x, 0, l, right(x, 0, l))
			if right(x, 0, l) {
				told++
			}
		}
		if t.Failed() {
			t.Fatalf("of %v", words(x))
		}
	}
	if told < 1000 {
		t.Errorf("only %d of them are lists", told)
	}
}

// R3: what is handed in stays, also what stands behind it, and what is told is the caller's own.
func TestOwn(t *testing.T) {
	x := linked(tx.New(formatted(t)), 6, 3776, 3824, 3872)
	l := []uint64{3776, 3824, 3872, 3920, 5}
	ledger.Check(x, 6, l[:3])
	ledger.Check(x, 6, l)
	ledger.Check(x, 6, l[:2])
	if !slices.Equal(l, []uint64{3776, 3824, 3872, 3920, 5}) {
		t.Errorf("what is handed in is another one: %v", l)
	}
	a := ledger.List(x, 6)
	b := ledger.List(x, 6)
	for i := range a {
		a[i] = 9
	}
	_ = append(a[:1], 7, 7, 7)
	if !slices.Equal(b, []uint64{3776, 3824, 3872}) {
		t.Errorf("two that are told are one: %v", b)
	}
	stands(t, "changed by who has it", x, 6, 3776, 3824, 3872)
	b[2] = 0
	ledger.Unlink(x, 6, 3824)
	if !slices.Equal(b, []uint64{3776, 3824, 0}) {
		t.Errorf("one that was told follows: %v", b)
	}
}

// P9.1, P9.2: what is asked isn't thought of.
func TestAskingChangesNothing(t *testing.T) {
	s := littered(t, all)
	x := linked(tx.New(s), 2, 3776, 3824)
	x.Apply()
	was := s.Copy()
	x = x.Bare()
	for c := -3; c < 12; c++ {
		for _, l := range [][]uint64{nil, {3776, 3824}, {3776}, {0}, {largest - 23, 5}} {
			ledger.Check(x, c, l)
		}
		ledger.List(x, c)
	}
	puts(t, "asked", x)
	same(t, "asked", s, was)
	x.Store(4600, 1)
	ledger.List(x, 2)
	ledger.Check(x, 2, []uint64{3776, 3824})
	puts(t, "asked", x, api.Put{Off: 4600, V: 1})
}

// P9.2: a first block, a second, and more: which words become others, and that no other one is thought of.
func TestLink(t *testing.T) {
	for c := range clients {
		s := littered(t, all)
		var l []uint64
		for i := range uint64(14) {
			off := heap + i*5%14*56
			x := tx.New(s)
			was := words(x)
			before := s.Copy()
			ledger.Link(x, c, off)
			may := []uint64{headAt(c), off + 16, off + 24}
			if len(l) > 0 {
				may = append(may, l[0]+24)
			}
			same(t, "not applied", s, before)
			stands(t, "not applied", tx.New(s), c, l...)
			l = ahead(off, l)
			stands(t, "linked", x, c, l...)
			kept(t, "linked", x, was, may...)
			for d := range clients {
				if d != c {
					stands(t, "another one", x, d)
				}
			}
			x.Apply()
			stands(t, "applied", tx.New(s), c, l...)
		}
		if t.Failed() {
			t.Fatalf("of the client %d", c)
		}
	}
}

// P9.2: the only one, the first, the last, and one amid go; which words become others, and that no other one is thought of.
func TestUnlink(t *testing.T) {
	for n := 1; n <= 7; n++ {
		var l []uint64
		for i := range n {
			l = append(l, heap+uint64(i*5%7)*88)
		}
		for _, c := range []int{0, 4, 7} {
			for i, off := range l {
				s := littered(t, all)
				linked(tx.New(s), c, l...).Apply()
				x := tx.New(s)
				was := words(x)
				before := s.Copy()
				ledger.Unlink(x, c, off)
				may := []uint64{headAt(c)}
				if i > 0 {
					may[0] = l[i-1] + 16
				}
				if i < n-1 {
					may = append(may, l[i+1]+24)
				}
				stands(t, "one is out", x, c, without(l, off)...)
				kept(t, "one is out", x, was, may...)
				same(t, "not applied", s, before)
				stands(t, "not applied", tx.New(s), c, l...)
				ledger.Link(x, c, off)
				stands(t, "it comes again", x, c, ahead(off, without(l, off))...)
				if t.Failed() {
					t.Fatalf("of the client %d, of %v, %d", c, l, off)
				}
			}
		}
	}
}

// P9.2: four blocks come in every turn, and go in every turn.
func TestEveryTurn(t *testing.T) {
	l := []uint64{3776, 3824, 3904, 3952}
	for _, in := range turns(l) {
		for _, out := range turns(l) {
			x := tx.New(formatted(t))
			var now []uint64
			for _, off := range in {
				ledger.Link(x, 1, off)
				now = ahead(off, now)
				stands(t, "in", x, 1, now...)
			}
			for _, off := range out {
				ledger.Unlink(x, 1, off)
				now = without(now, off)
				stands(t, "out", x, 1, now...)
			}
			if t.Failed() {
				t.Fatalf("in %v, out %v", in, out)
			}
		}
	}
}

// P9.2: a block goes, and comes again, to the same client, and to another one, of all words that it had.
func TestGoesAndComesAgain(t *testing.T) {
	l := []uint64{3776, 3824, 3872}
	for c := range clients {
		for d := range clients {
			for _, off := range l {
				x := linked(tx.New(littered(t, all)), c, l...)
				other := []uint64{4000, 4048}
				if d != c {
					linked(x, d, other...)
				} else {
					other = without(l, off)
				}
				ledger.Unlink(x, c, off)
				ledger.Link(x, d, off)
				stands(t, "given", x, d, ahead(off, other)...)
				if d != c {
					stands(t, "it has the others", x, c, without(l, off)...)
				}
				ledger.Unlink(x, d, off)
				stands(t, "and away", x, d, other...)
				ledger.Link(x, c, off)
				stands(t, "and back", x, c, ahead(off, without(l, off))...)
				if d != c {
					stands(t, "as it was", x, d, other...)
				}
				if t.Failed() {
					t.Fatalf("from the client %d to %d: %d", c, d, off)
				}
			}
		}
	}
}

// P9.2: a first block of whatever offset, also without words, and where sums wrap round.
func TestOneOfStrange(t *testing.T) {
	for _, off := range strange(all) {
		for _, c := range []int{0, 7} {
			s := littered(t, all)
			x := tx.New(s)
			was := words(x)
			ledger.Link(x, c, off)
			if v := x.Load(headAt(c)); v != off {
				t.Errorf("linked: the first block is %d", v)
			}
			may := []uint64{headAt(c), off + 16, off + 24}
			kept(t, "linked", x, was, may...)
			stands(t, "linked", x, c, off)
			ledger.Unlink(x, c, off)
			stands(t, "unlinked", x, c)
			kept(t, "unlinked", x, was, may...)
			same(t, "not applied", s, littered(t, all))
			if t.Failed() {
				t.Fatalf("of the client %d: %d", c, off)
			}
		}
	}
}

// P9.2: over a segment that ends amid a block, or amid a client's record, the words that there are stand.
func TestShort(t *testing.T) {
	for _, size := range []uint64{8, 64, 72, 80, 488, 496, 2984, 2992, 3776, 3792, 3800, 3808} {
		for c := range clients {
			x := tx.New(littered(t, size))
			was := words(x)
			stands(t, "short", x, c)
			ledger.Link(x, c, 3776)
			kept(t, "short", x, was, headAt(c), 3792, 3800)
			if headAt(c) < size {
				stands(t, "short", x, c, 3776)
				ledger.Unlink(x, c, 3776)
			}
			stands(t, "short", x, c) // or its first block couldn't be told
			if t.Failed() {
				t.Fatalf("of %d bytes, of the client %d", size, c)
			}
		}
	}
}

// P9.3: all clients at once, in any turn of calls, against plain lists; tags, and all other words, stay.
func TestAnyTurn(t *testing.T) {
	for n := range uint64(80) {
		s := littered(t, all)
		x := tx.New(s)
		was := words(x)
		var lists [clients][]uint64
		owner := map[uint64]int{}
		var may []uint64
		for c := range clients {
			may = append(may, headAt(c))
		}
		for i := range uint64(20) {
			off := heap + i*48
			may = append(may, off+16, off+24)
		}
		for k := range uint64(120) {
			m := mixed(n<<20 + k)
			off := heap + m>>8%20*48
			c := int(m >> 20 % clients)
			if d, ok := owner[off]; ok {
				ledger.Unlink(x, d, off)
				lists[d] = without(lists[d], off)
				delete(owner, off)
			}
			if m%4 > 0 {
				ledger.Link(x, c, off)
				lists[c] = ahead(off, lists[c])
				owner[off] = c
			}
			if m>>40%16 == 0 {
				x.Apply()
				x = x.Bare()
			}
			for c, l := range lists {
				stands(t, "in any turn", x, c, l...)
				checks(t, "in any turn", x, c, lists[(c+1)%clients], len(l) == 0 && len(lists[(c+1)%clients]) == 0)
			}
			kept(t, "in any turn", x, was, may...)
			if t.Failed() {
				t.Fatalf("turn %d, call %d", n, k)
			}
		}
	}
}

// P9.3: what is done in one Tx is nothing to the segment, until it is applied.
func TestSegmentStays(t *testing.T) {
	s := formatted(t)
	was := s.Copy()
	x := tx.New(s)
	for k := range uint64(200) {
		off := heap + k%14*48
		if k/14%2 == 0 {
			ledger.Link(x, int(off%5), off)
		} else {
			ledger.Unlink(x, int(off%5), off)
		}
		same(t, "thought of", s, was)
	}
	for _, p := range x.Puts() {
		lay(t, was, p.Off, p.V)
	}
	x.Apply()
	same(t, "applied", s, was)
}

// P9.3: blocks whose tags stand keep them, and the heap is as it was.
func TestTagsStay(t *testing.T) {
	x := tx.New(formatted(t))
	var offs []uint64
	for i := range uint64(14) {
		off := heap + i*48
		size := uint64(48)
		if i == 13 {
			size = end - off
		}
		offs = append(offs, off)
		if err := tag.Write(x, off, tag.Tag{Size: size, Used: true, Owner: int(i%clients) + 1}); err != api.OK {
			t.Fatalf("Write at %d: %d", off, err)
		}
		x.Store(off+8, i%9) // how many bytes it has
		x.Store(off+32, mixed(i))
	}
	was := words(x)
	stay := func(what string) {
		t.Helper()
		for i, off := range offs {
			if g, err := tag.Read(x, off); err != api.OK || g.Owner != i%clients+1 || !g.Used {
				t.Errorf("%s: the tag at %d: %v, %d", what, off, g, err)
			}
			for _, at := range []uint64{off, off + 8, off + 32, off + 40} {
				if v := x.Load(at); v != was[at/8] {
					t.Errorf("%s: the word at %d: %d, not %d", what, at, v, was[at/8])
				}
			}
		}
		if err := head.Check(x); err != api.OK {
			t.Errorf("%s: the head: %d", what, err)
		}
		for off := uint64(0); off < 64; off += 8 { // the Lock, and the Root, too
			if v := x.Load(off); v != was[off/8] {
				t.Errorf("%s: the head's word at %d: %d, not %d", what, off, v, was[off/8])
			}
		}
	}
	for i, off := range offs {
		ledger.Link(x, i%clients, off)
		stay("linked")
	}
	stands(t, "two each", x, 3, offs[11], offs[3])
	for i, off := range offs {
		ledger.Unlink(x, i%clients, off)
		stay("unlinked")
	}
	for c := range clients {
		stands(t, "nobody has any", x, c)
	}
}

// P9.2: as many blocks as a heap can have.
func TestMany(t *testing.T) {
	s := seg.New(most)
	if err := head.Format(s, most); err != api.OK {
		t.Fatalf("Format: %d", err)
	}
	x := tx.New(s)
	var l []uint64
	for off := uint64(heap); off+48 <= most; off += 48 {
		ledger.Link(x, 5, off)
		l = append(l, off)
	}
	slices.Reverse(l)
	if got := ledger.List(x, 5); !slices.Equal(got, l) {
		t.Fatalf("of %d blocks %d are told", len(l), len(got))
	}
	if !ledger.Check(x, 5, l) || ledger.Check(x, 5, l[1:]) || ledger.Check(x, 5, l[:len(l)-1]) {
		t.Error("Check of many")
	}
	for i := 0; i < len(l); i += 2 {
		ledger.Unlink(x, 5, l[i])
	}
	var odd []uint64
	for i := 1; i < len(l); i += 2 {
		odd = append(odd, l[i])
	}
	if got := ledger.List(x, 5); !slices.Equal(got, odd) || !ledger.Check(x, 5, odd) {
		t.Errorf("of %d blocks %d are told", len(odd), len(got))
	}
}

// P9.2: as many blocks as a segment has words for, or almost: each word is one's next one, and the one ahead of another one.
func TestDense(t *testing.T) {
	var l []uint64
	for i := range uint64(294) {
		l = append(l, all-32-i*8, all-48-293*8-i*8)
	}
	x := tx.New(littered(t, all))
	for _, p := range links(0, l) {
		x.Store(p.Off, p.V)
	}
	stands(t, "dense", x, 0, l...)
	checks(t, "dense", x, 0, l[1:], false)
}

// P1: a list that comes back to itself isn't one: it is told to an end all the same, and isn't right.
func TestRound(t *testing.T) {
	for n := 1; n <= 5; n++ {
		for back := range n {
			x := tx.New(formatted(t))
			var l []uint64
			for i := range n {
				l = append(l, heap+uint64(i)*48)
			}
			linked(x, 3, l...)
			x.Store(l[n-1]+16, l[back])
			got := ledger.List(x, 3)
			if len(got) < n || !slices.Equal(got[:n], l) {
				t.Errorf("round: List: %v, not from %v on", got, l)
			}
			checks(t, "round", x, 3, got, false)
			checks(t, "round", x, 3, l, false)
			x.Store(l[back]+24, l[n-1])
			checks(t, "round", x, 3, ledger.List(x, 3), false)
		}
	}
}

// R5: nobody's Tx: its words are 0, and stay.
func TestNil(t *testing.T) {
	for _, x := range []*tx.Tx{nil, tx.New(nil), tx.New(seg.New(0)), tx.New(nil).Bare()} {
		for _, c := range append(nobodies(), 0, 1, 2, 3, 4, 5, 6, 7) {
			for _, off := range []uint64{0, 8, 3776, 3824, 5, all, 1 << 63, largest, largest - 23} {
				ledger.Link(x, c, off)
				ledger.Unlink(x, c, off)
				ledger.Link(x, c, off)
				checks(t, "nobody's", x, c, []uint64{off}, off == 0)
				checks(t, "nobody's", x, c, []uint64{0, off}, off == 0)
				checks(t, "nobody's", x, c, []uint64{off, 0, off}, off == 0)
			}
			checks(t, "nobody's", x, c, nil, true)
			checks(t, "nobody's", x, c, []uint64{}, true)
			if l := ledger.List(x, c); len(l) > 0 {
				t.Errorf("nobody's: List(%d): %v", c, l)
			}
			puts(t, "nobody's", x)
		}
	}
}
