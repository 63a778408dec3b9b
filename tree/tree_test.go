package tree_test

import (
	"slices"
	"testing"

	"carrack/api"
	"carrack/head"
	"carrack/seg"
	"carrack/tag"
	"carrack/tree"
	"carrack/tx"
)

const largest = 1<<64 - 1

// What the document says, as numbers: also package api is asked.
const (
	rootAt = 32
	heap   = 3776
	least  = 48
	most   = 1 << 20

	all = 4800 // bytes of most segments here
	end = 4480 // where their heaps end
)

// block is one, by its key.
type block struct{ size, off uint64 }

func (b block) less(c block) bool {
	return b.size < c.size || b.size == c.size && b.off < c.off
}

// rank is what word.Mix should be, by a product.
func rank(off uint64) uint64 { return off * 0x9E3779B97F4A7C15 }

// mixed is a number that hangs on n alone, with unlike bytes.
func mixed(n uint64) uint64 {
	n = (n + 1) * 0x9E3779B97F4A7C15
	n = (n ^ n>>31) * 0xBF58476D1CE4E5B9
	return n ^ n>>29
}

// formatted is a segment that must be one.
func formatted(t *testing.T, all, size uint64) *seg.Seg {
	t.Helper()
	s := seg.New(all)
	if err := head.Format(s, size); err != api.OK {
		t.Fatalf("Format of %d bytes at %d: %d", all, size, err)
	}
	return s
}

// littered is a segment whose every word is another number, but that no tree and no tag stands in it.
func littered(t *testing.T, all uint64) *seg.Seg {
	t.Helper()
	s := seg.New(all)
	for off := uint64(0); off < all; off += 8 {
		lay(t, s, off, mixed(off)|1<<63)
	}
	lay(t, s, rootAt, 0)
	return s
}

// lay stores a word in the segment itself.
func lay(t *testing.T, s *seg.Seg, off, v uint64) {
	t.Helper()
	if err := s.Store(off, v); err != api.OK {
		t.Fatalf("Store(%d) in a segment of %d bytes: %d", off, s.Size(), err)
	}
}

// think lays the first words of blocks; a Size of 0 is told by a word that is no tag's.
func think(x *tx.Tx, l []block) {
	for _, b := range l {
		x.Store(b.off, b.size)
	}
}

// offs are where blocks stand, sorted is what they are by their keys, turned is another turn of them.
func offs(l []block) []uint64 {
	var o []uint64
	for _, b := range l {
		o = append(o, b.off)
	}
	return o
}

func sorted(l []block) []block {
	l = slices.Clone(l)
	for i := range l {
		for j := i; j > 0 && l[j].less(l[j-1]); j-- {
			l[j], l[j-1] = l[j-1], l[j]
		}
	}
	return l
}

func turned[T any](l []T, n uint64) []T {
	l = slices.Clone(l)
	for i := len(l) - 1; i > 0; i-- {
		j := mixed(n<<20+uint64(i)) % uint64(i+1)
		l[i], l[j] = l[j], l[i]
	}
	return l
}

// turns are all turns of a list.
func turns[T any](l []T) [][]T {
	if len(l) == 0 {
		return [][]T{nil}
	}
	var out [][]T
	for i := range l {
		for _, rest := range turns(slices.Delete(slices.Clone(l), i, i+1)) {
			out = append(out, append([]T{l[i]}, rest...))
		}
	}
	return out
}

// links are all words of the tree of blocks, as the chapter tells what that is.
func links(l []block) []api.Put { return hung(nil, rootAt, l) }

func hung(out []api.Put, at uint64, l []block) []api.Put {
	if len(l) == 0 {
		return append(out, api.Put{Off: at})
	}
	top := l[0]
	for _, b := range l {
		if rank(b.off) > rank(top.off) {
			top = b
		}
	}
	var smaller, greater []block
	for _, b := range l {
		switch {
		case b.less(top):
			smaller = append(smaller, b)
		case top.less(b):
			greater = append(greater, b)
		}
	}
	out = append(out, api.Put{Off: at, V: top.off})
	out = hung(out, top.off+8, smaller)
	return hung(out, top.off+16, greater)
}

// stands asks for the tree of just these blocks: by its words, and by Check and All.
func stands(t *testing.T, what string, x *tx.Tx, l []block) {
	t.Helper()
	for _, p := range links(l) {
		if v := x.Load(p.Off); v != p.V {
			t.Errorf("%s: of %v the word at %d: %d, not %d", what, l, p.Off, v, p.V)
		}
	}
	checks(t, what, x, offs(l), true)
	tells(t, what, x, l)
}

func checks(t *testing.T, what string, x *tx.Tx, l []uint64, want bool) {
	t.Helper()
	if got := tree.Check(x, l); got != want {
		t.Errorf("%s: Check(%v): %v", what, l, got)
	}
}

func tells(t *testing.T, what string, x *tx.Tx, l []block) {
	t.Helper()
	if got := tree.All(x); !slices.Equal(got, offs(sorted(l))) {
		t.Errorf("%s: All: %v, not %v", what, got, offs(sorted(l)))
	}
}

func deletes(t *testing.T, what string, x *tx.Tx, off uint64, want bool) {
	t.Helper()
	if got := tree.Delete(x, off); got != want {
		t.Errorf("%s: Delete(%d): %v", what, off, got)
	}
}

func behind(t *testing.T, what string, x *tx.Tx, size, off, want uint64) {
	t.Helper()
	if got, ok := tree.After(x, size, off); got != want || ok != (want != 0) {
		t.Errorf("%s: After(%d, %d): %d, %v, not %d", what, size, off, got, ok, want)
	}
}

// words is what a Tx tells of each word of its segment.
func words(x *tx.Tx) map[uint64]uint64 {
	m := map[uint64]uint64{}
	for off := uint64(0); off < x.Size(); off += 8 {
		m[off] = x.Load(off)
	}
	return m
}

// kept asks for all words as they were, but those of the tree of blocks.
func kept(t *testing.T, what string, x *tx.Tx, was map[uint64]uint64, l []block) {
	t.Helper()
	own := map[uint64]bool{}
	for _, p := range links(l) {
		own[p.Off] = true
	}
	for off, v := range was {
		if now := x.Load(off); now != v && !own[off] {
			t.Errorf("%s: of %v another word, at %d: %d, not %d", what, l, off, now, v)
		}
	}
	for _, p := range x.Puts() {
		if _, ok := was[p.Off]; !ok {
			t.Errorf("%s: no word at %d", what, p.Off)
		}
	}
}

// some are blocks that hang on n alone, of few sizes, 24 to 40 bytes apart: up to 24 of them have all their words in a segment.
func some(n uint64, blocks int) []block {
	var l []block
	off := uint64(heap)
	for i := range blocks {
		m := mixed(n<<20 + uint64(i))
		l = append(l, block{least + m%5*16, off})
		off += 24 + m>>32%3*8
	}
	return l
}

// laid is a Tx over a segment in which blocks stand, in no tree, amid other words.
func laid(t *testing.T, l []block) *tx.Tx {
	t.Helper()
	x := tx.New(littered(t, all))
	think(x, l)
	x.Apply()
	return x.Bare()
}

// P7.1, by hand: ranks are falling from 3776 on to 3920, 4064, 3824, 3968, 3872, 4016.
func TestByHand(t *testing.T) {
	l := []block{{48, 3776}, {48, 3824}, {48, 3872}, {48, 3920}, {48, 3968}, {48, 4016}, {48, 4064}}
	x := laid(t, l)
	tree.Build(x, offs(l))
	for _, w := range []api.Put{
		{Off: 32, V: 3776},
		{Off: 3784, V: 0}, {Off: 3792, V: 3920},
		{Off: 3832, V: 0}, {Off: 3840, V: 3872},
		{Off: 3880, V: 0}, {Off: 3888, V: 0},
		{Off: 3928, V: 3824}, {Off: 3936, V: 4064},
		{Off: 3976, V: 0}, {Off: 3984, V: 4016},
		{Off: 4024, V: 0}, {Off: 4032, V: 0},
		{Off: 4072, V: 3968}, {Off: 4080, V: 0},
	} {
		if v := x.Load(w.Off); v != w.V {
			t.Errorf("the word at %d: %d, not %d", w.Off, v, w.V)
		}
	}
	stands(t, "by hand", x, l)
	for _, c := range []struct{ size, off, want uint64 }{{0, 0, 3776}, {47, largest, 3776}, {48, 0, 3776}, {48, 3775, 3776}, {48, 3776, 3824}, {48, 3900, 3920}, {48, 4063, 4064}, {48, 4064, 0}, {48, largest, 0}, {49, 0, 0}, {largest, 0, 0}} {
		behind(t, "by hand", x, c.size, c.off, c.want)
	}
	deletes(t, "by hand", x, 3920, true)
	for _, w := range []api.Put{{Off: 32, V: 3776}, {Off: 3784, V: 0}, {Off: 3792, V: 4064}, {Off: 4072, V: 3824}, {Off: 4080, V: 0}, {Off: 3840, V: 3968}, {Off: 3976, V: 3872}, {Off: 3984, V: 4016}} {
		if v := x.Load(w.Off); v != w.V {
			t.Errorf("without 3920 the word at %d: %d, not %d", w.Off, v, w.V)
		}
	}
	deletes(t, "by hand", x, 3920, false)
	deletes(t, "by hand", x, 3776, true)
	if v := x.Load(32); v != 4064 {
		t.Errorf("without 3776 the root: %d", v)
	}
	tree.Insert(x, 3776)
	tree.Insert(x, 3920)
	stands(t, "again", x, l)
}

// P7.1: a formatted segment has the tree of its one block: the root, without sons.
func TestOfOneBlock(t *testing.T) {
	x := tx.New(formatted(t, all, end))
	one := []block{{end - heap, heap}}
	stands(t, "formatted", x, one)
	checks(t, "of none", x, nil, false)
	head.Plant(x, 0)
	stands(t, "no root", x, nil)
	for _, off := range []uint64{heap, heap + 8, 4000, all - 24, 48, largest - 200, 3777} {
		for _, size := range []uint64{0, 48, 1 << 20} {
			x := laid(t, nil)
			x.Store(off, size)
			b := []block{{x.Load(off), off}}
			tree.Insert(x, off)
			stands(t, "one is put in", x, b)
			y := laid(t, nil)
			y.Store(off, size)
			tree.Build(y, []uint64{off})
			stands(t, "one is built", y, b)
			deletes(t, "one", x, off, true)
			stands(t, "one is out", x, nil)
			deletes(t, "none", x, off, false)
		}
	}
}

// P7.1, P7.2: no block at all.
func TestOfNone(t *testing.T) {
	for _, l := range [][]uint64{nil, {}} {
		x := tx.New(formatted(t, all, end))
		was := words(x)
		tree.Build(x, l)
		stands(t, "of none", x, nil)
		kept(t, "of none", x, was, nil)
		checks(t, "of none", x, l, true)
		for _, off := range []uint64{0, 1, 8, heap, 4000, all, largest} {
			deletes(t, "of none", x, off, false)
			behind(t, "of none", x, off, off, 0)
			behind(t, "of none", x, 0, off, 0)
			if off != 0 {
				checks(t, "one more", x, []uint64{off}, false)
			}
		}
		kept(t, "of none", x, was, nil)
	}
}

// P7.1: Build of many, in any turn, out of whatever words; nothing else changes, and l stays.
func TestBuild(t *testing.T) {
	for n := range uint64(300) {
		l := some(n, int(n%13))
		x := laid(t, l)
		was := words(x)
		asked := turned(offs(l), n)
		handed := slices.Clone(asked)
		tree.Build(x, handed)
		if !slices.Equal(handed, asked) {
			t.Fatalf("Build of %v made it %v", asked, handed)
		}
		stands(t, "built", x, l)
		kept(t, "built", x, was, l)
		if !tree.Check(x, handed) || !slices.Equal(handed, asked) {
			t.Fatalf("Check of %v made it %v", asked, handed)
		}
		clear(handed) // nothing hangs on it any more
		stands(t, "built", x, l)
		if t.Failed() {
			t.FailNow()
		}
	}
}

// P7.1: Build thinks of the head's Root, and of both sons of each, also where they are so already; of each word once, and of no other one.
func TestBuildStoresAll(t *testing.T) {
	for n := range uint64(40) {
		l := some(n, int(n%13))
		x := laid(t, l)
		for range 2 {
			tree.Build(x, offs(l))
			want := links(l)
			slices.SortFunc(want, func(a, b api.Put) int { return int(a.Off) - int(b.Off) })
			got := x.Puts()
			slices.SortFunc(got, func(a, b api.Put) int { return int(a.Off) - int(b.Off) })
			if !slices.Equal(got, want) {
				t.Fatalf("Build of %v: Puts: %v, not %v", l, got, want)
			}
			x.Apply()
			x = x.Bare()
			stands(t, "applied", x, l)
		}
	}
}

// P7.1: a turn of l is as good as any other, for Build and for Check.
func TestEachTurn(t *testing.T) {
	l := []block{{64, 3776}, {48, 3824}, {48, 3904}, {80, 3952}, {64, 4000}, {48, 4048}}
	for _, turn := range turns(l) {
		x := laid(t, l)
		tree.Build(x, offs(turn))
		stands(t, "built", x, l)
		checks(t, "turned", x, offs(turn), true)
	}
}

// P7.1: blocks that were in another tree before come into this one, with what they had as sons; the others are out.
func TestBuildAgain(t *testing.T) {
	for n := range uint64(100) {
		l := some(n, 12)
		x := laid(t, l)
		tree.Build(x, offs(l))
		for i := range uint64(8) {
			part := turned(l, n<<8+i)[:mixed(n+i)%13]
			was := words(x)
			tree.Build(x, offs(part))
			stands(t, "built again", x, part)
			kept(t, "built again", x, was, part)
		}
		for i := range l { // other sizes, another tree
			l[i].size = least + mixed(n+uint64(i))%7*16
		}
		think(x, l)
		tree.Build(x, offs(l))
		stands(t, "of other sizes", x, l)
	}
}

// first are first words of blocks, with the Size that they tell.
func first() []api.Put { // Off: the Size, V: the word
	return []api.Put{
		{Off: 0, V: 0}, {Off: 0, V: 1}, {Off: 0, V: 16}, {Off: 0, V: 32}, {Off: 0, V: 33}, {Off: 0, V: 47}, {Off: 0, V: 50}, {Off: 0, V: 56}, {Off: 0, V: 52},
		{Off: 48, V: 48}, {Off: 48, V: 49}, {Off: 48, V: 0x100000031}, {Off: 48, V: 0x800000031},
		{Off: 0, V: 0x100000030}, {Off: 0, V: 0x900000031}, {Off: 0, V: 1<<63 + 48}, {Off: 0, V: 1<<63 + 49}, {Off: 0, V: largest},
		{Off: 64, V: 64}, {Off: 64, V: 0x300000041}, {Off: 4096, V: 4096}, {Off: 1 << 20, V: 1 << 20}, {Off: 1 << 20, V: 1<<20 + 1},
		{Off: 0, V: 1<<20 + 16}, {Off: 0, V: 1 << 21}, {Off: 0, V: 1<<32 + 64},
	}
}

// Words: a key is the Size that the first word tells, and then the offset, wherever the blocks stand.
func TestKeys(t *testing.T) {
	for _, a := range first() {
		for _, b := range first() {
			for _, at := range [][2]uint64{{3776, 3824}, {4000, 3800}, {heap, 4776}, {3776, 4720}, {48, 3776}, {3776, 96}} {
				l := []block{{a.Off, at[0]}, {b.Off, at[1]}}
				x := laid(t, nil)
				x.Store(at[0], a.V)
				x.Store(at[1], b.V)
				tree.Build(x, offs(l))
				stands(t, "keys", x, l)
				y := laid(t, nil)
				y.Store(at[0], a.V)
				y.Store(at[1], b.V)
				tree.Insert(y, at[0])
				tree.Insert(y, at[1])
				stands(t, "keys, put in", y, l)
				if t.Failed() {
					t.Fatalf("%x at %d, %x at %d", a.V, at[0], b.V, at[1])
				}
			}
		}
	}
}

// Words: blocks without a tag, all together: by their offsets alone, ahead of all others.
func TestWithoutSizes(t *testing.T) {
	var l []block
	x := laid(t, nil)
	for i, w := range first() {
		off := uint64(heap + 32*i)
		x.Store(off, w.V)
		l = append(l, block{w.Off, off})
	}
	for i, b := range turned(l, 5) {
		tree.Insert(x, b.off)
		stands(t, "coming", x, turned(l, 5)[:i+1])
	}
	for size := range uint64(70) {
		for _, off := range append(offs(l), 0, 1, 3775, 3777, 5000, largest) {
			behind(t, "without sizes", x, size, off, next(l, size, off))
		}
	}
	for i, b := range turned(l, 9) {
		deletes(t, "going", x, b.off, true)
		stands(t, "going", x, turned(l, 9)[i+1:])
	}
}

// next is the offset of the block with the least key above size and off, by looking at each one.
func next(l []block, size, off uint64) uint64 {
	var best block
	for _, b := range l {
		if (block{size, off}).less(b) && (best.off == 0 || b.less(best)) {
			best = b
		}
	}
	return best.off
}

// P7.1: Check asks of just these words: with one of them otherwise it is false, with any other one it isn't.
func TestCheckOfEachWord(t *testing.T) {
	for n := range uint64(20) {
		l := some(n, int(n))
		x := laid(t, l)
		tree.Build(x, offs(l))
		own := map[uint64]bool{}
		for _, p := range links(l) {
			own[p.Off] = true
		}
		first := map[uint64]bool{}
		for _, b := range l {
			first[b.off] = true
		}
		for off := uint64(0); off < all; off += 8 {
			if first[off] { // its key is another one
				continue
			}
			v := x.Load(off)
			for _, w := range []uint64{v ^ 1, v ^ 1<<63, v + 1<<32, 0, heap, 4000, largest} {
				if w == v {
					continue
				}
				x.Store(off, w)
				checks(t, "a word otherwise", x, offs(l), !own[off])
			}
			x.Store(off, v)
		}
		stands(t, "as it was", x, l)
		if t.Failed() {
			t.FailNow()
		}
	}
}

// P7.1: Check of a tree's blocks, and of each block more or less, or another one.
func TestCheckOfOthers(t *testing.T) {
	for n := range uint64(40) {
		l := some(n, int(2+n%9))
		x := laid(t, l)
		for i := range l {
			part := slices.Delete(slices.Clone(l), i, i+1)
			tree.Build(x, offs(l))
			checks(t, "one less", x, offs(part), false)
			checks(t, "another one", x, append(offs(part), 96), false)
			tree.Build(x, offs(part))
			checks(t, "one more", x, offs(l), false)
			checks(t, "just these", x, offs(part), true)
		}
		tree.Build(x, offs(l))
		checks(t, "of none", x, nil, false)
		checks(t, "just these", x, offs(l), true)
		checks(t, "one more", x, append(offs(l), 4760), false)
	}
}

// P7.1: Check of a tree with another one's key: the tree that should be is another one.
func TestCheckOfOtherKeys(t *testing.T) {
	l := []block{{64, 3776}, {48, 3920}, {80, 4064}}
	x := laid(t, l)
	tree.Build(x, offs(l))
	stands(t, "as they were", x, l)
	x.Store(3920, 96)
	checks(t, "a greater one", x, offs(l), false)
	x.Store(3920, 0)
	checks(t, "a smaller one, at its place", x, offs(l), true)
	x.Store(3776, 0)
	checks(t, "the least one", x, offs(l), false)
	x.Store(3776, 64|1)
	checks(t, "a used one of the same Size", x, offs(l), true)
}

// odd are offsets at which a block's words aren't all a segment's of 4800 bytes.
func odd() []uint64 {
	return []uint64{4776, 4784, 4792, 4800, 4808, 1, 4, 3777, 3780, 3783, 4799, 5000, 1 << 20, 1<<32 + 3776, 1 << 63, largest - 31, largest - 24, largest - 23, largest - 16, largest - 15, largest - 8, largest - 7, largest - 1, largest}
}

// P7.1: where the segment has no word, Load is 0, and so has the tree to have it: of all lists of two and three such blocks.
func TestCheckOfNoWords(t *testing.T) {
	var lists [][]uint64
	for i, a := range odd() {
		lists = append(lists, []uint64{a}, []uint64{heap, a})
		for _, b := range odd()[:i] {
			lists = append(lists, []uint64{a, b}, []uint64{b, 4000, a})
		}
	}
	right := 0
	for _, l := range lists {
		x := laid(t, nil)
		var bs []block
		for _, off := range l {
			bs = append(bs, block{0, off})
		}
		tree.Build(x, l)
		want := true
		for _, p := range links(bs) {
			want = want && x.Load(p.Off) == p.V
		}
		checks(t, "no words", x, l, want)
		if want {
			tells(t, "no words", x, bs)
			right++
		}
	}
	if right < 50 || right > len(lists)-50 { // leaves are right, others aren't
		t.Errorf("%d of %d are right", right, len(lists))
	}
}

// P7.1, R7: the sons' places are told by sums modulo 2^64.
func TestSumsGoRound(t *testing.T) {
	for _, c := range []struct {
		off         uint64
		left, right uint64
	}{{largest - 7, 0, 8}, {largest - 15, all, 0}, {largest - 23, all, all}, {8, 16, 24}, {largest - 6, all, all}} {
		x := laid(t, nil)
		tree.Build(x, []uint64{c.off})
		checks(t, "round", x, []uint64{c.off}, true)
		stands(t, "round", x, []block{{0, c.off}})
		for _, at := range []uint64{0, 8, 16, 24} {
			v := x.Load(at)
			for _, w := range []uint64{7, heap} {
				x.Store(at, w)
				checks(t, "round", x, []uint64{c.off}, at != c.left && at != c.right)
			}
			x.Store(at, v)
		}
		deletes(t, "round", x, c.off, true)
		stands(t, "round", x, nil)
	}
	x := laid(t, nil)
	tree.Build(x, []uint64{largest - 7, heap})
	tree.Insert(x, 4000)
	stands(t, "round", x, []block{{0, largest - 7}, {0, heap}, {0, 4000}})
	deletes(t, "round", x, largest-7, true)
	stands(t, "round", x, []block{{0, heap}, {0, 4000}})
}

// P1: Build and Check end of any unlike offsets, also if a block's words are another one's.
func TestAnyOffsets(t *testing.T) {
	for n := range uint64(400) {
		x := tx.New(littered(t, 256+n%5*8))
		seen := map[uint64]bool{}
		var l []uint64
		for i := range n % 40 {
			m := mixed(n<<20 + i)
			off := []uint64{m, m % 300, m % 300 &^ 7, m | 1<<63, -(m % 64)}[m>>32%5]
			if !seen[off] {
				seen[off] = true
				l = append(l, off)
			}
		}
		was := slices.Clone(l)
		tree.Check(x, l)
		tree.Build(x, l)
		tree.Check(x, l)
		if !slices.Equal(was, l) {
			t.Fatalf("%v was %v", l, was)
		}
		for _, p := range x.Puts() {
			if p.Off != rootAt && !slices.Contains(l, p.Off-8) && !slices.Contains(l, p.Off-16) {
				t.Errorf("Build(%v) stored at %d", l, p.Off)
			}
		}
	}
}

// P7.2: Insert into each tree, of each block that isn't in it: of some it is the root, of some it gets no sons.
func TestInsert(t *testing.T) {
	roots, leaves := 0, 0
	for n := range uint64(60) {
		l := some(n, int(1+n%12))
		for i, b := range l {
			x := laid(t, l)
			tree.Build(x, offs(slices.Delete(slices.Clone(l), i, i+1)))
			was := words(x)
			tree.Insert(x, b.off)
			stands(t, "put in", x, l)
			kept(t, "put in", x, was, l)
			if head.Root(x) == b.off {
				roots++
			}
			if x.Load(b.off+8) == 0 && x.Load(b.off+16) == 0 {
				leaves++
			}
			if t.Failed() {
				t.Fatalf("%v into %v", b, l)
			}
		}
	}
	if roots < 20 || leaves < 20 {
		t.Errorf("%d roots, %d leaves", roots, leaves)
	}
}

// P7.2: blocks ahead of the heap are as good as any other ones: at 8, amid others, and at 1, whose sons are no words.
func TestAheadOfTheHeap(t *testing.T) {
	for n := range uint64(300) {
		l := append(some(n, 12), block{least + n%5*16, 8})
		x := laid(t, l)
		tree.Build(x, offs(l))
		gone := turned(l, n)
		for i, b := range gone {
			deletes(t, "going", x, b.off, true)
			stands(t, "going", x, gone[i+1:])
		}
		for i, b := range gone {
			tree.Insert(x, b.off)
			stands(t, "coming", x, gone[:i+1])
		}
		if t.Failed() {
			t.Fatalf("%v", gone)
		}
	}
	l := []block{{0, 1}, {0, 3776}, {0, 3920}, {48, 4064}}
	for _, turn := range turns(l) {
		x := laid(t, l)
		for i, b := range turn {
			tree.Insert(x, b.off)
			stands(t, "coming", x, turn[:i+1])
		}
		for i, b := range turn {
			deletes(t, "going", x, b.off, true)
			stands(t, "going", x, turn[i+1:])
		}
	}
}

// P1: a block that is in it already is a wrong input: the tree is still that of these.
func TestInsertAgain(t *testing.T) {
	for n := range uint64(20) {
		l := some(n, int(1+n))
		x := laid(t, l)
		tree.Build(x, offs(l))
		for _, b := range l {
			tree.Insert(x, b.off)
			stands(t, "again", x, l)
		}
	}
}

// P7.2: Delete out of each tree, of each block that is in it: with two sons, with one, and without; what is out keeps its words.
func TestDelete(t *testing.T) {
	sons, roots := [3]int{}, 0
	for n := range uint64(60) {
		l := some(n, int(1+n%12))
		for i, b := range l {
			x := laid(t, l)
			tree.Build(x, offs(l))
			had := 0
			for _, at := range []uint64{b.off + 8, b.off + 16} {
				if x.Load(at) != 0 {
					had++
				}
			}
			sons[had]++
			if head.Root(x) == b.off {
				roots++
			}
			rest := slices.Delete(slices.Clone(l), i, i+1)
			was := words(x)
			deletes(t, "in it", x, b.off, true)
			stands(t, "taken out", x, rest)
			kept(t, "taken out", x, was, rest)
			was = words(x)
			deletes(t, "taken out", x, b.off, false) // its sons still lead into the tree
			kept(t, "again", x, was, nil)
			stands(t, "again", x, rest)
			if t.Failed() {
				t.Fatalf("%v out of %v", b, l)
			}
		}
	}
	if min(sons[0], sons[1], sons[2], roots) < 20 {
		t.Errorf("sons: %v, roots: %d", sons, roots)
	}
}

// P7.2: at each number but the blocks', whatever stands there: nothing is deleted, and nothing is changed.
func TestDeleteOfOthers(t *testing.T) {
	for n := range uint64(12) {
		l := some(n, int(n))
		x := laid(t, l)
		tree.Build(x, offs(l))
		want := x.Puts()
		in := map[uint64]bool{}
		for _, b := range l {
			in[b.off] = true
		}
		for off := range uint64(all + 64) {
			if !in[off] {
				deletes(t, "not in it", x, off, false)
			}
		}
		for less := range uint64(64) {
			deletes(t, "near 2^64", x, largest-less, false)
		}
		for _, b := range l {
			for _, more := range []uint64{1 << 20, 1 << 31, 1 << 32, 1 << 48, 1 << 63} {
				deletes(t, "as an offset of fewer bits it would be one", x, b.off+more, false)
			}
			deletes(t, "as far below 0", x, -b.off, false)
		}
		if got := x.Puts(); !slices.Equal(got, want) {
			t.Errorf("Puts: %v, not %v", got, want)
		}
		stands(t, "as it was", x, l)
	}
	// Blocks that stand in the heap with tags as good as theirs, but that are in no tree.
	l := some(7, 24)
	x := laid(t, l)
	tree.Build(x, offs(l[:12]))
	for _, b := range l[12:] {
		deletes(t, "not in it", x, b.off, false)
	}
	stands(t, "of the others", x, l[:12])
}

// P7.2: After, at each key, one less and one more, and far off.
func TestAfter(t *testing.T) {
	for n := range uint64(30) {
		l := some(n, int(n%16))
		x := laid(t, l)
		tree.Build(x, offs(l))
		sizes := []uint64{0, 1, 47, 1 << 20, 1<<32 + 48, 1 << 63, largest - 1, largest}
		places := []uint64{0, 1, heap - 1, all, 1 << 20, 1<<32 + heap, 1 << 63, largest - 1, largest}
		for _, b := range l {
			sizes = append(sizes, b.size-1, b.size, b.size+1)
			places = append(places, b.off-1, b.off, b.off+1)
		}
		for _, size := range sizes {
			for _, off := range places {
				behind(t, "many", x, size, off, next(l, size, off))
			}
		}
		if t.Failed() {
			t.FailNow()
		}
	}
}

// P7.2: all are told one behind the other, by After as by All.
func TestAfterAndAll(t *testing.T) {
	for n := range uint64(60) {
		l := some(n, int(n%24))
		x := laid(t, l)
		tree.Build(x, offs(l))
		var size, off uint64
		for _, b := range sorted(l) {
			behind(t, "next", x, size, off, b.off)
			size, off = b.size, b.off
		}
		behind(t, "no more", x, size, off, 0)
		tells(t, "many", x, l)
	}
}

// R3: what is told is the caller's own, and nothing is changed by asking.
func TestOwn(t *testing.T) {
	l := some(3, 12)
	x := laid(t, l)
	tree.Build(x, offs(l))
	x.Store(4784, 5)
	want := x.Puts()
	one, two := tree.All(x), tree.All(x)
	clear(one)
	_ = append(one[:3], 1, 2, 3)
	if !slices.Equal(two, offs(sorted(l))) {
		t.Errorf("another list: %v", two)
	}
	tells(t, "again", x, l)
	tree.After(x, 48, 4000)
	tree.Check(x, offs(l))
	tree.Check(x, offs(l[1:]))
	tree.Delete(x, 8)
	if got := x.Puts(); !slices.Equal(got, want) {
		t.Errorf("Puts: %v, not %v", got, want)
	}
}

// P7.3: the same blocks in each turn of coming, and then in each turn of going.
func TestEachTurnOfComing(t *testing.T) {
	l := []block{{64, 3776}, {48, 3824}, {48, 3904}, {80, 3952}, {64, 4000}, {48, 4048}, {0, 4096}}
	for i, turn := range turns(l) {
		x := laid(t, l)
		for j, b := range turn {
			tree.Insert(x, b.off)
			if i%7 == 0 { // asking at each step takes long
				stands(t, "coming", x, turn[:j+1])
			}
		}
		stands(t, "all came", x, l)
		if t.Failed() {
			t.Fatalf("%v", turn)
		}
	}
	for _, turn := range turns(l[:6]) {
		x := laid(t, l)
		tree.Build(x, offs(l))
		for j, b := range turn {
			deletes(t, "going", x, b.off, true)
			stands(t, "going", x, append(slices.Clone(turn[j+1:]), l[6]))
		}
		if t.Failed() {
			t.Fatalf("%v", turn)
		}
	}
}

// P7.3, P3: blocks come and go at random, also of other sizes than before, thought of and applied: the tree is that of those that are in it.
func TestComingAndGoing(t *testing.T) {
	for n := range uint64(40) {
		l := some(n, 20)
		s := littered(t, all)
		x := tx.New(s)
		var in, out []block
		out = slices.Clone(l)
		for i := range uint64(120) {
			m := mixed(n<<32 + i)
			was := words(x)
			if k := int(m >> 8 % 20); k < len(out) {
				b := block{least + m>>16%6*16, out[k].off}
				x.Store(b.off, b.size)
				was = words(x)
				tree.Insert(x, b.off)
				in, out = append(in, b), slices.Delete(out, k, k+1)
			} else {
				k -= len(out)
				deletes(t, "in it", x, in[k].off, true)
				out = append(out, in[k])
				in = slices.Delete(in, k, k+1)
			}
			kept(t, "at random", x, was, in)
			stands(t, "at random", x, in)
			for _, b := range out {
				deletes(t, "out", x, b.off, false)
			}
			behind(t, "at random", x, m>>24%160, m>>40%all, next(in, m>>24%160, m>>40%all))
			if m>>60 == 0 {
				x.Apply()
				x = tx.New(s)
			}
			if t.Failed() {
				t.Fatalf("%d, %d: %v", n, i, in)
			}
		}
	}
}

// P7.1, P7.2: what is thought of over a segment is told; the segment has nothing of it ahead of Apply, and another one never.
func TestThought(t *testing.T) {
	l := some(11, 12)
	s := littered(t, all)
	x := tx.New(s)
	think(x, l[:6])
	tree.Build(x, offs(l[:6]))
	stands(t, "thought of", x, l[:6])
	x.Apply()
	was := s.Copy()

	y, z := tx.New(s), tx.New(s)
	think(y, l[6:])
	for _, b := range l[6:] {
		tree.Insert(y, b.off)
	}
	deletes(t, "thought of", y, l[0].off, true)
	stands(t, "thought of", y, l[1:])
	stands(t, "by another one", z, l[:6])
	deletes(t, "by another one", z, l[3].off, true)
	stands(t, "by another one", z, append(slices.Clone(l[:3]), l[4:6]...))
	stands(t, "without words", y.Bare(), l[:6])
	if offs := seg.Diff(s, was); len(offs) > 0 {
		t.Errorf("other words at %v", offs)
	}
	y.Apply()
	stands(t, "applied", tx.New(s), l[1:])

	// Only the tags are thought of: then the tree is by these.
	w := tx.New(s)
	other := slices.Clone(l)
	for i := range other {
		other[i].size = least + mixed(uint64(i))%9*16
	}
	think(w, other)
	tree.Build(w, offs(other))
	stands(t, "other tags", w, other)
	stands(t, "applied", tx.New(s), l[1:])
}

// R5: nobody's Tx has no words.
func TestNil(t *testing.T) {
	for _, x := range []*tx.Tx{nil, tx.New(nil), tx.New(seg.New(0)), tx.New(nil).Bare()} {
		for _, off := range []uint64{0, 1, 8, 32, heap, 4000, 1 << 63, largest} {
			tree.Insert(x, off)
			tree.Build(x, []uint64{heap, 4000})
			deletes(t, "nobody", x, off, false)
			behind(t, "nobody", x, off, 0, 0)
			behind(t, "nobody", x, 0, off, 0)
			if off != 0 {
				checks(t, "nobody", x, []uint64{off}, false)
			}
		}
		tree.Build(x, nil)
		stands(t, "nobody", x, nil)
		checks(t, "nobody", x, []uint64{}, true)
		checks(t, "nobody", x, []uint64{heap, 4000}, false)
		if p := x.Puts(); len(p) > 0 {
			t.Errorf("Puts: %v", p)
		}
	}
}

// P7.1: a segment without the head's Root has no tree; with it, one may be the root that has no words there.
func TestSmall(t *testing.T) {
	for _, size := range []uint64{8, 16, 24, 32} {
		x := tx.New(seg.New(size))
		for _, off := range []uint64{heap, 4000, 1 << 63, 5} {
			tree.Insert(x, off)
			tree.Build(x, []uint64{off})
			stands(t, "without a root", x, nil)
			checks(t, "without a root", x, []uint64{off}, false)
			deletes(t, "without a root", x, off, false)
		}
		if p := x.Puts(); len(p) > 0 {
			t.Errorf("Puts: %v", p)
		}
	}
	x := tx.New(seg.New(40))
	for _, off := range []uint64{heap, 4000, 1 << 63, 5} {
		tree.Insert(x, off)
		stands(t, "the root alone", x, []block{{0, off}})
		behind(t, "the root alone", x, 0, off-1, off)
		behind(t, "the root alone", x, 0, off, 0)
		deletes(t, "the root alone", x, off, true)
		stands(t, "without it", x, nil)
	}
}

// P7.1, P7.2: blocks as the layers below lay them, also in a segment as large as one can be.
func TestTagsThatAreWritten(t *testing.T) {
	x := tx.New(formatted(t, most, most))
	var l []block
	for off := uint64(heap); off+4096 <= most; {
		m := mixed(off)
		g := tag.Tag{Size: least + m%40*16}
		if err := tag.Write(x, off, g); err != api.OK {
			t.Fatalf("Write at %d: %d", off, err)
		}
		l = append(l, block{g.Size, off})
		off += g.Size
	}
	if len(l) < 2000 {
		t.Fatalf("%d blocks", len(l))
	}
	head.Plant(x, 0)
	for i, b := range turned(l, 1) {
		tree.Insert(x, b.off)
		if i == len(l)/2 {
			stands(t, "half of them", x, turned(l, 1)[:i+1])
		}
	}
	stands(t, "many", x, l)
	for _, b := range l[:200] {
		behind(t, "many", x, b.size, b.off, next(l, b.size, b.off))
		behind(t, "many", x, b.size+1, 0, next(l, b.size+1, 0))
	}
	gone := turned(l, 2)
	for _, b := range gone[:len(l)/2] {
		deletes(t, "many", x, b.off, true)
		deletes(t, "many", x, b.off, false)
	}
	stands(t, "the other half", x, gone[len(l)/2:])
	for _, b := range gone[len(l)/2:] {
		deletes(t, "many", x, b.off, true)
	}
	stands(t, "none are left", x, nil)
}

// chain are blocks of which each has one son at most: the greater the rank, the smaller or the greater the key, or in turn.
func chain(blocks uint64, lean func(i uint64) uint64) []block {
	var l []block
	for i := range blocks {
		l = append(l, block{0, heap + 24*i})
	}
	slices.SortFunc(l, func(a, b block) int {
		if rank(a.off) > rank(b.off) {
			return -1
		}
		return 1
	})
	for i := range l {
		l[i].size = lean(uint64(i))
	}
	return l
}

// P1: a tree as deep as it has blocks is as good as any other one, and takes not too long.
func TestDeep(t *testing.T) {
	const many = 40000
	for name, lean := range map[string]func(i uint64) uint64{
		"right":   func(i uint64) uint64 { return least + 16*i },
		"left":    func(i uint64) uint64 { return least + 16*(many-i) },
		"in turn": func(i uint64) uint64 { return least + 16*(i/2+i%2*(many-i)) },
	} {
		x := tx.New(seg.New(most))
		l := chain(many, lean)
		think(x, l)
		tree.Build(x, turned(offs(l), 3))
		if !tree.Check(x, offs(l)) {
			t.Errorf("%s: Check", name)
		}
		if len(tree.All(x)) != many {
			t.Errorf("%s: All: %d", name, len(tree.All(x)))
		}
		at := uint64(rootAt)
		for _, b := range l { // each one is the only son of the one ahead
			if x.Load(at) != b.off {
				t.Fatalf("%s: at %d: %d, not %d", name, at, x.Load(at), b.off)
			}
			at = b.off + 8
			if x.Load(at) == 0 {
				at = b.off + 16
			}
		}
		bottom := l[many-1]
		deletes(t, name, x, bottom.off, true)
		checks(t, name, x, offs(l[:many-1]), true)
		deletes(t, name, x, l[0].off, true)
		checks(t, name, x, offs(l[1:many-1]), true)
		tree.Insert(x, bottom.off)
		tree.Insert(x, l[0].off)
		checks(t, name, x, offs(l), true)

		x = tx.New(seg.New(most))
		l = chain(300, lean)
		think(x, l)
		for _, b := range turned(l, 4) {
			tree.Insert(x, b.off)
		}
		stands(t, name, x, l)
	}
}
