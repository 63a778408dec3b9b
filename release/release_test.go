package release_test

import (
	"slices"
	"testing"

	"carrack/api"
	"carrack/carve"
	"carrack/client"
	"carrack/head"
	"carrack/ledger"
	"carrack/phys"
	"carrack/release"
	"carrack/seg"
	"carrack/tag"
	"carrack/tree"
	"carrack/tx"
)

const largest = 1<<64 - 1

// What the document says, as numbers: also package api is asked.
const (
	clients = 8
	rootAt  = 32
	table   = 64
	record  = 416
	heap    = 3776
	least   = 48
	over    = 40
	front   = 32
	most    = 1 << 20
)

// headAt is where a client's first block should be told.
func headAt(c int) uint64 { return table + uint64(c)*record + 8 }

// mixed is a number that hangs on n alone, with unlike bytes.
func mixed(n uint64) uint64 {
	n = (n + 1) * 0x9E3779B97F4A7C15
	n = (n ^ n>>31) * 0xBF58476D1CE4E5B9
	return n ^ n>>29
}

// state is a heap's blocks, as they stand, and the clients' lists, the first block of each first.
type state struct {
	blocks []phys.Block
	lists  [clients][]uint64
}

// free is a free block, used a used one; where they stand is told by sound.
func free(size uint64) phys.Block { return phys.Block{Tag: tag.Tag{Size: size}} }

func used(size uint64, owner int, n uint64) phys.Block {
	return phys.Block{Tag: tag.Tag{Size: size, Used: true, Owner: owner}, Len: n}
}

// sound lets each block begin where the one ahead of it ends, and gives each client its blocks, the last one first.
func sound(l ...phys.Block) state {
	h := state{blocks: slices.Clone(l)}
	off := uint64(heap)
	for i := range h.blocks {
		b := &h.blocks[i]
		b.Off = off
		off += b.Tag.Size
		if c := b.Tag.Owner - 1; c >= 0 {
			h.lists[c] = append([]uint64{b.Off}, h.lists[c]...)
		}
	}
	return h
}

// ends is where a heap ends.
func (h state) ends() uint64 {
	last := h.blocks[len(h.blocks)-1]
	return last.Off + last.Tag.Size
}

// free are the free blocks, by their sizes, and then by where they stand.
func (h state) free() []phys.Block {
	var l []phys.Block
	for _, b := range h.blocks {
		if b.Tag.Used {
			continue
		}
		i := 0
		for i < len(l) && l[i].Tag.Size <= b.Tag.Size { // those of one size come as they stand
			i++
		}
		l = slices.Insert(l, i, b)
	}
	return l
}

func offs(l []phys.Block) []uint64 {
	var o []uint64
	for _, b := range l {
		o = append(o, b.Off)
	}
	return o
}

// payloads are those of the used blocks, as they stand.
func (h state) payloads() []uint64 {
	var l []uint64
	for _, b := range h.blocks {
		if b.Tag.Used {
			l = append(l, b.Off+front)
		}
	}
	return l
}

// rank is what word.Mix should be, by a product.
func rank(off uint64) uint64 { return off * 0x9E3779B97F4A7C15 }

// hung are all words of the tree of blocks, that come by their keys, below the word at.
func hung(out []api.Put, at uint64, l []phys.Block) []api.Put {
	if len(l) == 0 {
		return append(out, api.Put{Off: at})
	}
	top := 0
	for i, b := range l {
		if rank(b.Off) > rank(l[top].Off) {
			top = i
		}
	}
	off := l[top].Off
	out = append(out, api.Put{Off: at, V: off})
	out = hung(out, off+8, l[:top])
	return hung(out, off+16, l[top+1:])
}

// words are all words of a heap that say what it is: tags, how many bytes blocks have, the lists, and the tree.
func (h state) words() []api.Put {
	var out []api.Put
	for _, b := range h.blocks {
		w := b.Tag.Size + uint64(b.Tag.Owner)<<32
		if b.Tag.Used {
			w++
			out = append(out, api.Put{Off: b.Off + 8, V: b.Len})
		}
		out = append(out, api.Put{Off: b.Off, V: w}, api.Put{Off: b.Off + b.Tag.Size - 8, V: w})
	}
	for c, l := range h.lists {
		at, ahead := headAt(c), uint64(0)
		for _, off := range l {
			out = append(out, api.Put{Off: at, V: off}, api.Put{Off: off + 24, V: ahead})
			at, ahead = off+16, off
		}
		out = append(out, api.Put{Off: at})
	}
	return hung(out, rootAt, h.free())
}

// littered is a segment with a head, whose every other word is another number.
func littered(t *testing.T, all, size uint64) *seg.Seg {
	t.Helper()
	s := seg.New(all)
	if err := head.Format(s, size); err != api.OK {
		t.Fatalf("Format of %d bytes at %d: %d", all, size, err)
	}
	for off := uint64(table); off < all; off += 8 {
		if err := s.Store(off, mixed(off)|1); err != api.OK {
			t.Fatalf("Store(%d): %d", off, err)
		}
	}
	return s
}

// laid is a segment, and a Tx over it without words of its own, whose heap is so.
func laid(t *testing.T, h state) (*seg.Seg, *tx.Tx) {
	t.Helper()
	s := littered(t, min(h.ends()+64, most), h.ends())
	for _, w := range h.words() {
		if err := s.Store(w.Off, w.V); err != api.OK {
			t.Fatalf("Store(%d): %d", w.Off, err)
		}
	}
	x := tx.New(s)
	stands(t, "laid", x, h)
	return s, x
}

// stands asks for a sound heap that is just so.
func stands(t *testing.T, what string, x *tx.Tx, h state) {
	t.Helper()
	l, err := phys.Walk(x)
	if !slices.Equal(l, h.blocks) || err != api.OK {
		t.Errorf("%s: the blocks: %+v, %d, not %+v", what, l, err, h.blocks)
	}
	if !phys.Merged(l) {
		t.Errorf("%s: two free blocks stand beside each other: %+v", what, l)
	}
	if want := offs(h.free()); !tree.Check(x, want) || !slices.Equal(tree.All(x), want) {
		t.Errorf("%s: the tree: %v, not %v", what, tree.All(x), want)
	}
	for c, want := range h.lists {
		if !ledger.Check(x, c, want) || !slices.Equal(ledger.List(x, c), want) {
			t.Errorf("%s: the list of the client %d: %v, not %v", what, c, ledger.List(x, c), want)
		}
	}
}

// loads is what a Tx tells of each word of its segment.
func loads(x *tx.Tx) []uint64 {
	l := make([]uint64, x.Size()/8)
	for i := range l {
		l[i] = x.Load(uint64(i) * 8)
	}
	return l
}

// find is where the used block of a payload stands in a heap's blocks.
func (h state) find(payload uint64) (int, bool) {
	for i, b := range h.blocks {
		if b.Tag.Used && b.Off+front == payload {
			return i, true
		}
	}
	return 0, false
}

// merged is a heap with no two free blocks beside each other.
func (h state) merged() state {
	var l []phys.Block
	for _, b := range h.blocks {
		if last := len(l) - 1; last >= 0 && !b.Tag.Used && !l[last].Tag.Used {
			l[last].Tag.Size += b.Tag.Size
		} else {
			l = append(l, b)
		}
	}
	h.blocks = l
	return h
}

// freed is what Free should tell, and the heap behind it.
func (h state) freed(payload uint64) (state, api.Errno) {
	i, ok := h.find(payload)
	if !ok {
		return h, api.ErrBad
	}
	b := h.blocks[i]
	h.blocks = slices.Clone(h.blocks)
	h.blocks[i] = phys.Block{Off: b.Off, Tag: tag.Tag{Size: b.Tag.Size}}
	if c := b.Tag.Owner - 1; c >= 0 {
		h.lists[c] = slices.DeleteFunc(slices.Clone(h.lists[c]), func(off uint64) bool { return off == b.Off })
	}
	return h.merged(), api.OK
}

// need is how large a block of so many bytes is.
func need(n uint64) uint64 { return (max(n, 8) + 55) / 16 * 16 }

// cut is what Cut should tell, and the heap behind it.
func (h state) cut(payload, size uint64) (state, api.Errno) {
	i, ok := h.find(payload)
	if !ok {
		return h, api.ErrBad
	}
	b := h.blocks[i]
	if size%16 != 0 || size < 48 || size < need(b.Len) || size > b.Tag.Size {
		return h, api.ErrArg
	}
	rest := free(b.Tag.Size - size)
	if rest.Tag.Size < 48 {
		return h, api.OK
	}
	rest.Off = b.Off + size
	h.blocks = slices.Insert(slices.Clone(h.blocks), i+1, rest)
	h.blocks[i].Tag.Size = size
	return h.merged(), api.OK
}

// frees asks what Free tells of a heap that is so, and for all words behind it; the heap behind it is told.
func frees(t *testing.T, what string, x *tx.Tx, h state, payload uint64) state {
	t.Helper()
	behind, want := h.freed(payload)
	puts, was := x.Puts(), loads(x)
	if err := release.Free(x, payload); err != want {
		t.Errorf("%s: Free(%d): %d, not %d", what, payload, err, want)
	}
	became(t, what, x, behind, puts, was, want != api.OK)
	if t.Failed() {
		t.Fatalf("%s: Free(%d) of %+v", what, payload, h)
	}
	return behind
}

// cuts asks what Cut tells of a heap that is so, and for all words behind it; the heap behind it is told.
func cuts(t *testing.T, what string, x *tx.Tx, h state, payload, size uint64) state {
	t.Helper()
	behind, want := h.cut(payload, size)
	puts, was := x.Puts(), loads(x)
	if err := release.Cut(x, payload, size); err != want {
		t.Errorf("%s: Cut(%d, %d): %d, not %d", what, payload, size, err, want)
	}
	became(t, what, x, behind, puts, was, len(behind.blocks) == len(h.blocks) && slices.Equal(behind.blocks, h.blocks))
	if t.Failed() {
		t.Fatalf("%s: Cut(%d, %d) of %+v", what, payload, size, h)
	}
	return behind
}

// became asks for a heap that is so, with all other words as they were; and that no word is thought of but those that were, and the heap's own, or none at all.
func became(t *testing.T, what string, x *tx.Tx, h state, were []api.Put, was []uint64, none bool) {
	t.Helper()
	stands(t, what, x, h)
	if none {
		if got := x.Puts(); !slices.Equal(got, were) {
			t.Errorf("%s: %v is thought of, ahead of it there was %v", what, got, were)
		}
		return
	}
	may := map[uint64]int{}
	for _, w := range were {
		may[w.Off] = 1
	}
	for _, w := range h.words() {
		was[w.Off/8] = w.V
		may[w.Off] = 1
	}
	for i, v := range loads(x) {
		if v != was[i] {
			t.Errorf("%s: the word at %d: %#x, not %#x", what, i*8, v, was[i])
		}
	}
	for _, w := range x.Puts() {
		if may[w.Off] == 0 {
			t.Errorf("%s: %v is thought of, too", what, w)
		}
	}
}

// several has used blocks with free neighbours and without, of all owners, some of them more than once; it ends at 7040.
func several() state {
	h := sound(
		used(64, 1, 20), free(208), used(48, 2, 8), free(64), used(48, 1, 0), used(112, 3, 72), free(112), used(96, 0, 50), free(64),
		used(80, 8, 33), used(64, 0, 24), used(48, 1, 1), free(352), used(64, 3, 24), free(208), used(112, 0, 70), free(96),
		used(48, 2, 7), used(80, 4, 40), used(48, 8, 8), free(112), used(144, 1, 90), free(256), used(48, 5, 3), free(64),
		used(208, 2, 9), used(96, 6, 56), used(48, 0, 5), used(64, 7, 17), free(48), used(160, 2, 100), used(80, 3, 1),
	)
	h.lists[0] = []uint64{h.blocks[4].Off, h.blocks[21].Off, h.blocks[0].Off, h.blocks[11].Off} // in no turn that stands otherwise
	h.lists[1] = []uint64{h.blocks[17].Off, h.blocks[2].Off, h.blocks[30].Off, h.blocks[25].Off}
	return h
}

// random is a heap that hangs on n alone.
func random(n uint64) state {
	var l []phys.Block
	for i := range 4 + mixed(n)%24 {
		m := mixed(n<<20 + i)
		size := least + m%18*16
		if m>>60 == 0 {
			size += m >> 20 % 60 * 16
		}
		if m>>32%2 == 0 && (i == 0 || l[i-1].Tag.Used) {
			l = append(l, free(size))
		} else {
			l = append(l, used(size, int(m>>40%9), m>>44%(size-over+1)))
		}
	}
	h := sound(l...)
	for c, list := range h.lists {
		for i := len(list) - 1; i > 0; i-- {
			j := mixed(n<<24+uint64(c)<<16+uint64(i)) % uint64(i+1)
			list[i], list[j] = list[j], list[i]
		}
	}
	return h
}

// has asks for some words.
func has(t *testing.T, what string, x *tx.Tx, l ...api.Put) {
	t.Helper()
	for _, w := range l {
		if v := x.Load(w.Off); v != w.V {
			t.Errorf("%s: the word at %d: %#x, not %#x", what, w.Off, v, w.V)
		}
	}
}

// formatted is a segment of so many bytes that is all heap, and a Tx over it.
func formatted(t *testing.T, size uint64) (*seg.Seg, *tx.Tx) {
	t.Helper()
	s := seg.New(size)
	if err := head.Format(s, size); err != api.OK {
		t.Fatalf("Format: %d", err)
	}
	return s, tx.New(s)
}

// P11.1, by hand: three blocks of the client 2, of 64 bytes each, with 112 free bytes behind them; the one amid them, the last one, and the first one are freed.
func TestFreeByHand(t *testing.T) {
	s, x := formatted(t, 4080)
	was := s.Copy()
	for i, want := range []uint64{3808, 3872, 3936} {
		if p, err := carve.Take(x, 3, 24, 16); p != want || err != api.OK {
			t.Fatalf("Take: %d, %d", p, err)
		}
		x.Store(want, uint64(i)+71)
	}
	if err := release.Free(x, 3872); err != api.OK {
		t.Errorf("Free: %d", err)
	}
	has(t, "amid", x, api.Put{Off: 3840, V: 64}, api.Put{Off: 3896, V: 64},
		api.Put{Off: 904, V: 3904}, api.Put{Off: 3920, V: 3776}, api.Put{Off: 3928}, api.Put{Off: 3792}, api.Put{Off: 3800, V: 3904}, // the list: 3904, 3776
		api.Put{Off: 3776, V: 0x300000041}, api.Put{Off: 3784, V: 24}, api.Put{Off: 3808, V: 71}, api.Put{Off: 3832, V: 0x300000041},
		api.Put{Off: 3904, V: 0x300000041}, api.Put{Off: 3912, V: 24}, api.Put{Off: 3936, V: 73}, api.Put{Off: 3960, V: 0x300000041},
		api.Put{Off: 3968, V: 112}, api.Put{Off: 4072, V: 112})
	if !tree.Check(x, []uint64{3840, 3968}) {
		t.Errorf("the tree: %v", tree.All(x))
	}
	if err := release.Free(x, 3936); err != api.OK { // with both neighbours
		t.Errorf("Free: %d", err)
	}
	has(t, "the last one", x, api.Put{Off: 3840, V: 240}, api.Put{Off: 4072, V: 240}, api.Put{Off: 3848}, api.Put{Off: 3856}, api.Put{Off: rootAt, V: 3840},
		api.Put{Off: 904, V: 3776}, api.Put{Off: 3792}, api.Put{Off: 3800}, api.Put{Off: 3776, V: 0x300000041}, api.Put{Off: 3808, V: 71}, api.Put{Off: 3832, V: 0x300000041})
	if err := release.Free(x, 3808); err != api.OK {
		t.Errorf("Free: %d", err)
	}
	has(t, "the first one", x, api.Put{Off: 3776, V: 304}, api.Put{Off: 4072, V: 304}, api.Put{Off: 3784}, api.Put{Off: 3792}, api.Put{Off: rootAt, V: 3776},
		api.Put{Off: 904}, api.Put{Off: 16, V: 4080}, api.Put{Off: 24})
	if l := seg.Diff(s, was); len(l) > 0 {
		t.Errorf("not applied, but other words at %v", l)
	}
}

// P11.2, by hand: 20 bytes of the client 1 in a block of 160, with 96 free bytes behind it.
func TestCutByHand(t *testing.T) {
	h := sound(used(160, 2, 20), free(96), used(48, 0, 8))
	for _, c := range []struct {
		size   uint64
		want   api.Errno
		blocks state
	}{
		{160, api.OK, h}, {144, api.OK, h}, {128, api.OK, h},
		{112, api.OK, sound(used(112, 2, 20), free(144), used(48, 0, 8))},
		{96, api.OK, sound(used(96, 2, 20), free(160), used(48, 0, 8))},
		{80, api.OK, sound(used(80, 2, 20), free(176), used(48, 0, 8))},
		{64, api.OK, sound(used(64, 2, 20), free(192), used(48, 0, 8))},
		{48, api.ErrArg, h}, {32, api.ErrArg, h}, {16, api.ErrArg, h}, {0, api.ErrArg, h}, {176, api.ErrArg, h}, {256, api.ErrArg, h},
		{72, api.ErrArg, h}, {88, api.ErrArg, h}, {104, api.ErrArg, h}, {113, api.ErrArg, h}, {159, api.ErrArg, h}, {161, api.ErrArg, h}, {40, api.ErrArg, h},
		{1<<32 + 64, api.ErrArg, h}, {1<<63 + 64, api.ErrArg, h}, {largest - 15, api.ErrArg, h}, {largest, api.ErrArg, h},
	} {
		s, x := laid(t, h)
		was := s.Copy()
		if err := release.Cut(x, 3808, c.size); err != c.want {
			t.Errorf("Cut to %d: %d, not %d", c.size, err, c.want)
		}
		stands(t, "cut", x, c.blocks)
		for off := uint64(3808); off < 3832; off += 8 {
			if v, _ := was.Load(off); x.Load(off) != v {
				t.Errorf("Cut to %d: the word at %d: %#x, not %#x", c.size, off, x.Load(off), v)
			}
		}
		if l := seg.Diff(s, was); len(l) > 0 {
			t.Errorf("Cut to %d: not applied, but other words at %v", c.size, l)
		}
	}
}

// The chapter's example, and the document's fifth one.
func TestExample(t *testing.T) {
	_, x := formatted(t, 4000)
	p, err := carve.Take(x, 1, 8, 16)
	if p != 3808 || err != api.OK {
		t.Fatalf("Take: %d, %d", p, err)
	}
	if err := release.Free(x, p); err != api.OK {
		t.Errorf("Free: %d", err)
	}
	stands(t, "taken, and freed", x, sound(free(224)))
}

// P11.1: with free neighbours on each side, and without; amid others, as the first block, as the last one, and as the only one; of all owners.
func TestNeighbours(t *testing.T) {
	for owner := range 9 {
		for _, ahead := range [][]phys.Block{nil, {used(64, 4, 9)}, {free(80)}, {used(48, owner, 8), free(96)}, {free(48), used(64, owner, 3)}} {
			for _, behind := range [][]phys.Block{nil, {used(64, 4, 9)}, {free(80)}, {free(112), used(48, owner, 8)}, {used(80, owner, 3), free(96), used(48, 8, 1)}} {
				for _, size := range []uint64{48, 64, 80, 96, 112, 400} {
					h := sound(slices.Concat(ahead, []phys.Block{used(size, owner, 5)}, behind)...)
					_, x := laid(t, h)
					now := frees(t, "neighbours", x, h, h.blocks[len(ahead)].Off+front)
					if len(ahead)+len(behind) == 0 && (len(now.blocks) != 1 || head.Root(x) != heap) {
						t.Errorf("the only one: %+v", now.blocks)
					}
				}
			}
		}
	}
	for _, c := range []struct{ was, now state }{ // by hand
		{sound(used(48, 1, 8), used(64, 2, 9), used(80, 1, 3)), sound(used(48, 1, 8), free(64), used(80, 1, 3))},
		{sound(used(48, 1, 8), free(96), used(64, 2, 9), used(80, 1, 3)), sound(used(48, 1, 8), free(160), used(80, 1, 3))},
		{sound(used(48, 1, 8), used(64, 2, 9), free(96), used(80, 1, 3)), sound(used(48, 1, 8), free(160), used(80, 1, 3))},
		{sound(used(48, 1, 8), free(48), used(64, 2, 9), free(96), used(80, 1, 3)), sound(used(48, 1, 8), free(208), used(80, 1, 3))},
		{sound(used(64, 2, 9), used(48, 1, 8)), sound(free(64), used(48, 1, 8))},
		{sound(used(64, 2, 9), free(80), used(48, 1, 8)), sound(free(144), used(48, 1, 8))},
		{sound(used(48, 1, 8), used(64, 2, 9)), sound(used(48, 1, 8), free(64))},
		{sound(used(48, 1, 8), free(80), used(64, 2, 9)), sound(used(48, 1, 8), free(144))},
		{sound(used(64, 2, 9)), sound(free(64))},
		{sound(free(80), used(64, 2, 9), free(48)), sound(free(192))},
	} {
		_, x := laid(t, c.was)
		p := c.was.lists[1][0] + front
		if err := release.Free(x, p); err != api.OK {
			t.Errorf("Free(%d) of %+v: %d", p, c.was.blocks, err)
		}
		stands(t, "by hand", x, c.now)
	}
}

// P11.1: the first one of a list, the last one, those amid it, and the only one; all other lists stay.
func TestLists(t *testing.T) {
	for owner := 1; owner <= 8; owner++ {
		for n := 1; n <= 5; n++ {
			var l []phys.Block
			for i := range n {
				l = append(l, used(48, owner, 8), used(64, owner%8+1, 9), used(48, 0, 3))
				if i%2 == 0 {
					l = append(l, free(80))
				}
			}
			h := sound(l...)
			list := h.lists[owner-1]
			slices.Reverse(list[:len(list)/2]) // they needn't stand as they are linked
			for _, off := range list {
				_, x := laid(t, h)
				now := frees(t, "a list", x, h, off+front)
				if got := ledger.List(x, owner-1); slices.Contains(got, off) || len(got) != n-1 {
					t.Errorf("of %v, without %d: %v", list, off, got)
				}
				frees(t, "a list, again", x, now, off+front)
			}
			_, x := laid(t, h)
			now := h
			for i := range list { // all of them
				now = frees(t, "a whole list", x, now, list[(i+n/2)%n]+front)
			}
			if got := ledger.List(x, owner-1); len(got) > 0 || client.Head(x, owner-1) != 0 {
				t.Errorf("a whole list: %v", got)
			}
		}
	}
}

// P11.1: of each block of a heap with unlike neighbours, by itself, and one behind the other.
func TestFreeEach(t *testing.T) {
	h := several()
	_, x := laid(t, h)
	for _, p := range h.payloads() {
		frees(t, "by itself", x.Bare(), h, p)
	}
	now := h
	for _, p := range h.payloads() {
		now = frees(t, "upwards", x, now, p)
	}
	stands(t, "upwards", x, sound(free(h.ends()-heap)))
	_, x = laid(t, h)
	now = h
	for _, p := range slices.Backward(h.payloads()) {
		now = frees(t, "downwards", x, now, p)
	}
	stands(t, "downwards", x, sound(free(h.ends()-heap)))
}

// P11.1, P11.2: an offset that is no payload: of a free block, within a block, of no multiple of 16, 0, in the head, beyond the heap, 2^64 - 1.
func TestNoPayload(t *testing.T) {
	h := several()
	_, x := laid(t, h)
	var l []uint64
	for off := uint64(0); off < x.Size()+200; off++ {
		l = append(l, off)
	}
	for _, p := range h.payloads() {
		l = append(l, p+1<<20, p+1<<32, p+1<<63, -p&largest)
	}
	l = append(l, 1<<20, 1<<32, 1<<63, largest-31, largest-15, largest-7, largest)
	payloads := h.payloads()
	for _, p := range l {
		if slices.Contains(payloads, p) {
			continue
		}
		if err := release.Free(x, p); err != api.ErrBad {
			t.Errorf("Free(%d): %d", p, err)
		}
		for _, size := range []uint64{48, 64, 0, 40, 47, largest - 15, largest} { // it is named first
			if err := release.Cut(x, p, size); err != api.ErrBad {
				t.Errorf("Cut(%d, %d): %d", p, size, err)
			}
		}
	}
	stands(t, "asked in vain", x, h)
	if l := x.Puts(); len(l) > 0 {
		t.Errorf("asked in vain, but thought of: %v", l)
	}
}

// P11.1, P11.2: what is free already isn't freed, nor cut; also where its tag and its Len still stand.
func TestTwice(t *testing.T) {
	h := several()
	for _, p := range h.payloads() {
		_, x := laid(t, h)
		now := frees(t, "once", x, h, p)
		frees(t, "twice", x, now, p)
		frees(t, "thrice", x, now, p)
		for _, size := range []uint64{48, 64, 112, 0, 40} {
			cuts(t, "freed, and cut", x, now, p, size)
		}
		x.Apply()
		frees(t, "twice, applied", x.Bare(), now, p)
	}
}

// P11.1: a block that was made within another one's bytes isn't found, before and behind.
func TestInnerBlock(t *testing.T) {
	h := sound(used(48, 1, 8), used(240, 2, 200), free(240))
	_, x := laid(t, h)
	for _, off := range []uint64{3872, 3920, 4112} { // within both of them
		for _, g := range []tag.Tag{{Size: 48, Used: true}, {Size: 64, Used: true, Owner: 2}, {Size: 48, Used: true, Owner: 1}} {
			tag.Write(x, off, g)
			x.Store(off+8, 8)
			frees(t, "within", x, h, off+front)
			cuts(t, "within", x, h, off+front, 48)
		}
	}
	h = frees(t, "around it", x, h, 3824+front)
	stands(t, "around it", x, sound(used(48, 1, 8), free(480)))
	for _, off := range []uint64{3872, 3920, 4112} {
		frees(t, "within", x, h, off+front)
	}
}

// sizes are some to which a block may be cut, or may not.
func sizes(b phys.Block) []uint64 {
	just, size := need(b.Len), b.Tag.Size
	l := []uint64{0, 1, 8, 16, 32, 40, 47, 48, 49, 56, 63, 64, 80, 96, just - 32, just - 16, just - 8, just - 1, just, just + 1, just + 8, just + 16, just + 32, just + 48}
	for d := uint64(0); d <= 112; d += 8 {
		l = append(l, size-d, size+d, size-d+1, size-d-1)
	}
	for shift := 12; shift < 64; shift++ {
		l = append(l, 1<<shift, 1<<shift+just, 1<<shift+size, 1<<shift-16)
	}
	return append(l, largest-15, largest-31, largest-47, largest-7, largest, largest-just+1, largest-size+1)
}

// P11.2: of each block of a heap with unlike neighbours: all sizes.
func TestCutEach(t *testing.T) {
	h := several()
	_, x := laid(t, h)
	for _, b := range h.blocks {
		if !b.Tag.Used {
			continue
		}
		for _, size := range sizes(b) {
			cuts(t, "by itself", x.Bare(), h, b.Off+front, size)
		}
	}
	for n := range uint64(5) { // and one behind the other, in one Tx
		now := h
		x := x.Bare()
		for i, p := range h.payloads() {
			j, _ := now.find(p)
			l := sizes(now.blocks[j])
			for k := range uint64(6) {
				now = cuts(t, "on and on", x, now, p, l[mixed(n<<40+uint64(i)<<8+k)%uint64(len(l))])
			}
		}
	}
}

// P11.2: with each number of bytes, to each size that is a multiple of 16, and to those beside it; with a free block right behind, a used one, and none.
func TestCutSizes(t *testing.T) {
	told := map[api.Errno]int{}
	split := 0
	for n := range uint64(121) {
		for i, behind := range [][]phys.Block{{free(64), used(48, 1, 8)}, {used(48, 1, 8), free(48)}, {free(48)}, nil} {
			for _, ahead := range [][]phys.Block{nil, {free(48)}} { // what is free ahead stays as it is
				if n%3 != 0 && (i%2 == 0) == (ahead == nil) {
					continue
				}
				h := sound(slices.Concat(ahead, []phys.Block{used(160, int(n%9), n)}, behind)...)
				_, x := laid(t, h)
				p := h.blocks[len(ahead)].Off + front
				for size := uint64(0); size <= 288; size += 8 {
					now, err := h.cut(p, size)
					told[err]++
					if !slices.Equal(now.blocks, h.blocks) {
						split++
					}
					cuts(t, "sizes", x.Bare(), h, p, size)
				}
			}
		}
	}
	if told[api.OK] < 1000 || told[api.ErrArg] < 1000 || split < 500 {
		t.Errorf("too few of one kind: %v, %d", told, split)
	}
}

// P11.2: to just what its Len needs, to 16 less, and to 48 bytes, of blocks of all lengths.
func TestCutToNeed(t *testing.T) {
	for _, c := range []struct{ n, just uint64 }{
		{0, 48}, {1, 48}, {7, 48}, {8, 48}, {9, 64}, {23, 64}, {24, 64}, {25, 80}, {40, 80}, {41, 96}, {100, 144}, {104, 144}, {105, 160}, {1000, 1040}, {1001, 1056},
	} {
		for _, more := range []uint64{0, 16, 32, 48, 64, 80, 4000} {
			for _, behind := range []phys.Block{free(64), used(64, 3, 7)} {
				h := sound(used(48, 2, 8), used(c.just+more, 2, c.n), behind, used(48, 2, 8))
				_, x := laid(t, h)
				if err := release.Cut(x, 3856, c.just-16); err != api.ErrArg {
					t.Errorf("%d bytes, cut to %d: %d", c.n, c.just-16, err)
				}
				if err := release.Cut(x, 3856, c.just+more+16); err != api.ErrArg {
					t.Errorf("of %d, cut to %d: %d", c.just+more, c.just+more+16, err)
				}
				if err := release.Cut(x, 3856, 48); err != api.ErrArg && c.just > 48 {
					t.Errorf("%d bytes, cut to 48: %d", c.n, err)
				}
				if c.just > 48 {
					stands(t, "in vain", x, h)
				}
				x = x.Bare()
				now := cuts(t, "to what it needs", x, h, 3856, c.just)
				b, ok := phys.Find(x, 3856)
				want := used(c.just+more, 2, c.n)
				want.Off = 3824
				if more >= 48 {
					want.Tag.Size = c.just
				}
				if !ok || b != want {
					t.Errorf("%d bytes, and %d more, cut to %d: %+v", c.n, more, c.just, b)
				}
				for _, size := range []uint64{c.just, c.just + 16, c.just - 16, c.just + more} {
					now = cuts(t, "again", x, now, 3856, size)
				}
			}
		}
	}
}

// P11.2: the kept block's bytes, its owner, its Len, and its place in its list; each owner.
func TestCutKeeps(t *testing.T) {
	for owner := range 9 {
		h := sound(used(64, owner, 8), used(400, owner, 61), used(48, owner, 3), free(96))
		for size := uint64(112); size <= 400; size += 16 {
			s, x := laid(t, h)
			was, _ := s.Bytes(3872, 64)
			now := cuts(t, "kept", x, h, 3872, size)
			if owner > 0 && !slices.Equal(now.lists[owner-1], []uint64{4240, 3840, 3776}) {
				t.Errorf("the list: %v", now.lists[owner-1])
			}
			x.Apply()
			if is, err := s.Bytes(3872, 64); !slices.Equal(is, was) || err != api.OK {
				t.Errorf("cut to %d: the bytes: %v, not %v", size, is, was)
			}
			b, ok := phys.Find(tx.New(s), 3872)
			if !ok || b.Tag.Owner != owner || b.Len != 61 || !b.Tag.Used {
				t.Errorf("cut to %d: %+v", size, b)
			}
		}
	}
}

// P11.2: "less than 48 bytes" is told of the block's own bytes, not of these and the free ones behind them.
func TestCutTooLittle(t *testing.T) {
	for _, less := range []uint64{0, 16, 32} {
		for _, behind := range []uint64{48, 64, 96, 4000} {
			h := sound(used(112, 1, 8), free(behind), used(48, 2, 8))
			_, x := laid(t, h)
			if err := release.Cut(x, 3808, 112-less); err != api.OK {
				t.Errorf("%d less: %d", less, err)
			}
			if l := x.Puts(); len(l) > 0 {
				t.Errorf("%d less: thought of %v", less, l)
			}
			stands(t, "too little", x, h)
		}
	}
}

// P11.3: what was taken, and is freed, leaves the heap as it was: blocks, tree, and lists, in heaps of any blocks.
func TestTakenAndFreed(t *testing.T) {
	taken := 0
	for n := range uint64(200) {
		h := random(n)
		_, x := laid(t, h)
		for i := range uint64(8) {
			m := mixed(n<<32 + i)
			owner, bytes, a := int(m%9), m>>8%200, uint64(16)<<(m>>24%4)
			p, err := carve.Take(x, owner, bytes, a)
			if err != api.OK {
				continue
			}
			taken++
			if err := release.Free(x, p); err != api.OK {
				t.Errorf("Free(%d): %d", p, err)
			}
			stands(t, "taken, and freed", x, h)
			has(t, "taken, and freed", x, h.words()...)
			if q, err := carve.Take(x.Bare(), owner, bytes, a); q != p || err != api.OK { // in the segment as it was, and in it with all that is thought of
				t.Errorf("taken by another one: %d, %d, not %d", q, err, p)
			}
			if q, err := carve.Take(x, owner, bytes, a); q != p || err != api.OK {
				t.Errorf("taken again: %d, %d, not %d", q, err, p)
			}
			release.Free(x, p)
		}
		if t.Failed() {
			t.Fatalf("%+v", h)
		}
	}
	if taken < 800 {
		t.Errorf("%d were taken", taken)
	}
}

// P11.3, P5: taken, and freed in each turn: one free block at last, with no list, and no two free ones beside each other on the way.
func TestEachTurn(t *testing.T) {
	for turn := range uint64(720) {
		s, x := formatted(t, 4800)
		h := sound(free(1024))
		var l []uint64
		for i := range uint64(6) {
			p, err := carve.Take(x, int((turn+i)%9), 8+(turn*7+i*13)%60, 16)
			if err != api.OK {
				t.Fatalf("Take: %d", err)
			}
			l = append(l, p)
		}
		blocks, _ := phys.Walk(x)
		h.blocks = blocks
		for c := range h.lists {
			h.lists[c] = ledger.List(x, c)
		}
		for k := turn; len(l) > 0; {
			i := int(k % uint64(len(l)))
			k /= uint64(len(l))
			h = frees(t, "in turn", x, h, l[i])
			l = slices.Delete(l, i, i+1)
		}
		stands(t, "in turn", x, sound(free(1024)))
		x.Apply()
		if err := head.Check(tx.New(s)); err != api.OK || head.Size(tx.New(s)) != 4800 {
			t.Errorf("the head: %d", err)
		}
	}
}

// P11.1 to P11.3, P5: taken, cut, and freed at random, down to one free block: as the chapter says, word by word.
func TestAnyHeaps(t *testing.T) {
	told := map[api.Errno]int{}
	for n := range uint64(250) {
		h := random(n + 5000)
		s, x := laid(t, h)
		for i := range uint64(30) {
			m := mixed(n<<30 + i)
			l := h.payloads()
			if len(l) == 0 {
				break
			}
			p := l[m%uint64(len(l))]
			if m>>50%16 == 0 {
				p += 16
			}
			if m>>54%3 == 0 {
				_, err := h.freed(p)
				told[err]++
				h = frees(t, "any heap", x, h, p)
			} else {
				size := least + m>>20%24*16
				_, err := h.cut(p, size)
				told[err]++
				h = cuts(t, "any heap", x, h, p, size)
			}
			if m>>60 == 0 {
				x.Apply()
				x = tx.New(s)
			}
		}
		for i := uint64(0); len(h.payloads()) > 0; i++ {
			l := h.payloads()
			h = frees(t, "the rest", x, h, l[mixed(n<<12+i)%uint64(len(l))])
		}
		stands(t, "one free block", x, sound(free(h.ends()-heap)))
	}
	if told[api.OK] < 1000 || told[api.ErrBad] < 100 || told[api.ErrArg] < 500 {
		t.Errorf("too few of one kind: %v", told)
	}
}

// P11.1, P11.2: a heap whose tree has many blocks of few sizes: each one that stands beside what is freed goes, and no other.
func TestTree(t *testing.T) {
	roots := 0
	for n := range uint64(40) {
		var l []phys.Block
		for i := range uint64(20) {
			m := mixed(n<<10 + i)
			l = append(l, used(112+m%3*16, int(m>>20%9), 8), free(48+m>>30%6*16))
		}
		h := sound(l[n%2:]...)
		_, x := laid(t, h)
		for _, b := range h.blocks {
			if !b.Tag.Used {
				continue
			}
			if root := head.Root(x); root == b.Off+b.Tag.Size {
				roots++
			}
			frees(t, "in the tree", x.Bare(), h, b.Off+front)
			cuts(t, "in the tree", x.Bare(), h, b.Off+front, b.Tag.Size-48)
			cuts(t, "in the tree", x.Bare(), h, b.Off+front, 48)
		}
	}
	if roots < 20 {
		t.Errorf("%d of them were the root", roots)
	}
}

// P11.1: what is thought of is no more than the tag, two words of the list, and words of the tree of free blocks: all others a log would have to hold.
func TestFewWords(t *testing.T) {
	for n := range uint64(200) {
		h := random(n + 9000)
		_, x := laid(t, h)
		for _, p := range h.payloads() {
			now, _ := h.freed(p)
			sons := map[uint64]int{rootAt: 1}
			for _, b := range now.free() {
				sons[b.Off+8], sons[b.Off+16] = 1, 1
			}
			x := x.Bare()
			release.Free(x, p)
			logged := 0
			for _, w := range x.Puts() {
				logged += 1 - sons[w.Off]
			}
			if logged > 4 {
				t.Errorf("Free(%d): %d words that aren't the tree's: %v", p, logged, x.Puts())
			}
		}
	}
}

// As large a heap as there can be: all of it, and blocks on and on.
func TestLargestHeap(t *testing.T) {
	h := sound(used(most-heap, 8, 8))
	_, x := laid(t, h)
	frees(t, "all of it", x.Bare(), h, heap+front)
	cuts(t, "all but 48", x.Bare(), h, heap+front, most-heap-48)
	cuts(t, "all but 32", x.Bare(), h, heap+front, most-heap-32)
	now := cuts(t, "48 of it", x, h, heap+front, 48)
	now = frees(t, "all of it", x, now, heap+front)
	stands(t, "all of it", x, sound(free(most-heap)))

	full := sound(used(most-heap, 8, most-heap-over))
	_, x = laid(t, full)
	for _, size := range []uint64{48, most - heap - 48, most - heap - 16, most - heap, most - heap + 16, most, most + 48} {
		cuts(t, "all of it is needed", x, full, heap+front, size)
	}
	frees(t, "all of it", x, full, heap+front)

	_, x = formatted(t, most)
	var l []uint64
	for range 200 { // 7 leads to each of them
		p, err := carve.Take(x, len(l)%9, 100, 4096)
		if err != api.OK {
			t.Fatalf("Take: %d", err)
		}
		l = append(l, p)
	}
	for i := range l {
		if err := release.Free(x, l[i*7%len(l)]); err != api.OK {
			t.Fatalf("Free(%d): %d", l[i*7%len(l)], err)
		}
	}
	stands(t, "one free block", x, sound(free(most-heap)))
}

// What is thought of over a segment: the segment stays, a heap that is only thought of is as good, and one that isn't thought of any more is nothing.
func TestThought(t *testing.T) {
	h := several()
	s, x := laid(t, h)
	was := s.Copy()
	now := h
	l := h.payloads()
	for i := range 12 {
		now = frees(t, "thought of", x, now, l[i*5%len(l)])
		now = cuts(t, "thought of", x, now, l[(i*5+3)%len(l)], 48+uint64(i)*16)
		if d := seg.Diff(s, was); len(d) > 0 {
			t.Fatalf("not applied, but other words at %v", d)
		}
		stands(t, "by another one", tx.New(s), h)
	}
	other := frees(t, "by another one", x.Bare(), h, l[1])
	if slices.Equal(other.blocks, now.blocks) {
		t.Error("both are one")
	}
	stands(t, "thought of", x, now)
	x.Apply()
	stands(t, "applied", tx.New(s), now)

	y := tx.New(littered(t, h.ends()+64, h.ends())) // whose heap is no heap
	for _, w := range h.words() {
		y.Store(w.Off, w.V)
	}
	stands(t, "thought of alone", y, h)
	now = h
	for i := range 12 {
		now = frees(t, "thought of alone", y, now, l[i*7%len(l)])
		now = cuts(t, "thought of alone", y, now, l[(i*7+2)%len(l)], 160-uint64(i)*16)
	}
}

// The words of the clients' records and of the directory, and those behind the heap, stay: but a client's first block.
func TestAllElseStays(t *testing.T) {
	for owner := range 9 {
		h := sound(used(48, 3, 8), free(96), used(160, owner, 8), free(1024), used(48, owner, 8))
		for _, freed := range []bool{false, true} {
			s, x := laid(t, h)
			was := s.Copy()
			if err := release.Cut(x, 3952, 48); err != api.OK {
				t.Fatalf("of the owner %d: %d", owner, err)
			}
			if freed {
				if err := release.Free(x, 3952); err != api.OK {
					t.Fatalf("of the owner %d: %d", owner, err)
				}
			}
			x.Apply()
			for _, off := range seg.Diff(s, was) {
				if off != rootAt && off < heap && (owner == 0 || off != headAt(owner-1)) || off >= h.ends() {
					t.Errorf("of the owner %d: another word at %d", owner, off)
				}
			}
		}
	}
}

// R4: two heaps that are alike, in unlike Txs, are freed and cut alike, in whatever turn they are asked.
func TestNothingIsKept(t *testing.T) {
	h := several()
	_, x := laid(t, h)
	_, y := laid(t, h)
	other := sound(used(480, 1, 8))
	_, z := laid(t, other)
	l := h.payloads()
	for i := range uint64(40) {
		p := l[mixed(i)%uint64(len(l))]
		size := 48 + mixed(i)>>20%8*16
		first := release.Cut(x, p, size)
		release.Cut(z, 3808, 480-i%4*48)
		release.Free(nil, p)
		if wrong := release.Cut(y, p, size); first != wrong {
			t.Errorf("Cut(%d, %d): %d, but %d", p, size, first, wrong)
		}
		if i%3 > 0 {
			continue
		}
		first = release.Free(x, p)
		release.Free(z, p)
		if wrong := release.Free(y, p); first != wrong {
			t.Errorf("Free(%d): %d, but %d", p, first, wrong)
		}
	}
	if !slices.Equal(x.Puts(), y.Puts()) {
		t.Error("unlike words are thought of")
	}
}

// R5: nobody's Tx has no blocks; nor has one over a segment that isn't formatted.
func TestNil(t *testing.T) {
	for _, x := range []*tx.Tx{nil, tx.New(nil), tx.New(seg.New(0)), tx.New(nil).Bare(), tx.New(seg.New(4000)), tx.New(seg.New(8))} {
		for _, p := range []uint64{0, 16, 32, heap, heap + front, 4000, largest - 31, largest} {
			if err := release.Free(x, p); err != api.ErrBad {
				t.Errorf("nobody's: Free(%d): %d", p, err)
			}
			for _, size := range []uint64{0, 16, 40, 48, 64, 1 << 20, largest - 15, largest} {
				if err := release.Cut(x, p, size); err != api.ErrBad {
					t.Errorf("nobody's: Cut(%d, %d): %d", p, size, err)
				}
			}
		}
		if l := x.Puts(); len(l) > 0 {
			t.Errorf("nobody's: Puts: %v", l)
		}
	}
}
