package resize_test

import (
	"slices"
	"testing"

	"carrack/api"
	"carrack/carve"
	"carrack/client"
	"carrack/head"
	"carrack/ledger"
	"carrack/phys"
	"carrack/release"
	"carrack/resize"
	"carrack/seg"
	"carrack/tag"
	"carrack/tree"
	"carrack/tx"
)

const largest = 1<<64 - 1

// What the document says, as numbers: also package api is asked.
const (
	clients = 8
	rootAt  = 32
	table   = 64
	record  = 416
	heap    = 3776
	least   = 48
	over    = 40
	front   = 32
	most    = 1 << 20
)

// headAt is where a client's first block should be told.
func headAt(c int) uint64 { return table + uint64(c)*record + 8 }

// mixed is a number that hangs on n alone, with unlike bytes.
func mixed(n uint64) uint64 {
	n = (n + 1) * 0x9E3779B97F4A7C15
	n = (n ^ n>>31) * 0xBF58476D1CE4E5B9
	return n ^ n>>29
}

// state is a heap's blocks, as they stand, and the clients' lists, the first block of each first.
type state struct {
	blocks []phys.Block
	lists  [clients][]uint64
}

// free is a free block, used a used one; where they stand is told by sound.
func free(size uint64) phys.Block { return phys.Block{Tag: tag.Tag{Size: size}} }

func used(size uint64, owner int, n uint64) phys.Block {
	return phys.Block{Tag: tag.Tag{Size: size, Used: true, Owner: owner}, Len: n}
}

// sound lets each block begin where the one ahead of it ends, and gives each client its blocks, the last one first.
func sound(l ...phys.Block) state {
	h := state{blocks: slices.Clone(l)}
	off := uint64(heap)
	for i := range h.blocks {
		b := &h.blocks[i]
		b.Off = off
		off += b.Tag.Size
		if c := b.Tag.Owner - 1; c >= 0 {
			h.lists[c] = append([]uint64{b.Off}, h.lists[c]...)
		}
	}
	return h
}

// ends is where a heap ends.
func (h state) ends() uint64 {
	last := h.blocks[len(h.blocks)-1]
	return last.Off + last.Tag.Size
}

// free are the free blocks, by their sizes, and then by where they stand.
func (h state) free() []phys.Block {
	var l []phys.Block
	for _, b := range h.blocks {
		if b.Tag.Used {
			continue
		}
		i := 0
		for i < len(l) && l[i].Tag.Size <= b.Tag.Size { // those of one size come as they stand
			i++
		}
		l = slices.Insert(l, i, b)
	}
	return l
}

func offs(l []phys.Block) []uint64 {
	var o []uint64
	for _, b := range l {
		o = append(o, b.Off)
	}
	return o
}

// payloads are those of the used blocks, as they stand.
func (h state) payloads() []uint64 {
	var l []uint64
	for _, b := range h.blocks {
		if b.Tag.Used {
			l = append(l, b.Off+front)
		}
	}
	return l
}

// rank is what word.Mix should be, by a product.
func rank(off uint64) uint64 { return off * 0x9E3779B97F4A7C15 }

// hung are all words of the tree of blocks, that come by their keys, below the word at.
func hung(out []api.Put, at uint64, l []phys.Block) []api.Put {
	if len(l) == 0 {
		return append(out, api.Put{Off: at})
	}
	top := 0
	for i, b := range l {
		if rank(b.Off) > rank(l[top].Off) {
			top = i
		}
	}
	off := l[top].Off
	out = append(out, api.Put{Off: at, V: off})
	out = hung(out, off+8, l[:top])
	return hung(out, off+16, l[top+1:])
}

// words are all words of a heap that say what it is: tags, how many bytes blocks have, the lists, and the tree.
func (h state) words() []api.Put {
	var out []api.Put
	for _, b := range h.blocks {
		w := b.Tag.Size + uint64(b.Tag.Owner)<<32
		if b.Tag.Used {
			w++
			out = append(out, api.Put{Off: b.Off + 8, V: b.Len})
		}
		out = append(out, api.Put{Off: b.Off, V: w}, api.Put{Off: b.Off + b.Tag.Size - 8, V: w})
	}
	for c, l := range h.lists {
		at, ahead := headAt(c), uint64(0)
		for _, off := range l {
			out = append(out, api.Put{Off: at, V: off}, api.Put{Off: off + 24, V: ahead})
			at, ahead = off+16, off
		}
		out = append(out, api.Put{Off: at})
	}
	return hung(out, rootAt, h.free())
}

// littered is a segment with a head, whose every other word is another number.
func littered(t *testing.T, all, size uint64) *seg.Seg {
	t.Helper()
	s := seg.New(all)
	if err := head.Format(s, size); err != api.OK {
		t.Fatalf("Format of %d bytes at %d: %d", all, size, err)
	}
	for off := uint64(table); off < all; off += 8 {
		if err := s.Store(off, mixed(off)|1); err != api.OK {
			t.Fatalf("Store(%d): %d", off, err)
		}
	}
	return s
}

// laid is a segment, and a Tx over it without words of its own, whose heap is so, with a few more bytes; roomy has so many more.
func laid(t *testing.T, h state) (*seg.Seg, *tx.Tx) {
	t.Helper()
	return roomy(t, h, min(64, most-h.ends()))
}

func roomy(t *testing.T, h state, more uint64) (*seg.Seg, *tx.Tx) {
	t.Helper()
	s := littered(t, h.ends()+more, h.ends())
	for _, w := range h.words() {
		if err := s.Store(w.Off, w.V); err != api.OK {
			t.Fatalf("Store(%d): %d", w.Off, err)
		}
	}
	x := tx.New(s)
	stands(t, "laid", x, h)
	return s, x
}

// stands asks for a sound heap that is just so.
func stands(t *testing.T, what string, x *tx.Tx, h state) {
	t.Helper()
	l, err := phys.Walk(x)
	if !slices.Equal(l, h.blocks) || err != api.OK {
		t.Errorf("%s: the blocks: %+v, %d, not %+v", what, l, err, h.blocks)
	}
	if !phys.Merged(l) {
		t.Errorf("%s: two free blocks stand beside each other: %+v", what, l)
	}
	if want := offs(h.free()); !tree.Check(x, want) || !slices.Equal(tree.All(x), want) {
		t.Errorf("%s: the tree: %v, not %v", what, tree.All(x), want)
	}
	for c, want := range h.lists {
		if !ledger.Check(x, c, want) || !slices.Equal(ledger.List(x, c), want) {
			t.Errorf("%s: the list of the client %d: %v, not %v", what, c, ledger.List(x, c), want)
		}
	}
}

// loads is what a Tx tells of each word of its segment.
func loads(x *tx.Tx) []uint64 {
	l := make([]uint64, x.Size()/8)
	for i := range l {
		l[i] = x.Load(uint64(i) * 8)
	}
	return l
}

// find is where the used block of a payload stands in a heap's blocks.
func (h state) find(payload uint64) (int, bool) {
	for i, b := range h.blocks {
		if b.Tag.Used && b.Off+front == payload {
			return i, true
		}
	}
	return 0, false
}

// merged is a heap with no two free blocks beside each other.
func (h state) merged() state {
	var l []phys.Block
	for _, b := range h.blocks {
		if last := len(l) - 1; last >= 0 && !b.Tag.Used && !l[last].Tag.Used {
			l[last].Tag.Size += b.Tag.Size
		} else {
			l = append(l, b)
		}
	}
	h.blocks = l
	return h
}

// need is how large a block of so many bytes is, if they aren't too many.
func need(n uint64) uint64 { return (max(n, 8) + 55) / 16 * 16 }

// wordsOf is how many words so many bytes take, if they aren't too many.
func wordsOf(n uint64) uint64 { return (n + 7) / 8 }

// freed is a heap without a used block.
func (h state) freed(i int) state {
	b := h.blocks[i]
	h.blocks = slices.Clone(h.blocks)
	h.blocks[i] = phys.Block{Off: b.Off, Tag: tag.Tag{Size: b.Tag.Size}}
	if c := b.Tag.Owner - 1; c >= 0 {
		h.lists[c] = slices.DeleteFunc(slices.Clone(h.lists[c]), func(off uint64) bool { return off == b.Off })
	}
	return h.merged()
}

// parted is a heap one of whose blocks is another one, of size bytes, with what is over free behind it, if that is a block.
func (h state) parted(i int, b phys.Block, size uint64) state {
	h.blocks = slices.Clone(h.blocks)
	rest := free(h.blocks[i].Tag.Size - size)
	b.Tag.Size = h.blocks[i].Tag.Size
	if rest.Tag.Size >= least {
		b.Tag.Size = size
		rest.Off = b.Off + size
		h.blocks = slices.Insert(h.blocks, i+1, rest)
	}
	h.blocks[i] = b
	return h.merged()
}

// taken is a heap with a new block of an owner, and its payload; false, if there is no room.
func (h state) taken(owner int, n uint64) (state, uint64, bool) {
	for _, f := range h.free() {
		if f.Tag.Size < need(n) {
			continue
		}
		b := used(0, owner, n)
		b.Off = f.Off
		h = h.parted(slices.Index(h.blocks, f), b, need(n))
		if owner > 0 {
			h.lists[owner-1] = append([]uint64{b.Off}, h.lists[owner-1]...)
		}
		return h, b.Off + front, true
	}
	return h, 0, false
}

// resized is what Resize should tell, and the heap behind it.
func (h state) resized(payload, n uint64) (state, uint64, api.Errno) {
	i, ok := h.find(payload)
	if !ok {
		return h, 0, api.ErrBad
	}
	if n > largest-55 {
		return h, 0, api.ErrSize
	}
	b := h.blocks[i]
	if need(n) <= b.Tag.Size {
		b.Len = n
		return h.parted(i, b, need(n)), payload, api.OK
	}
	now, to, ok := h.taken(b.Tag.Owner, n)
	if !ok {
		return h, 0, api.ErrNoMem
	}
	i, _ = now.find(payload)
	return now.freed(i), to, api.OK
}

// grown is what Grow should tell, and the heap behind it, in a segment of so many bytes.
func (h state) grown(n, all uint64) (state, api.Errno) {
	if n%16 != 0 || n < 48 {
		return h, api.ErrArg
	}
	if n > all-h.ends() {
		return h, api.ErrNoMem
	}
	b := free(n)
	b.Off = h.ends()
	h.blocks = append(slices.Clone(h.blocks), b)
	return h.merged(), api.OK
}

// resizes asks what Resize tells of a heap that is so, and for all words behind it; the heap behind it, and what was told, are told.
func resizes(t *testing.T, what string, x *tx.Tx, h state, payload, n uint64) (state, uint64) {
	t.Helper()
	behind, to, want := h.resized(payload, n)
	puts, was := x.Puts(), loads(x)
	got, err := resize.Resize(x, payload, n)
	if got != to || err != want {
		t.Errorf("%s: Resize(%d, %d): %d, %d, not %d, %d", what, payload, n, got, err, to, want)
	}
	if want == api.OK {
		became(t, what, x, h, behind, puts, was, bytesOf(h, was, payload, to, n))
	} else {
		remains(t, what, x, h, puts, was)
	}
	if t.Failed() {
		t.Fatalf("%s: Resize(%d, %d) of %+v", what, payload, n, h)
	}
	return behind, got
}

// grows asks what Grow tells of a heap that is so, and for all words behind it; the heap behind it is told.
func grows(t *testing.T, what string, x *tx.Tx, h state, n uint64) state {
	t.Helper()
	behind, want := h.grown(n, x.Size())
	puts, was := x.Puts(), loads(x)
	if err := resize.Grow(x, n); err != want {
		t.Errorf("%s: Grow(%d): %d, not %d", what, n, err, want)
	}
	if want == api.OK {
		end := behind.ends()
		became(t, what, x, h, behind, puts, was, []api.Put{{Off: 16, V: end}, {Off: 40, V: rank(0x6361727261636b31 ^ end)}})
	} else {
		remains(t, what, x, h, puts, was)
	}
	if t.Failed() {
		t.Fatalf("%s: Grow(%d) of %+v", what, n, h)
	}
	return behind
}

// bytesOf are the words that a block's bytes should have behind Resize: what they had, and 0.
func bytesOf(h state, was []uint64, payload, to, n uint64) []api.Put {
	i, _ := h.find(payload)
	had := wordsOf(h.blocks[i].Len)
	var l []api.Put
	for i := range wordsOf(n) {
		w := api.Put{Off: to + i*8}
		if i < had {
			w.V = was[payload/8+i]
		}
		l = append(l, w)
	}
	return l
}

// became asks for a heap that is so, with these words, and all others as they were, but for those that mean nothing: in free blocks, and in a block that is new behind its bytes.
func became(t *testing.T, what string, x *tx.Tx, before, h state, were []api.Put, was []uint64, bytes []api.Put) {
	t.Helper()
	stands(t, what, x, h)
	must := map[uint64]uint64{}
	for _, w := range slices.Concat(h.words(), bytes) {
		must[w.Off] = w.V
	}
	nothing := idle(before, h, x.Size())
	thought := map[uint64]int{}
	for _, w := range were {
		thought[w.Off] = 1
	}
	for i, v := range loads(x) {
		off := uint64(i) * 8
		want, ok := must[off]
		if !ok {
			want = was[i]
		}
		if v != want && (ok || !nothing[i]) {
			t.Errorf("%s: the word at %d: %#x, not %#x", what, off, v, want)
		}
	}
	for _, w := range x.Puts() {
		if _, ok := must[w.Off]; !ok && !nothing[w.Off/8] && thought[w.Off] == 0 {
			t.Errorf("%s: %v is thought of, too", what, w)
		}
	}
}

// idle tells of each word of a segment whether it stands in a free block, or in one that wasn't there before.
func idle(before, h state, all uint64) []bool {
	l := make([]bool, all/8)
	for _, b := range h.blocks {
		_, ok := before.find(b.Off + front)
		for off := b.Off; (!b.Tag.Used || !ok) && off < b.Off+b.Tag.Size; off += 8 {
			l[off/8] = true
		}
	}
	return l
}

// remains asks for a heap that is as it was, with nothing more thought of.
func remains(t *testing.T, what string, x *tx.Tx, h state, were []api.Put, was []uint64) {
	t.Helper()
	stands(t, what, x, h)
	if got := x.Puts(); !slices.Equal(got, were) {
		t.Errorf("%s: %v is thought of, ahead of it there was %v", what, got, were)
	}
	if !slices.Equal(loads(x), was) {
		t.Errorf("%s: other words", what)
	}
}

// several has used blocks with free neighbours and without, of all owners, some of them more than once; it ends at 7040.
func several() state {
	h := sound(
		used(64, 1, 20), free(208), used(48, 2, 8), free(64), used(48, 1, 0), used(112, 3, 72), free(112), used(96, 0, 50), free(64),
		used(80, 8, 33), used(64, 0, 24), used(48, 1, 1), free(352), used(64, 3, 24), free(208), used(112, 0, 70), free(96),
		used(48, 2, 7), used(80, 4, 40), used(48, 8, 8), free(112), used(144, 1, 90), free(256), used(48, 5, 3), free(64),
		used(208, 2, 9), used(96, 6, 56), used(48, 0, 5), used(64, 7, 17), free(48), used(160, 2, 100), used(80, 3, 1),
	)
	h.lists[0] = []uint64{h.blocks[4].Off, h.blocks[21].Off, h.blocks[0].Off, h.blocks[11].Off} // in no turn that stands otherwise
	h.lists[1] = []uint64{h.blocks[17].Off, h.blocks[2].Off, h.blocks[30].Off, h.blocks[25].Off}
	return h
}

// random is a heap that hangs on n alone.
func random(n uint64) state {
	var l []phys.Block
	for i := range 4 + mixed(n)%24 {
		m := mixed(n<<20 + i)
		size := least + m%18*16
		if m>>60 == 0 {
			size += m >> 20 % 60 * 16
		}
		if m>>32%2 == 0 && (i == 0 || l[i-1].Tag.Used) {
			l = append(l, free(size))
		} else {
			l = append(l, used(size, int(m>>40%9), m>>44%(size-over+1)))
		}
	}
	h := sound(l...)
	for c, list := range h.lists {
		for i := len(list) - 1; i > 0; i-- {
			j := mixed(n<<24+uint64(c)<<16+uint64(i)) % uint64(i+1)
			list[i], list[j] = list[j], list[i]
		}
	}
	return h
}

// has asks for some words.
func has(t *testing.T, what string, x *tx.Tx, l ...api.Put) {
	t.Helper()
	for _, w := range l {
		if v := x.Load(w.Off); v != w.V {
			t.Errorf("%s: the word at %d: %#x, not %#x", what, w.Off, v, w.V)
		}
	}
}

// formatted is a segment of so many bytes that is all heap, and a Tx over it.
func formatted(t *testing.T, size uint64) (*seg.Seg, *tx.Tx) {
	t.Helper()
	s := seg.New(size)
	if err := head.Format(s, size); err != api.OK {
		t.Fatalf("Format: %d", err)
	}
	return s, tx.New(s)
}

// take is a payload that was taken, with unlike words in it.
func take(t *testing.T, x *tx.Tx, owner int, n uint64) uint64 {
	t.Helper()
	p, err := carve.Take(x, owner, n, 16)
	if err != api.OK {
		t.Fatalf("Take(%d, %d): %d", owner, n, err)
	}
	for i := range wordsOf(n) {
		x.Store(p+i*8, mixed(p+i)|1)
	}
	return p
}

// P12.1, by hand: 20 bytes of the client 2 in a block of 160, with 96 free bytes behind it, and one of 48 behind these.
func TestResizeByHand(t *testing.T) {
	h := sound(used(160, 3, 20), free(96), used(48, 0, 8))
	for _, c := range []struct {
		n      uint64
		zeros  []uint64
		blocks []phys.Block
	}{
		{20, nil, []phys.Block{used(64, 3, 20), free(192), used(48, 0, 8)}},
		{0, nil, []phys.Block{used(48, 3, 0), free(208), used(48, 0, 8)}},
		{1, nil, []phys.Block{used(48, 3, 1), free(208), used(48, 0, 8)}},
		{8, nil, []phys.Block{used(48, 3, 8), free(208), used(48, 0, 8)}},
		{9, nil, []phys.Block{used(64, 3, 9), free(192), used(48, 0, 8)}},
		{24, nil, []phys.Block{used(64, 3, 24), free(192), used(48, 0, 8)}},
		{25, []uint64{3832}, []phys.Block{used(80, 3, 25), free(176), used(48, 0, 8)}},
		{40, []uint64{3832, 3840}, []phys.Block{used(80, 3, 40), free(176), used(48, 0, 8)}},
		{41, []uint64{3832, 3840, 3848}, []phys.Block{used(96, 3, 41), free(160), used(48, 0, 8)}},
		{72, []uint64{3832, 3840, 3848, 3856, 3864, 3872}, []phys.Block{used(112, 3, 72), free(144), used(48, 0, 8)}},
		{73, []uint64{3832, 3840, 3848, 3856, 3864, 3872, 3880}, []phys.Block{used(160, 3, 73), free(96), used(48, 0, 8)}},
		{104, []uint64{3832, 3864, 3904}, []phys.Block{used(160, 3, 104), free(96), used(48, 0, 8)}},
		{120, []uint64{3832, 3864, 3904, 3920}, []phys.Block{used(160, 3, 120), free(96), used(48, 0, 8)}},
	} {
		s, x := laid(t, h)
		was := s.Copy()
		if p, err := resize.Resize(x, 3808, c.n); p != 3808 || err != api.OK {
			t.Errorf("Resize to %d: %d, %d", c.n, p, err)
		}
		stands(t, "resized", x, sound(c.blocks...))
		for _, off := range []uint64{3808, 3816, 3824}[:min(wordsOf(max(c.n, 1)), 3)] {
			if v, _ := was.Load(off); x.Load(off) != v {
				t.Errorf("Resize to %d: the word at %d: %#x, not %#x", c.n, off, x.Load(off), v)
			}
		}
		for _, off := range c.zeros {
			has(t, "resized", x, api.Put{Off: off})
		}
		if l := seg.Diff(s, was); len(l) > 0 {
			t.Errorf("Resize to %d: not applied, but other words at %v", c.n, l)
		}
	}
	for _, n := range []uint64{121, 200, 1000, 1 << 20, 1 << 32, 1 << 63, largest - 55} { // 96 bytes are free: no room
		_, x := laid(t, h)
		if p, err := resize.Resize(x, 3808, n); p != 0 || err != api.ErrNoMem {
			t.Errorf("Resize to %d: %d, %d", n, p, err)
		}
		if l := x.Puts(); len(l) > 0 {
			t.Errorf("Resize to %d: thought of %v", n, l)
		}
	}
}

// P12.1, by hand: 20 bytes of the client 2 in a block of 64, that have no room there: 100 bytes need 144.
func TestMoveByHand(t *testing.T) {
	h := sound(used(48, 3, 8), free(96), used(64, 3, 20), free(80), used(48, 3, 8), free(208), used(48, 0, 8))
	h.lists[2] = []uint64{4064, 3920, 3776}
	s, x := laid(t, h)
	was := s.Copy()
	if p, err := resize.Resize(x, 3952, 100); p != 4144 || err != api.OK {
		t.Errorf("Resize: %d, %d", p, err)
	}
	now := sound(used(48, 3, 8), free(240), used(48, 3, 8), used(144, 3, 100), free(64), used(48, 0, 8))
	now.lists[2] = []uint64{4112, 4064, 3776}
	stands(t, "moved", x, now)
	for i := range uint64(13) {
		var v uint64
		if i < 3 {
			v, _ = was.Load(3952 + i*8)
		}
		has(t, "moved", x, api.Put{Off: 4144 + i*8, V: v})
	}
	has(t, "moved", x, api.Put{Off: 4112, V: 0x300000091}, api.Put{Off: 4120, V: 100}, api.Put{Off: 4248, V: 0x300000091}, api.Put{Off: 4256, V: 64}, api.Put{Off: 4312, V: 64},
		api.Put{Off: 904, V: 4112}, api.Put{Off: 4128, V: 4064}, api.Put{Off: 4136}, api.Put{Off: 4080, V: 3776}, api.Put{Off: 4088, V: 4112}, api.Put{Off: 3792}, api.Put{Off: 3800, V: 4064},
		api.Put{Off: 3824, V: 240}, api.Put{Off: 4056, V: 240})
	if l := seg.Diff(s, was); len(l) > 0 {
		t.Errorf("not applied, but other words at %v", l)
	}
}

// The chapter's example, and the document's sixth one: 8 bytes, resized to 100, stand elsewhere; what was there is there, other bytes behind, 0.
func TestExamples(t *testing.T) {
	_, x := formatted(t, 4000)
	p, err := carve.Take(x, 1, 8, 16)
	if p != 3808 || err != api.OK {
		t.Fatalf("Take: %d, %d", p, err)
	}
	x.Store(p, 258)
	q, err := resize.Resize(x, p, 100)
	if q != 3856 || err != api.OK {
		t.Errorf("Resize: %d, %d", q, err)
	}
	has(t, "elsewhere", x, api.Put{Off: q, V: 258})
	for i := range uint64(12) {
		has(t, "elsewhere", x, api.Put{Off: q + 8 + i*8})
	}
	if b, ok := phys.Find(x, q); !ok || b.Len != 100 || b.Tag.Owner != 1 {
		t.Errorf("the block: %+v", b)
	}
	if b, ok := phys.Find(x, p); ok {
		t.Errorf("the old block: %+v", b)
	}
}

// around are neighbours, ahead of a block or behind it.
func around() [][2][]phys.Block {
	var l [][2][]phys.Block
	for _, ahead := range [][]phys.Block{nil, {used(64, 4, 9)}, {free(80)}, {used(48, 1, 8), free(144)}} {
		for _, behind := range [][]phys.Block{nil, {used(64, 4, 9)}, {free(48), used(48, 1, 3)}, {free(160)}, {used(48, 8, 1), free(256), used(48, 2, 8), free(64)}} {
			l = append(l, [2][]phys.Block{ahead, behind})
		}
	}
	return l
}

// P12.1: each number of bytes in blocks of some sizes, to each other number, with unlike neighbours, of all owners.
func TestSizes(t *testing.T) {
	told := map[api.Errno]int{}
	cut, moved, short := 0, 0, 0
	for k, c := range around() {
		for _, size := range []uint64{48, 64, 80, 112, 144, 208} {
			for had := uint64(k % 3); had <= size-over; had += 3 {
				h := sound(slices.Concat(c[0], []phys.Block{used(size, int(had+uint64(k))%9, had)}, c[1])...)
				_, x := laid(t, h)
				p := h.blocks[len(c[0])].Off + front
				for n := (had + uint64(k)) % 5; n <= 280; n += 1 + (had+n)%23 {
					now, to, err := h.resized(p, n)
					told[err]++
					switch {
					case err == api.OK && to != p:
						moved++
					case err == api.OK && !slices.EqualFunc(now.blocks, h.blocks, func(a, b phys.Block) bool { return a.Tag == b.Tag }):
						cut++
					case err == api.OK:
						short++
					}
					resizes(t, "sizes", x.Bare(), h, p, n)
				}
			}
		}
	}
	if told[api.ErrNoMem] < 1000 || cut < 1000 || moved < 1000 || short < 1000 {
		t.Errorf("too few of one kind: %v, %d, %d, %d", told, cut, moved, short)
	}
}

// P12.1: to as many bytes, to just what its Size has room for, and to one byte more; to 0.
func TestJustRoom(t *testing.T) {
	for _, c := range []struct{ size, room uint64 }{{48, 8}, {64, 24}, {80, 40}, {96, 56}, {112, 72}, {1040, 1000}} {
		for _, had := range []uint64{0, 1, 7, 8, c.room - 1, c.room} {
			h := sound(used(48, 2, 8), used(c.size, 2, had), used(48, 2, 8), free(c.size), used(48, 3, 8), free(c.size+16), used(48, 2, 8))
			for _, n := range []uint64{had, 0, c.room - 7, c.room} {
				_, x := laid(t, h)
				if _, p := resizes(t, "just", x, h, 3856, n); p != 3856 {
					t.Errorf("%d bytes of %d, to %d: %d", had, c.size, n, p)
				}
				if b, ok := phys.Find(x, 3856); !ok || b.Len != n || b.Tag.Owner != 2 {
					t.Errorf("%d bytes of %d, to %d: %+v", had, c.size, n, b)
				}
			}
			for _, n := range []uint64{c.room + 1, c.room + 8, c.room + 16} { // a free block of its own size is too small
				_, x := laid(t, h)
				if _, p := resizes(t, "more", x, h, 3856, n); p != 3856+c.size+48+c.size+48 {
					t.Errorf("%d bytes of %d, to %d: %d", had, c.size, n, p)
				}
			}
			_, x := laid(t, h)
			resizes(t, "too many", x, h, 3856, c.room+17)
			if l := x.Puts(); len(l) > 0 {
				t.Errorf("%d bytes of %d, to %d: %v", had, c.size, c.room+17, l)
			}
		}
	}
}

// P12.1, P12.3: 1 to 8 bytes more or less at the end of a word: a word that both take stays whole.
func TestEndOfWord(t *testing.T) {
	for had := uint64(0); had <= 40; had++ {
		h := sound(used(128, 5, had), free(400))
		for d := uint64(0); d <= 8; d++ {
			for _, n := range []uint64{had + d, had - min(d, had)} {
				s, x := laid(t, h)
				resizes(t, "an end", x, h, 3808, n)
				for i := range min(wordsOf(had), wordsOf(n)) {
					v, _ := s.Load(3808 + i*8)
					has(t, "kept", x, api.Put{Off: 3808 + i*8, V: v})
				}
				for i := wordsOf(had); i < wordsOf(n); i++ {
					has(t, "new", x, api.Put{Off: 3808 + i*8})
				}
			}
		}
	}
}

// P12.1: what is over is cut off, if it is 48 bytes or more: told of the block's own bytes, not of these and the free ones behind them.
func TestOver(t *testing.T) {
	for over := uint64(0); over <= 112; over += 16 {
		for _, behind := range [][]phys.Block{nil, {free(48)}, {free(4000), used(48, 2, 8)}, {used(48, 2, 8), free(48)}} {
			for _, ahead := range [][]phys.Block{nil, {free(48)}, {used(48, 1, 8)}} {
				for _, n := range []uint64{0, 8, 20, 24, 60} {
					h := sound(slices.Concat(ahead, []phys.Block{used(need(n)+over, 1, min(12, need(n)+over-40))}, behind)...)
					_, x := laid(t, h)
					p := h.blocks[len(ahead)].Off + front
					now, _ := resizes(t, "over", x, h, p, n)
					want := need(n) + over
					if over >= 48 {
						want = need(n)
					}
					if b, ok := phys.Find(x, p); !ok || b.Tag.Size != want || b.Len != n {
						t.Errorf("to %d, with %d over: %+v", n, over, b)
					}
					resizes(t, "over, again", x, now, p, n)
				}
			}
		}
	}
}

// P12.1, P12.3: fewer bytes, and then more again: what was let go is 0, also where it stands still.
func TestFewerAndMore(t *testing.T) {
	h := sound(used(160, 1, 120), used(48, 2, 8), free(400))
	for few := uint64(0); few <= 120; few++ {
		for more := few; more <= 140; more += 7 {
			s, x := laid(t, h)
			now, p := resizes(t, "fewer", x, h, 3808, few)
			_, p = resizes(t, "more", x, now, p, more)
			for i := range wordsOf(more) {
				var v uint64
				if i < wordsOf(few) {
					v, _ = s.Load(3808 + i*8)
				}
				has(t, "fewer, and more", x, api.Put{Off: p + i*8, V: v})
			}
		}
	}
}

// P12.1: more than the block has, where another one fits: the smallest one, the lowest one of these, right ahead of it, right behind it, and elsewhere; all of it, or a part.
func TestMoves(t *testing.T) {
	for _, c := range []struct {
		was, now []phys.Block
		n, p, to uint64
	}{
		{ // right behind: it isn't made longer where it stands
			[]phys.Block{used(64, 1, 24), free(160), used(48, 2, 8)},
			[]phys.Block{free(64), used(80, 1, 25), free(80), used(48, 2, 8)}, 25, 3808, 3872},
		{
			[]phys.Block{used(64, 1, 24), free(112), used(48, 2, 8)},
			[]phys.Block{free(64), used(112, 1, 25), used(48, 2, 8)}, 25, 3808, 3872},
		{ // right ahead: what is left stands beside the old one
			[]phys.Block{used(48, 2, 8), free(160), used(64, 1, 24), used(48, 2, 8)},
			[]phys.Block{used(48, 2, 8), used(80, 1, 25), free(144), used(48, 2, 8)}, 25, 4016, 3856},
		{
			[]phys.Block{used(48, 2, 8), free(112), used(64, 1, 24), used(48, 2, 8)},
			[]phys.Block{used(48, 2, 8), used(112, 1, 25), free(64), used(48, 2, 8)}, 25, 3968, 3856},
		{
			[]phys.Block{free(160), used(64, 1, 24), free(96)},
			[]phys.Block{free(224), used(96, 1, 40)}, 40, 3968, 4032},
		{
			[]phys.Block{free(96), used(64, 1, 24), free(96)},
			[]phys.Block{used(96, 1, 40), free(160)}, 40, 3904, 3808},
		{
			[]phys.Block{free(160), used(64, 1, 24), free(160)},
			[]phys.Block{used(80, 1, 40), free(304)}, 40, 3968, 3808},
		{ // elsewhere: the old one, and both of its neighbours, are one
			[]phys.Block{free(96), used(64, 1, 24), free(96), used(48, 2, 8), free(160), used(48, 2, 8)},
			[]phys.Block{free(256), used(48, 2, 8), used(112, 1, 72), free(48), used(48, 2, 8)}, 72, 3904, 4112},
		{
			[]phys.Block{free(160), used(48, 2, 8), free(112), used(64, 1, 24), used(48, 2, 8), free(112)},
			[]phys.Block{free(160), used(48, 2, 8), used(112, 1, 70), free(64), used(48, 2, 8), free(112)}, 70, 4128, 4016},
	} {
		_, x := laid(t, sound(c.was...))
		if _, to := resizes(t, "moved", x, sound(c.was...), c.p, c.n); to != c.to {
			t.Errorf("%+v: %d", c, to)
		}
		now := sound(c.now...)
		now.lists[1] = sound(c.was...).lists[1] // another client's list stays, whoever stands where
		for i := range now.lists[1] {
			if k := slices.IndexFunc(now.blocks, func(b phys.Block) bool { return b.Off == now.lists[1][i] }); k < 0 || now.blocks[k].Tag.Owner != 2 {
				t.Fatalf("by hand: %+v", c)
			}
		}
		stands(t, "moved", x, now)
	}
}

// P12.1: no other block fits: ErrNoMem, also if the old one and what is free beside it had room.
func TestNoRoom(t *testing.T) {
	for _, l := range [][]phys.Block{
		{used(64, 1, 24)}, {used(64, 1, 24), free(64)}, {free(64), used(64, 1, 24), free(64)}, {free(64), used(64, 1, 24)},
		{used(48, 1, 8), used(64, 1, 24), used(48, 2, 8)}, {free(64), used(48, 2, 8), used(64, 1, 24), free(48), used(48, 1, 1), free(64)},
	} {
		h := sound(l...)
		_, x := laid(t, h)
		p := h.payloads()[0]
		i, _ := h.find(p)
		for _, n := range []uint64{h.blocks[i].Tag.Size - over + 17, 41, 60, 80, 90, 152, 200, 4000, most - heap - over, most, largest >> 1, largest - 100, largest - 55} {
			if _, _, err := h.resized(p, n); err != api.ErrNoMem {
				t.Fatalf("by hand: %d of %+v: %d", n, h.blocks, err)
			}
			resizes(t, "no room", x, h, p, n)
		}
	}
	full := sound(used(48, 1, 8), used(48, 2, 8), used(400, 3, 360), used(48, 0, 3))
	_, x := laid(t, full)
	for _, p := range full.payloads() {
		i, _ := full.find(p)
		resizes(t, "full", x, full, p, full.blocks[i].Tag.Size-over+1)
		resizes(t, "full, as it was", x.Bare(), full, p, full.blocks[i].Tag.Size-over)
		resizes(t, "full, fewer", x.Bare(), full, p, 0)
	}
}

// P12.1: of nobody's block, and of each client's: in place it stays where it is in its list, moved it is the first one.
func TestOwners(t *testing.T) {
	for owner := range 9 {
		for at := range 4 {
			var l []phys.Block
			for range 4 {
				l = append(l, used(64, owner, 24), used(48, owner%8+1, 8), used(48, 0, 3))
			}
			h := sound(append(l, free(400))...)
			p := h.blocks[at*3].Off + front
			_, x := laid(t, h)
			for _, n := range []uint64{24, 17, 8, 0} {
				now, _ := resizes(t, "in place", x.Bare(), h, p, n)
				if !slices.Equal(now.lists[clients-1], h.lists[clients-1]) || owner > 0 && !slices.Equal(ledger.List(x, owner-1), h.lists[owner-1]) {
					t.Errorf("in place: %v", now.lists)
				}
			}
			now, to := resizes(t, "moved", x, h, p, 100)
			b, ok := phys.Find(x, to)
			if !ok || b.Tag.Owner != owner || !b.Tag.Used || b.Len != 100 {
				t.Errorf("moved: %+v", b)
			}
			if owner > 0 {
				if got := ledger.List(x, owner-1); got[0] != to-front || len(got) != len(h.lists[owner-1]) || client.Head(x, owner-1) != to-front || slices.Contains(got, p-front) {
					t.Errorf("moved: the list: %v", got)
				}
			}
			resizes(t, "moved, and back", x, now, to, 24)
			for c, was := range h.lists {
				if got := ledger.List(x, c); c != owner-1 && !slices.Equal(got, was) {
					t.Errorf("the list of the client %d: %v, not %v", c, got, was)
				}
			}
		}
	}
}

// P12.1: an offset that is no payload: of a free block, within a block, of no multiple of 16, 0, in the head, beyond the heap, 2^64 - 1; ErrBad is named first.
func TestNoPayload(t *testing.T) {
	h := several()
	_, x := laid(t, h)
	var l []uint64
	for off := uint64(0); off < x.Size()+200; off++ {
		l = append(l, off)
	}
	for _, p := range h.payloads() {
		l = append(l, p+1<<20, p+1<<32, p+1<<63, -p&largest)
	}
	l = append(l, 1<<20, 1<<32, 1<<63, largest-31, largest-15, largest-7, largest)
	payloads := h.payloads()
	for _, p := range l {
		if slices.Contains(payloads, p) {
			continue
		}
		for _, n := range []uint64{0, 8, 24, 100, 100000, largest - 55, largest - 54, largest} {
			if to, err := resize.Resize(x, p, n); to != 0 || err != api.ErrBad {
				t.Errorf("Resize(%d, %d): %d, %d", p, n, to, err)
			}
		}
	}
	stands(t, "asked in vain", x, h)
	if l := x.Puts(); len(l) > 0 {
		t.Errorf("asked in vain, but thought of: %v", l)
	}
}

// P12.1: what needs more than 2^64 - 1 bytes is ErrSize, all other bytes are no more than ErrNoMem; of each block, also where there is no room at all.
func TestTooMany(t *testing.T) {
	for _, h := range []state{several(), sound(used(48, 1, 8)), sound(used(64, 0, 0), free(4000))} {
		_, x := laid(t, h)
		for _, p := range h.payloads() {
			for _, n := range []uint64{largest, largest - 1, largest - 7, largest - 8, largest - 15, largest - 16, largest - 38, largest - 39, largest - 40, largest - 53, largest - 54} {
				if to, err := resize.Resize(x, p, n); to != 0 || err != api.ErrSize {
					t.Errorf("Resize(%d, %d): %d, %d", p, n, to, err)
				}
			}
			for _, n := range []uint64{largest - 55, largest - 56, largest - 63, largest - 64, largest - 71, largest - 100, 1 << 63, 1<<63 - 1, 1<<63 + 8, 1 << 32, 1<<32 + 8, 1<<32 + 24, 1 << 31, most, 1 << 60, 1<<61 + 8} {
				if to, err := resize.Resize(x, p, n); to != 0 || err != api.ErrNoMem {
					t.Errorf("Resize(%d, %d): %d, %d", p, n, to, err)
				}
			}
		}
		stands(t, "asked in vain", x, h)
		if l := x.Puts(); len(l) > 0 {
			t.Errorf("asked in vain, but thought of: %v", l)
		}
	}
}

// P12.1: a block that was moved is no block any more, and may be taken again.
func TestOldOne(t *testing.T) {
	h := several()
	_, x := laid(t, h)
	for _, p := range h.payloads() {
		x := x.Bare()
		i, _ := h.find(p)
		now, to := resizes(t, "once", x, h, p, h.blocks[i].Tag.Size-over+1)
		if _, ok := now.find(p); !ok {
			for _, n := range []uint64{0, 8, 100, largest} {
				if q, err := resize.Resize(x, p, n); q != 0 || err != api.ErrBad {
					t.Errorf("the old one: Resize(%d, %d): %d, %d", p, n, q, err)
				}
			}
			if err := release.Free(x, p); err != api.ErrBad {
				t.Errorf("the old one: Free(%d): %d", p, err)
			}
		}
		if err := release.Free(x, to); err != api.OK {
			t.Errorf("Free(%d): %d", to, err)
		}
		i, _ = h.find(p)
		stands(t, "moved, and freed", x, h.freed(i))
	}
}

// P12.3: words that a client stored go with the block, on and on; all other blocks' words stay.
func TestBytesGoAlong(t *testing.T) {
	moved := 0
	for n := range uint64(60) {
		s, x := formatted(t, 8000)
		kept := map[uint64]uint64{}
		var l, had []uint64
		for i := range uint64(6) {
			bytes := mixed(n<<8+i) % 100
			p := take(t, x, int((n+i)%9), bytes)
			l, had = append(l, p), append(had, bytes)
			for k := range wordsOf(bytes) {
				kept[i<<32+k] = x.Load(p + k*8)
			}
		}
		for turn := range uint64(30) {
			m := mixed(n<<16 + turn)
			i := m % 6
			bytes := m >> 8 % 220
			p, err := resize.Resize(x, l[i], bytes)
			if err == api.ErrNoMem {
				continue
			}
			if p != l[i] {
				moved++
			}
			for k := range wordsOf(bytes) {
				if k >= wordsOf(had[i]) {
					kept[i<<32+k] = 0
				}
			}
			l[i], had[i] = p, bytes
			if bytes > 0 { // what the client stores then
				k := m >> 40 % wordsOf(bytes)
				kept[i<<32+k] = m
				x.Store(p+k*8, m)
			}
			for i := range uint64(6) {
				for k := range wordsOf(had[i]) {
					has(t, "goes along", x, api.Put{Off: l[i] + k*8, V: kept[i<<32+k]})
				}
				if b, ok := phys.Find(x, l[i]); !ok || b.Len != had[i] || b.Tag.Owner != int((n+i)%9) {
					t.Errorf("the block of %d: %+v", l[i], b)
				}
			}
			if m>>60 == 0 {
				x.Apply()
				x = tx.New(s)
			}
		}
		if t.Failed() {
			t.FailNow()
		}
	}
	if moved < 200 {
		t.Errorf("%d were moved", moved)
	}
}

// P12.2, by hand.
func TestGrowByHand(t *testing.T) {
	s := seg.New(4480)
	if err := head.Format(s, 4000); err != api.OK {
		t.Fatalf("Format: %d", err)
	}
	was := s.Copy()
	x := tx.New(s)
	for _, c := range []struct {
		n, end uint64
		want   api.Errno
	}{
		{0, 4000, api.ErrArg}, {16, 4000, api.ErrArg}, {32, 4000, api.ErrArg}, {40, 4000, api.ErrArg}, {47, 4000, api.ErrArg}, {49, 4000, api.ErrArg}, {56, 4000, api.ErrArg},
		{496, 4000, api.ErrNoMem}, {largest - 15, 4000, api.ErrNoMem}, {largest - 3999, 4000, api.ErrNoMem}, {largest - 3983, 4000, api.ErrNoMem}, {largest, 4000, api.ErrArg},
		{48, 4048, api.OK}, {64, 4112, api.OK}, {384, 4112, api.ErrNoMem}, {320, 4432, api.OK}, {64, 4432, api.ErrNoMem}, {48, 4480, api.OK}, {48, 4480, api.ErrNoMem},
	} {
		if err := resize.Grow(x, c.n); err != c.want {
			t.Errorf("Grow(%d): %d, not %d", c.n, err, c.want)
		}
		stands(t, "grown", x, sound(free(c.end-heap)))
		has(t, "grown", x, api.Put{Off: 16, V: c.end}, api.Put{Off: 40, V: head.Sum(c.end)}, api.Put{Off: heap, V: c.end - heap}, api.Put{Off: c.end - 8, V: c.end - heap}, api.Put{Off: 32, V: heap})
		if err := head.Check(x); err != api.OK {
			t.Errorf("the head: %d", err)
		}
	}
	if l := seg.Diff(s, was); len(l) > 0 {
		t.Errorf("not applied, but other words at %v", l)
	}
}

// P12.2: behind a used block, and behind a free one; twice; by all that the segment has, and by more.
func TestGrow(t *testing.T) {
	for _, l := range [][]phys.Block{
		{used(48, 1, 8)}, {free(48)}, {used(48, 1, 8), free(64)}, {free(64), used(48, 0, 3)}, {used(64, 2, 9), free(96), used(48, 1, 8), free(96)},
		{free(48), used(64, 8, 9), free(400), used(96, 1, 8), used(48, 8, 0)}, {free(48), used(48, 1, 8), free(48), used(48, 2, 8), free(48), used(48, 3, 8), free(48)},
	} {
		for _, more := range []uint64{0, 8, 16, 40, 48, 56, 64, 96, 104, 400} {
			h := sound(l...)
			_, x := roomy(t, h, more)
			for n := uint64(0); n <= 480; n += 8 {
				now := grows(t, "once", x.Bare(), h, n)
				if err := now.blocks[len(now.blocks)-1]; n%16 == 0 && n >= 48 && n <= more && (err.Tag.Used || now.ends() != h.ends()+n) {
					t.Errorf("grown by %d: %+v", n, now.blocks)
				}
			}
			for _, n := range []uint64{1, 15, 17, 47, 49, 63, 65, more + 1, more - 1, 1<<32 + 48, 1<<32 + 64, 1 << 63, 1<<63 + 48, 1 << 20, 1<<20 + 48, largest, largest - 1, largest - 7, largest - 15, largest - 31, largest - 47, largest - h.ends() + 1, largest - h.ends() + 49, largest - h.ends() - 15} {
				grows(t, "wrong", x, h, n)
			}
			now := h
			for i := range uint64(6) { // on and on
				now = grows(t, "again", x, now, 48+i%3*16)
			}
			now = grows(t, "the rest", x, now, (x.Size()-now.ends())/16*16)
			if left := x.Size() - now.ends(); left >= 64 {
				t.Errorf("%d bytes are left", left)
			}
			grows(t, "no more", x, now, 48)
			x.Apply()
			stands(t, "applied", x.Bare(), now)
		}
	}
}

// P12.2: what is new is taken as any other bytes are; a block that had no room has it.
func TestGrowAndTake(t *testing.T) {
	h := sound(used(48, 1, 8), used(48, 2, 8))
	_, x := roomy(t, h, 400)
	now, p := h, uint64(3808)
	resizes(t, "no room", x, now, p, 100)
	now = grows(t, "grown", x, now, 128)
	resizes(t, "no room yet", x, now, p, 100)
	now = grows(t, "grown", x, now, 48)
	now, p = resizes(t, "room", x, now, p, 100)
	if p != 3904 {
		t.Errorf("moved: %d", p)
	}
	now = grows(t, "grown", x, now, 224)
	if q := take(t, x, 3, 184); q != 3904+176 {
		t.Errorf("taken: %d", q)
	}
}

// P12.1, P12.2: resized, taken, freed and grown at random: as the chapter says, word by word.
func TestAnyHeaps(t *testing.T) {
	told := map[api.Errno]int{}
	grown, moved := 0, 0
	for n := range uint64(250) {
		h := random(n)
		s, x := roomy(t, h, mixed(n)%40*8)
		for i := range uint64(40) {
			m := mixed(n<<30 + i)
			l := h.payloads()
			if m>>56%6 == 0 || len(l) == 0 {
				bytes := m >> 20 % 12 * 8
				if m>>61 > 3 {
					bytes = 48
				}
				if _, err := h.grown(bytes, x.Size()); err == api.OK {
					grown++
				}
				h = grows(t, "any heap", x, h, bytes)
				continue
			}
			p := l[m%uint64(len(l))]
			if m>>50%16 == 0 {
				p += 16
			}
			bytes := m >> 20 % 300
			if m>>62 == 0 {
				bytes = m >> 20 % 60
			}
			_, to, err := h.resized(p, bytes)
			told[err]++
			if err == api.OK && to != p {
				moved++
			}
			h, _ = resizes(t, "any heap", x, h, p, bytes)
			if m>>60 == 0 {
				x.Apply()
				x = tx.New(s)
			}
		}
	}
	if told[api.OK] < 2000 || told[api.ErrBad] < 100 || told[api.ErrNoMem] < 200 || grown < 200 || moved < 500 {
		t.Errorf("too few of one kind: %v, %d, %d", told, grown, moved)
	}
}

// P12.1, P12.2: of each block of a heap with unlike neighbours, by itself, and one behind the other.
func TestEach(t *testing.T) {
	h := several()
	_, x := roomy(t, h, 4000)
	for _, p := range h.payloads() {
		i, _ := h.find(p)
		for n := uint64(0); n <= 400; n += 1 + n%4 {
			resizes(t, "by itself", x.Bare(), h, p, n)
		}
		for _, n := range []uint64{h.blocks[i].Len, h.blocks[i].Tag.Size - over, h.blocks[i].Tag.Size - over + 1, most - heap} {
			resizes(t, "by itself", x.Bare(), h, p, n)
		}
	}
	now := h
	l := h.payloads()
	for i := range l {
		for k, n := range []uint64{150, 20, 60, 300, 24} {
			if k == i%5 {
				now = grows(t, "amid", x, now, 64)
			}
			now, l[i] = resizes(t, "one behind the other", x, now, l[i], n+uint64(i)%16)
			if l[i] == 0 {
				t.Fatalf("no room: %+v", now)
			}
		}
	}
}

// No more words are thought of than a log has room for, but for those that mean nothing yet, and the tree's.
func TestFewWords(t *testing.T) {
	for n := range uint64(200) {
		h := random(n + 9000)
		_, x := roomy(t, h, 64)
		for _, p := range h.payloads() {
			for _, bytes := range []uint64{0, 30, 100, 200} {
				now, _, err := h.resized(p, bytes)
				if err != api.OK {
					continue
				}
				y := x.Bare()
				resize.Resize(y, p, bytes)
				if l := logged(h, now, y); len(l) > 24 {
					t.Errorf("Resize(%d, %d) of %+v: %v", p, bytes, h, l)
				}
			}
		}
		now, _ := h.grown(64, x.Size())
		resize.Grow(x, 64)
		if l := logged(h, now, x); len(l) > 4 {
			t.Errorf("Grow of %+v: %v", h, l)
		}
	}
}

// logged are the words that are thought of but for those that meant nothing, and those of the tree.
func logged(before, now state, x *tx.Tx) []api.Put {
	tree := map[uint64]int{rootAt: 1}
	for _, b := range now.free() {
		tree[b.Off+8], tree[b.Off+16] = 1, 1
	}
	nothing := map[uint64]int{}
	for _, b := range before.blocks {
		first := b.Off + 24
		if b.Tag.Used {
			first = b.Off + front + wordsOf(b.Len)*8
		}
		for off := first; off < b.Off+b.Tag.Size-8; off += 8 {
			nothing[off] = 1
		}
	}
	var l []api.Put
	for _, w := range x.Puts() {
		if w.Off < before.ends() && tree[w.Off]+nothing[w.Off] == 0 {
			l = append(l, w)
		}
	}
	return l
}

// As large a heap as there can be: all of it, and blocks on and on.
func TestLargestHeap(t *testing.T) {
	h := sound(used(most-heap, 8, 8))
	_, x := laid(t, h)
	resizes(t, "all of it", x.Bare(), h, heap+front, most-heap-over)
	resizes(t, "one byte more", x, h, heap+front, most-heap-over+1)
	grows(t, "no more", x, h, 48)
	now, _ := resizes(t, "nothing of it", x, h, heap+front, 0)
	grows(t, "no more", x, now, 48)
	now, p := resizes(t, "most of it", x, now, heap+front, most-heap-over-48)
	resizes(t, "too many", x, now, p, most-heap-over-31)

	small := sound(used(48, 1, 8))
	_, x = roomy(t, small, most-small.ends())
	for _, n := range []uint64{most - small.ends() + 16, most - small.ends() + 48, most, most - heap} {
		grows(t, "more than all of it", x, small, n)
	}
	now = grows(t, "all of it", x, small, most-small.ends())
	stands(t, "all of it", x, sound(used(48, 1, 8), free(most-heap-48)))
	now, p = resizes(t, "all of it", x, now, heap+front, most-heap-48-over)
	if p != heap+48+front {
		t.Errorf("moved: %d", p)
	}
	resizes(t, "back", x, now, p, 8)
}

// What is thought of over a segment: the segment stays, a heap that is only thought of is as good, and one that isn't thought of any more is nothing.
func TestThought(t *testing.T) {
	h := several()
	s, x := laid(t, h)
	was := s.Copy()
	now := h
	for i := range 24 {
		l := now.payloads()
		now, _ = resizes(t, "thought of", x, now, l[i*5%len(l)], mixed(uint64(i))%200)
		if i == 10 {
			now = grows(t, "thought of", x, now, 64)
		}
		if d := seg.Diff(s, was); len(d) > 0 {
			t.Fatalf("not applied, but other words at %v", d)
		}
		stands(t, "by another one", tx.New(s), h)
	}
	other := grows(t, "by another one", x.Bare(), h, 48)
	if slices.Equal(other.blocks, now.blocks) {
		t.Error("both are one")
	}
	stands(t, "thought of", x, now)
	x.Apply()
	stands(t, "applied", tx.New(s), now)

	y := tx.New(littered(t, h.ends()+64, h.ends())) // whose heap is no heap
	for _, w := range h.words() {
		y.Store(w.Off, w.V)
	}
	stands(t, "thought of alone", y, h)
	now = h
	for i := range 24 {
		l := now.payloads()
		now, _ = resizes(t, "thought of alone", y, now, l[i*7%len(l)], mixed(uint64(i)+99)%200)
		if i == 10 {
			now = grows(t, "thought of alone", y, now, 48)
		}
	}
}

// The words of the clients' records and of the directory, and those behind the heap, stay: but a client's first block.
func TestAllElseStays(t *testing.T) {
	for owner := range 9 {
		for _, n := range []uint64{0, 20, 60, 100, 400} {
			h := sound(used(48, 3, 8), free(96), used(112, owner, 8), free(1024), used(48, owner, 8))
			s, x := roomy(t, h, 256)
			was := s.Copy()
			if _, err := resize.Resize(x, 3952, n); err != api.OK {
				t.Fatalf("of the owner %d: %d", owner, err)
			}
			x.Apply()
			for _, off := range seg.Diff(s, was) {
				if off != rootAt && off < heap && (owner == 0 || off != headAt(owner-1)) || off >= h.ends() {
					t.Errorf("of the owner %d: another word at %d", owner, off)
				}
			}
			was = s.Copy()
			if err := resize.Grow(x, 64); err != api.OK {
				t.Fatalf("Grow: %d", err)
			}
			x.Apply()
			for _, off := range seg.Diff(s, was) {
				if off != 16 && off != rootAt && off != 40 && off < heap || off >= h.ends()+64 {
					t.Errorf("grown: another word at %d", off)
				}
			}
		}
	}
}

// R4: two heaps that are alike, in unlike Txs, are resized alike, whatever else is asked between.
func TestNothingIsKept(t *testing.T) {
	h := several()
	_, x := laid(t, h)
	_, y := laid(t, h)
	other := sound(used(480, 1, 8))
	_, z := roomy(t, other, 4000)
	l := h.payloads()
	for i := range uint64(60) {
		p := l[mixed(i)%uint64(len(l))]
		n := mixed(i) >> 20 % 160
		first, firstErr := resize.Resize(x, p, n)
		resize.Resize(z, 3808, i*13%440)
		resize.Grow(z, 48+i%2*16)
		resize.Resize(nil, p, n)
		if wrong, err := resize.Resize(y, p, n); first != wrong || firstErr != err {
			t.Errorf("Resize(%d, %d): %d, %d, but %d, %d", p, n, first, firstErr, wrong, err)
		}
		if i == 30 && (resize.Grow(x, 64) != api.OK || resize.Grow(y, 64) != api.OK) {
			t.Error("not grown")
		}
	}
	if !slices.Equal(x.Puts(), y.Puts()) {
		t.Error("unlike words are thought of")
	}
}

// R5: nobody's Tx has no blocks, and no room; one over a segment that isn't formatted has no blocks.
func TestNil(t *testing.T) {
	for _, x := range []*tx.Tx{nil, tx.New(nil), tx.New(seg.New(0)), tx.New(nil).Bare(), tx.New(seg.New(4000)), tx.New(seg.New(8))} {
		for _, p := range []uint64{0, 16, 32, heap, heap + front, 4000, largest - 31, largest} {
			for _, n := range []uint64{0, 8, 9, 100, largest - 55, largest - 54, largest} {
				if to, err := resize.Resize(x, p, n); to != 0 || err != api.ErrBad {
					t.Errorf("nobody's: Resize(%d, %d): %d, %d", p, n, to, err)
				}
			}
		}
		if l := x.Puts(); len(l) > 0 {
			t.Errorf("nobody's: Puts: %v", l)
		}
	}
	for n := uint64(0); n < 200; n++ {
		want := api.ErrArg
		if n >= 48 && n%16 == 0 {
			want = api.ErrNoMem
		}
		for _, x := range []*tx.Tx{nil, tx.New(nil), tx.New(nil).Bare()} {
			if err := resize.Grow(x, n); err != want {
				t.Errorf("nobody's: Grow(%d): %d, not %d", n, err, want)
			}
		}
	}
	for _, n := range []uint64{1 << 20, 1 << 63, largest - 15} {
		if err := resize.Grow(nil, n); err != api.ErrNoMem {
			t.Errorf("nobody's: Grow(%d): %d", n, err)
		}
	}
	if err := resize.Grow(nil, largest); err != api.ErrArg {
		t.Errorf("nobody's: Grow: %d", err)
	}
}
