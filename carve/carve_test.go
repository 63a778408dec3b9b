package carve_test

import (
	"slices"
	"testing"

	"carrack/api"
	"carrack/carve"
	"carrack/head"
	"carrack/ledger"
	"carrack/phys"
	"carrack/seg"
	"carrack/tag"
	"carrack/tree"
	"carrack/tx"
)

const largest = 1<<64 - 1

// What the document says, as numbers: also package api is asked.
const (
	clients = 8
	rootAt  = 32
	table   = 64
	record  = 416
	heap    = 3776
	least   = 48
	over    = 40
	front   = 32
	most    = 1 << 20
)

// rights are all numbers on whose multiples a payload may be asked for.
var rights = []uint64{16, 32, 64, 128, 256, 512, 1024, 2048, 4096}

// wrongs are some on whose multiples it may not.
func wrongs() []uint64 {
	l := []uint64{0, 1, 2, 4, 8, 15, 17, 24, 31, 33, 40, 48, 63, 80, 96, 112, 144, 272, 2048 + 16, 4080, 4095, 4097, 4096 + 16, 4096 + 2048, 8191, 12288, 1 << 63, 1<<63 + 16, 3 << 62, -16 & largest, largest}
	for shift := 13; shift < 64; shift++ {
		l = append(l, 1<<shift, 1<<shift+16, 1<<shift+4096, 1<<shift-16)
	}
	return l
}

// strangers are numbers of no owner; of many of them the low bits alone look like one's.
func strangers() []int {
	l := []int{-1, -2, -7, -8, -9, -10, -16, -256, 9, 10, 15, 16, 17, 255, 256, 257, 1<<31 - 1, -1 << 31, 1<<63 - 1, -1 << 63, -1<<63 + 1, -1<<63 + 8}
	for shift := 4; shift < 63; shift++ {
		l = append(l, 1<<shift, 1<<shift+1, 1<<shift+8, -1<<shift, -1<<shift+1, -1<<shift+8)
	}
	return l
}

// tooMany are bytes whose need is above 2^64 - 1, almost those whose need isn't, but is larger than any block.
func tooMany() []uint64 {
	return []uint64{largest - 54, largest - 50, largest - 40, largest - 39, largest - 15, largest - 8, largest - 1, largest}
}

func almost() []uint64 {
	l := []uint64{largest - 55, largest - 56, largest - 63, largest - 70, largest - 71, largest - 4095, largest - 4200, 1 << 63, 1<<63 - 40, 1 << 32, 1<<32 + 8, 1 << 31, 1 << 20, 1<<20 - 40}
	for shift := 21; shift < 64; shift++ {
		l = append(l, 1<<shift, 1<<shift+8, 1<<shift+24)
	}
	return l
}

// headAt is where a client's first block should be told.
func headAt(c int) uint64 { return table + uint64(c)*record + 8 }

// mixed is a number that hangs on n alone, with unlike bytes.
func mixed(n uint64) uint64 {
	n = (n + 1) * 0x9E3779B97F4A7C15
	n = (n ^ n>>31) * 0xBF58476D1CE4E5B9
	return n ^ n>>29
}

// state is a heap's blocks, as they stand, and the clients' lists, the first block of each first.
type state struct {
	blocks []phys.Block
	lists  [clients][]uint64
}

// free is a free block, used a used one; where they stand is told by sound.
func free(size uint64) phys.Block { return phys.Block{Tag: tag.Tag{Size: size}} }

func used(size uint64, owner int, n uint64) phys.Block {
	return phys.Block{Tag: tag.Tag{Size: size, Used: true, Owner: owner}, Len: n}
}

// sound lets each block begin where the one ahead of it ends, and gives each client its blocks, the last one first.
func sound(l ...phys.Block) state {
	h := state{blocks: slices.Clone(l)}
	off := uint64(heap)
	for i := range h.blocks {
		b := &h.blocks[i]
		b.Off = off
		off += b.Tag.Size
		if c := b.Tag.Owner - 1; c >= 0 {
			h.lists[c] = append([]uint64{b.Off}, h.lists[c]...)
		}
	}
	return h
}

// ends is where a heap ends.
func (h state) ends() uint64 {
	last := h.blocks[len(h.blocks)-1]
	return last.Off + last.Tag.Size
}

// free are the free blocks, by their sizes, and then by where they stand.
func (h state) free() []phys.Block {
	var l []phys.Block
	for _, b := range h.blocks {
		if b.Tag.Used {
			continue
		}
		i := 0
		for i < len(l) && l[i].Tag.Size <= b.Tag.Size { // those of one size come as they stand
			i++
		}
		l = slices.Insert(l, i, b)
	}
	return l
}

func offs(l []phys.Block) []uint64 {
	var o []uint64
	for _, b := range l {
		o = append(o, b.Off)
	}
	return o
}

// rank is what word.Mix should be, by a product.
func rank(off uint64) uint64 { return off * 0x9E3779B97F4A7C15 }

// hung are all words of the tree of blocks, that come by their keys, below the word at.
func hung(out []api.Put, at uint64, l []phys.Block) []api.Put {
	if len(l) == 0 {
		return append(out, api.Put{Off: at})
	}
	top := 0
	for i, b := range l {
		if rank(b.Off) > rank(l[top].Off) {
			top = i
		}
	}
	off := l[top].Off
	out = append(out, api.Put{Off: at, V: off})
	out = hung(out, off+8, l[:top])
	return hung(out, off+16, l[top+1:])
}

// listed are all words of the clients' lists.
func (h state) listed() []api.Put {
	var out []api.Put
	for c, l := range h.lists {
		at, ahead := headAt(c), uint64(0)
		for _, off := range l {
			out = append(out, api.Put{Off: at, V: off}, api.Put{Off: off + 24, V: ahead})
			at, ahead = off+16, off
		}
		out = append(out, api.Put{Off: at})
	}
	return out
}

// words are all words of a heap that say what it is: tags, how many bytes blocks have, the tree, and the lists.
func (h state) words() []api.Put {
	var out []api.Put
	for _, b := range h.blocks {
		w := b.Tag.Size + uint64(b.Tag.Owner)<<32
		if b.Tag.Used {
			w++
			out = append(out, api.Put{Off: b.Off + 8, V: b.Len})
		}
		out = append(out, api.Put{Off: b.Off, V: w}, api.Put{Off: b.Off + b.Tag.Size - 8, V: w})
	}
	out = append(out, h.listed()...)
	return hung(out, rootAt, h.free())
}

// littered is a segment with a head, whose every other word is another number.
func littered(t *testing.T, all, size uint64) *seg.Seg {
	t.Helper()
	s := seg.New(all)
	if err := head.Format(s, size); err != api.OK {
		t.Fatalf("Format of %d bytes at %d: %d", all, size, err)
	}
	for off := uint64(table); off < all; off += 8 {
		if err := s.Store(off, mixed(off)|1); err != api.OK {
			t.Fatalf("Store(%d): %d", off, err)
		}
	}
	return s
}

// laid is a segment, and a Tx over it without words of its own, whose heap is so.
func laid(t *testing.T, h state) (*seg.Seg, *tx.Tx) {
	t.Helper()
	s := littered(t, min(h.ends()+64, most), h.ends())
	for _, w := range h.words() {
		if err := s.Store(w.Off, w.V); err != api.OK {
			t.Fatalf("Store(%d): %d", w.Off, err)
		}
	}
	x := tx.New(s)
	stands(t, "laid", x, h)
	return s, x
}

// stands asks for a sound heap that is just so.
func stands(t *testing.T, what string, x *tx.Tx, h state) {
	t.Helper()
	l, err := phys.Walk(x)
	if !slices.Equal(l, h.blocks) || err != api.OK {
		t.Errorf("%s: the blocks: %+v, %d, not %+v", what, l, err, h.blocks)
	}
	if !phys.Merged(l) {
		t.Errorf("%s: two free blocks stand beside each other: %+v", what, l)
	}
	if want := offs(h.free()); !tree.Check(x, want) || !slices.Equal(tree.All(x), want) {
		t.Errorf("%s: the tree: %v, not %v", what, tree.All(x), want)
	}
	for c, want := range h.lists {
		if !ledger.Check(x, c, want) || !slices.Equal(ledger.List(x, c), want) {
			t.Errorf("%s: the list of the client %d: %v, not %v", what, c, ledger.List(x, c), want)
		}
	}
}

// loads is what a Tx tells of each word of its segment.
func loads(x *tx.Tx) []uint64 {
	l := make([]uint64, x.Size()/8)
	for i := range l {
		l[i] = x.Load(uint64(i) * 8)
	}
	return l
}

// need is how large a block of so many bytes is, if that is no more than 2^64 - 1.
func need(n uint64) (uint64, bool) {
	if n > largest-55 {
		return 0, false
	}
	return (max(n, 8) + 55) / 16 * 16, true
}

// pad is how many bytes are ahead of a used block, by trying one number after the other.
func pad(off, a uint64) uint64 {
	if (off+32)%a == 0 {
		return 0
	}
	n := uint64(48)
	for (off+n+32)%a != 0 {
		n++
	}
	return n
}

// fitted is what Fit should tell, by looking at each free block.
func (h state) fitted(n, a uint64) (carve.Place, api.Errno) {
	if !slices.Contains(rights, a) {
		return carve.Place{}, api.ErrArg
	}
	bytes, ok := need(n)
	if !ok {
		return carve.Place{}, api.ErrSize
	}
	for _, b := range h.free() {
		p := pad(b.Off, a)
		if b.Tag.Size >= bytes && b.Tag.Size-bytes >= p {
			return carve.Place{Off: b.Off, Pad: p, Need: bytes}, api.OK
		}
	}
	return carve.Place{}, api.ErrNoMem
}

// taken is what Take should tell, and the heap behind it.
func (h state) taken(owner int, n, a uint64) (state, uint64, api.Errno) {
	if owner < 0 || owner > 8 {
		return h, 0, api.ErrArg
	}
	p, err := h.fitted(n, a)
	if err != api.OK {
		return h, 0, err
	}
	var parts []phys.Block
	i := slices.IndexFunc(h.blocks, func(b phys.Block) bool { return b.Off == p.Off })
	if p.Pad > 0 {
		parts = append(parts, free(p.Pad))
		parts[0].Off = p.Off
	}
	u := used(p.Need, owner, n)
	u.Off = p.Off + p.Pad
	left := free(h.blocks[i].Tag.Size - p.Pad - p.Need)
	left.Off = u.Off + p.Need
	if left.Tag.Size < 48 {
		u.Tag.Size += left.Tag.Size
		parts = append(parts, u)
	} else {
		parts = append(parts, u, left)
	}
	h.blocks = slices.Concat(h.blocks[:i], parts, h.blocks[i+1:])
	if owner > 0 {
		h.lists[owner-1] = append([]uint64{u.Off}, h.lists[owner-1]...)
	}
	return h, u.Off + 32, api.OK
}

// fits asks what Fit tells of a heap that is so, and that it changes nothing.
func fits(t *testing.T, what string, x *tx.Tx, h state, n, a uint64) carve.Place {
	t.Helper()
	puts := x.Puts()
	want, wrong := h.fitted(n, a)
	for range 2 {
		if p, err := carve.Fit(x, n, a); p != want || err != wrong {
			t.Errorf("%s: Fit(%d, %d): %+v, %d, not %+v, %d", what, n, a, p, err, want, wrong)
		}
	}
	if got := x.Puts(); !slices.Equal(got, puts) {
		t.Errorf("%s: Fit(%d, %d) thought of %v, ahead of it there was %v", what, n, a, got, puts)
	}
	return want
}

// takes asks what Take tells of a heap that is so, and for all words behind it; the heap behind it is told.
func takes(t *testing.T, what string, x *tx.Tx, h state, owner int, n, a uint64) state {
	t.Helper()
	place := fits(t, what, x, h, n, a)
	puts := x.Puts()
	was := loads(x)
	behind, payload, wrong := h.taken(owner, n, a)
	if p, err := carve.Take(x, owner, n, a); p != payload || err != wrong {
		t.Errorf("%s: Take(%d, %d, %d): %d, %d, not %d, %d", what, owner, n, a, p, err, payload, wrong)
	}
	stands(t, what, x, behind)
	if wrong != api.OK {
		if got := x.Puts(); !slices.Equal(got, puts) {
			t.Errorf("%s: Take(%d, %d, %d) thought of %v, ahead of it there was %v", what, owner, n, a, got, puts)
		}
		return behind
	}
	for _, w := range behind.words() {
		was[w.Off/8] = w.V
	}
	for off := payload; off < payload+n; off += 8 {
		was[off/8] = 0
	}
	for i, v := range loads(x) {
		off := uint64(i) * 8
		if own := off - payload + 16; owner == 0 && (own == 0 || own == 8) { // a list's words, of a block that is in none
			continue
		}
		if v != was[i] {
			t.Errorf("%s: Take(%d, %d, %d): the word at %d: %#x, not %#x", what, owner, n, a, off, v, was[i])
		}
	}
	thinks(t, what, x, h, behind, place, puts)
	if t.Failed() {
		t.Fatalf("%s: Take(%d, %d, %d) of %+v", what, owner, n, a, h)
	}
	return behind
}

// thinks asks that no word is thought of but those that were, and those of the free block, of the tree, and of the lists.
func thinks(t *testing.T, what string, x *tx.Tx, h, behind state, place carve.Place, were []api.Put) {
	t.Helper()
	i := slices.IndexFunc(h.blocks, func(b phys.Block) bool { return b.Off == place.Off })
	end := place.Off + h.blocks[i].Tag.Size
	may := map[uint64]int{}
	for _, w := range slices.Concat(were, hung(nil, rootAt, behind.free()), behind.listed()) {
		may[w.Off] = 1
	}
	for _, w := range x.Puts() {
		if may[w.Off] == 0 && (w.Off < place.Off || w.Off >= end) {
			t.Errorf("%s: %v is thought of, too", what, w)
		}
	}
}

// several has free blocks of many sizes, some of one; it ends at 6304.
func several() state {
	h := sound(
		used(64, 1, 20), free(208), used(48, 2, 8), free(64), used(48, 1, 0), free(112), used(96, 0, 50), free(64),
		used(80, 8, 33), free(48), used(48, 1, 1), free(352), used(64, 3, 24), free(208), used(112, 0, 70), free(96),
		used(48, 2, 7), free(80), used(48, 8, 8), free(112), used(144, 1, 90), free(256), used(48, 5, 3), free(64), used(64, 2, 9),
	)
	h.lists[0] = []uint64{h.blocks[4].Off, h.blocks[20].Off, h.blocks[0].Off, h.blocks[10].Off} // in no turn that stands otherwise
	return h
}

// random is a heap that hangs on n alone.
func random(n uint64) state {
	var l []phys.Block
	for i := range 4 + mixed(n)%24 {
		m := mixed(n<<20 + i)
		size := least + m%18*16
		if m>>60 == 0 {
			size += m >> 20 % 60 * 16
		}
		if m>>32%2 == 0 && (i == 0 || l[i-1].Tag.Used) {
			l = append(l, free(size))
		} else {
			l = append(l, used(size, int(m>>40%9), m>>44%(size-over+1)))
		}
	}
	h := sound(l...)
	for c, list := range h.lists {
		for i := len(list) - 1; i > 0; i-- {
			j := mixed(n<<24+uint64(c)<<16+uint64(i)) % uint64(i+1)
			list[i], list[j] = list[j], list[i]
		}
	}
	return h
}

// P10.1, P10.2, by hand: 96 bytes stay free ahead of 64 that are used, and 64 behind them.
func TestByHand(t *testing.T) {
	s := seg.New(4000)
	if err := head.Format(s, 4000); err != api.OK {
		t.Fatalf("Format: %d", err)
	}
	was := s.Copy()
	x := tx.New(s)
	for _, off := range []uint64{3904, 3912, 3920} {
		x.Store(off, 77)
	}
	if p, err := carve.Fit(x, 9, 64); p != (carve.Place{Off: 3776, Pad: 96, Need: 64}) || err != api.OK {
		t.Errorf("Fit: %+v, %d", p, err)
	}
	if p, err := carve.Take(x, 3, 9, 64); p != 3904 || err != api.OK {
		t.Errorf("Take: %d, %d", p, err)
	}
	for _, w := range []api.Put{
		{Off: 0, V: 0x6361727261636b31}, {Off: 8, V: 1}, {Off: 16, V: 4000}, {Off: 24},
		{Off: 3776, V: 96}, {Off: 3864, V: 96},
		{Off: 3872, V: 0x300000041}, {Off: 3880, V: 9}, {Off: 3888}, {Off: 3896}, {Off: 3904}, {Off: 3912}, {Off: 3920, V: 77}, {Off: 3928, V: 0x300000041},
		{Off: 3936, V: 64}, {Off: 3992, V: 64},
		{Off: 904, V: 3872}, // the client 2's first block
		{Off: 32, V: 3776}, {Off: 3784, V: 3936}, {Off: 3792}, {Off: 3944}, {Off: 3952},
	} {
		if v := x.Load(w.Off); v != w.V {
			t.Errorf("the word at %d: %#x, not %#x", w.Off, v, w.V)
		}
	}
	if l := seg.Diff(s, was); len(l) > 0 {
		t.Errorf("not applied, but other words at %v", l)
	}
}

// The chapter's example, and the document's second to fourth ones.
func TestExamples(t *testing.T) {
	s := seg.New(4000)
	if err := head.Format(s, 4000); err != api.OK {
		t.Fatalf("Format: %d", err)
	}
	x := tx.New(s)
	h := sound(free(224))
	stands(t, "formatted", x, h)
	if p, err := carve.Take(x, 1, 8, 16); p != 3808 || err != api.OK {
		t.Errorf("the first 8 bytes: %d, %d", p, err)
	}
	h = sound(used(48, 1, 8), free(176))
	stands(t, "8 bytes", x, h)
	h = takes(t, "9 bytes", x, h, 2, 9, 16)
	stands(t, "9 bytes", x, sound(used(48, 1, 8), used(64, 2, 9), free(112)))
}

// P10.1: numbers on whose multiples no payload may be asked for, and all those on whose it may.
func TestMultiples(t *testing.T) {
	h := several()
	_, x := laid(t, h)
	_, full := laid(t, sound(used(48, 1, 8)))
	for _, a := range wrongs() {
		for _, n := range slices.Concat([]uint64{0, 8, 100, 312, 313}, tooMany(), almost()) { // it is named first
			for _, y := range []*tx.Tx{x, full, nil} {
				if p, err := carve.Fit(y, n, a); p != (carve.Place{}) || err != api.ErrArg {
					t.Errorf("Fit(%d, %d): %+v, %d", n, a, p, err)
				}
				for _, owner := range []int{0, 1, 8, 9, -1} {
					if p, err := carve.Take(y, owner, n, a); p != 0 || err != api.ErrArg {
						t.Errorf("Take(%d, %d, %d): %d, %d", owner, n, a, p, err)
					}
				}
			}
		}
	}
	stands(t, "asked in vain", x, h)
	if l := x.Puts(); len(l) > 0 {
		t.Errorf("asked in vain, but thought of: %v", l)
	}
	for _, a := range rights {
		big := sound(used(48, 1, 8), free(9216), used(48, 2, 8))
		_, x := laid(t, big)
		if p := fits(t, "a power of two", x, big, 50, a); p.Need != 96 || (p.Off+p.Pad+front)%a != 0 {
			t.Errorf("Fit(50, %d): %+v", a, p)
		}
		takes(t, "a power of two", x, big, 3, 50, a)
	}
}

// P10.1, R1: of several errors the one that is named first: ErrArg, ErrSize, ErrNoMem; and all else is zero.
func TestErrorsInTurn(t *testing.T) {
	roomy := several()
	full := sound(used(112, 4, 70), used(48, 0, 8))
	for _, h := range []state{roomy, full} {
		_, x := laid(t, h)
		for _, a := range rights {
			for _, n := range tooMany() {
				if p, err := carve.Fit(x, n, a); p != (carve.Place{}) || err != api.ErrSize {
					t.Errorf("Fit(%d, %d): %+v, %d", n, a, p, err)
				}
				for owner := range 9 {
					if p, err := carve.Take(x, owner, n, a); p != 0 || err != api.ErrSize {
						t.Errorf("Take(%d, %d, %d): %d, %d", owner, n, a, p, err)
					}
				}
			}
			for _, n := range append(almost(), 313, 400, 4096) {
				if p, err := carve.Fit(x, n, a); p != (carve.Place{}) || err != api.ErrNoMem {
					t.Errorf("Fit(%d, %d): %+v, %d", n, a, p, err)
				}
				for owner := range 9 {
					if p, err := carve.Take(x, owner, n, a); p != 0 || err != api.ErrNoMem {
						t.Errorf("Take(%d, %d, %d): %d, %d", owner, n, a, p, err)
					}
				}
			}
		}
		for _, owner := range strangers() {
			for _, n := range []uint64{0, 8, 100, 400, largest - 55, largest - 54, largest} {
				for _, a := range []uint64{16, 4096, 0, 8, 8192} {
					if p, err := carve.Take(x, owner, n, a); p != 0 || err != api.ErrArg {
						t.Errorf("Take(%d, %d, %d): %d, %d", owner, n, a, p, err)
					}
				}
			}
		}
		stands(t, "asked in vain", x, h)
		if l := x.Puts(); len(l) > 0 {
			t.Errorf("asked in vain, but thought of: %v", l)
		}
	}
}

// P10.1, P10.2: of each number of bytes up to some hundred, on each multiple: a block of 48 bytes at least, and of 16 more for each 16.
func TestBytes(t *testing.T) {
	h := sound(used(48, 1, 8), free(8704), used(48, 2, 8))
	_, x := laid(t, h)
	for n := range uint64(400) {
		for _, a := range rights {
			p := fits(t, "so many bytes", x, h, n, a)
			if p.Need < n+over || n > 8 && p.Need >= n+over+16 || n <= 8 && p.Need != least {
				t.Errorf("Fit(%d, %d): %+v", n, a, p)
			}
		}
	}
	for n := range uint64(200) {
		takes(t, "so many bytes", x.Bare(), h, int(n%9), n, rights[n%9])
	}
	for _, n := range []uint64{0, 1, 7, 8, 9, 23, 24, 25, 39, 40, 41, 1000, 1023, 1024, 1025, 8663, 8664} {
		for owner := range 9 {
			takes(t, "so many bytes", x.Bare(), h, owner, n, 16)
		}
	}
}

// P10.1, P4: as many bytes as the largest free block just fits, and one more.
func TestJustFits(t *testing.T) {
	for _, h := range []state{several(), sound(free(48)), sound(free(9216)), sound(used(48, 1, 8), free(9216)), sound(used(64, 1, 8), free(9216), used(48, 0, 8), free(4608))} {
		_, x := laid(t, h)
		for _, a := range rights {
			var room uint64 // for bytes, and over
			for _, b := range h.free() {
				if p := pad(b.Off, a); b.Tag.Size >= p {
					room = max(room, b.Tag.Size-p)
				}
			}
			if room < least {
				takes(t, "no room", x.Bare(), h, 1, 0, a)
				takes(t, "no room", x.Bare(), h, 1, 8, a)
				continue
			}
			if p := fits(t, "just fits", x, h, room-over, a); p.Need != room {
				t.Errorf("just fits: %+v, of %d bytes with what is over", p, room)
			}
			if _, err := carve.Fit(x, room-over+1, a); err != api.ErrNoMem {
				t.Errorf("one more: %d", err)
			}
			takes(t, "just fits", x.Bare(), h, 1, room-over, a)
			takes(t, "one less", x.Bare(), h, 1, room-over-1, a)
			takes(t, "one more", x.Bare(), h, 1, room-over+1, a)
		}
	}
}

// P10.1: what stays free ahead, wherever the free block begins: none, or a block, with the payload on a multiple.
func TestPad(t *testing.T) {
	seen := map[uint64]int{}
	for k := range uint64(257) {
		h := sound(used(least+k*16, 0, 8), free(4400), used(48, 2, 8))
		_, x := laid(t, h)
		begin := h.blocks[1].Off
		for _, a := range rights {
			p := fits(t, "ahead", x, h, 8, a)
			seen[p.Pad]++
			switch {
			case p.Off != begin || (begin+p.Pad+front)%a != 0:
				t.Errorf("on multiples of %d, from %d on: %+v", a, begin, p)
			case p.Pad == 0: // it can't be fewer
			case p.Pad < least || (begin+front)%a == 0 || p.Pad >= least+a:
				t.Errorf("on multiples of %d, from %d on: %+v", a, begin, p)
			}
			if (k*7+a/16)%5 == 0 {
				takes(t, "ahead", x.Bare(), h, 1, 8, a)
			}
		}
	}
	if seen[0] == 0 || seen[16] > 0 || seen[32] > 0 {
		t.Errorf("%d of 0, %d of 16, %d of 32", seen[0], seen[16], seen[32])
	}
	for _, n := range []uint64{48, 64, 80, 96, 112, 128, 4080, 4112, 4128} { // 4112, 4128: 16 or 32, and a whole multiple
		if seen[n] == 0 {
			t.Errorf("none of %d", n)
		}
	}
}

// P10.1, by hand: 16 or 32 ahead would be no block, so it is a whole multiple more.
func TestPadIsABlock(t *testing.T) {
	for _, c := range []struct{ ahead, a, pad uint64 }{ // the free block begins at 3776 and ahead, its payload at 3808 and that
		{0, 32, 0}, {48, 32, 48}, {64, 32, 0}, {80, 32, 48},
		{48, 64, 48}, {64, 64, 96}, {80, 64, 80}, {96, 64, 0}, {112, 64, 48},
		{48, 128, 112}, {64, 128, 96}, {96, 128, 64}, {112, 128, 48}, {128, 128, 160}, {144, 128, 144}, {160, 128, 0},
		{48, 256, 240}, {240, 256, 48}, {256, 256, 288}, {272, 256, 272}, {288, 256, 0},
		{48, 4096, 240}, {240, 4096, 48}, {256, 4096, 4128}, {272, 4096, 4112}, {288, 4096, 0}, {304, 4096, 4080},
	} {
		var l []phys.Block
		if c.ahead > 0 {
			l = append(l, used(c.ahead, 7, 8))
		}
		h := sound(append(l, free(c.pad+least))...)
		_, x := laid(t, h)
		if p, err := carve.Fit(x, 8, c.a); p != (carve.Place{Off: heap + c.ahead, Pad: c.pad, Need: least}) || err != api.OK {
			t.Errorf("from %d on, on a multiple of %d: %+v, %d, not %d ahead", heap+c.ahead, c.a, p, err, c.pad)
		}
		takes(t, "just fits", x, h, 8, 8, c.a)
		if c.pad == 0 {
			continue
		}
		h = sound(append(l, free(c.pad+least-16))...) // it doesn't fit any more
		_, x = laid(t, h)
		takes(t, "16 less", x, h, 8, 8, c.a)
		if _, err := carve.Take(x, 8, 8, c.a); err != api.ErrNoMem {
			t.Errorf("16 less, from %d on, on a multiple of %d: %d", heap+c.ahead, c.a, err)
		}
	}
}

// P10.1: of free blocks of one Size the lowest one, wherever it is in the tree.
func TestLowestOfOneSize(t *testing.T) {
	var l []phys.Block
	for range 9 {
		l = append(l, used(48, 3, 8), free(96))
	}
	h := sound(l...)
	_, x := laid(t, h)
	for i := range 9 {
		if p, err := carve.Fit(x, 56, 16); p != (carve.Place{Off: h.blocks[2*i+1].Off, Need: 96}) || err != api.OK {
			t.Errorf("the lowest of %d: %+v, %d", 9-i, p, err)
		}
		h = takes(t, "the lowest", x, h, 1, 41, 16)
	}
	takes(t, "none is left", x, h, 1, 0, 16)

	for i := range 9 { // one that is just large enough is ahead of those, wherever it stands
		l[2*i+1] = free(80)
		h := sound(l...)
		_, x := laid(t, h)
		if p := fits(t, "a smaller one", x, h, 40, 16); p.Off != h.blocks[2*i+1].Off {
			t.Errorf("the smaller one at %d: %+v", h.blocks[2*i+1].Off, p)
		}
		h = takes(t, "a smaller one", x, h, 1, 40, 16)
		takes(t, "the others", x, h, 1, 40, 16)
		l[2*i+1] = free(96)
	}
}

// P10.1: a smaller free block that fits without what stays free ahead, but not with it, isn't taken; one that needs none is ahead of a larger one.
func TestSmallerThatDoesNotFit(t *testing.T) {
	// Payloads at 3856 (16 above a multiple of 64), 4000 (32 above one), 4160 (on one), and 4336 (48 above one).
	h := sound(used(48, 1, 8), free(96), used(48, 1, 8), free(112), used(48, 1, 8), free(128), used(48, 1, 8), free(144), used(48, 1, 8))
	_, x := laid(t, h)
	for _, c := range []struct{ n, a, off, pad uint64 }{
		{8, 16, 3824, 0}, {56, 16, 3824, 0}, {57, 16, 3968, 0}, {72, 16, 3968, 0}, {73, 16, 4128, 0}, {88, 16, 4128, 0}, {89, 16, 4304, 0}, {104, 16, 4304, 0},
		{8, 32, 3824, 48}, {9, 32, 3968, 0}, {72, 32, 3968, 0}, {73, 32, 4128, 0}, {89, 32, 0, 0},
		{8, 64, 3824, 48}, {9, 64, 4128, 0}, {88, 64, 4128, 0}, {89, 64, 0, 0},
	} {
		want := carve.Place{Off: c.off, Pad: c.pad, Need: (max(c.n, 8) + 55) / 16 * 16}
		wrong := api.OK
		if c.off == 0 {
			want, wrong = carve.Place{}, api.ErrNoMem
		}
		if p, err := carve.Fit(x, c.n, c.a); p != want || err != wrong {
			t.Errorf("Fit(%d, %d): %+v, %d, not %+v", c.n, c.a, p, err, want)
		}
		takes(t, "by hand", x.Bare(), h, 2, c.n, c.a)
	}
}

// P10.2: what is left behind: none, 16 and 32 bytes are the used block's, 48 and more are free; also with some ahead.
func TestLeft(t *testing.T) {
	for _, ahead := range []uint64{0, 48, 64, 112, 240} {
		for left := uint64(0); left <= 160; left += 16 {
			for _, n := range []uint64{0, 8, 9, 24, 25, 100} {
				bytes, _ := need(n)
				l := []phys.Block{used(288-ahead, 2, 8), free(ahead + bytes + left), used(48, 3, 8), used(48, 1, 4)}
				h := sound(l...)
				for _, last := range []bool{false, true} {
					if last { // the free block ends the heap
						h = sound(l[:2]...)
					}
					_, x := laid(t, h)
					behind := takes(t, "left", x, h, 1, n, 256)
					i := 1
					if ahead > 0 {
						i = 2
						if b := behind.blocks[1]; b != (phys.Block{Off: heap + 288 - ahead, Tag: tag.Tag{Size: ahead}}) {
							t.Errorf("ahead: %+v", b)
						}
					}
					size := bytes + left
					if left >= 48 {
						size = bytes
						if b := behind.blocks[i+1]; b != (phys.Block{Off: 4064 + bytes, Tag: tag.Tag{Size: left}}) {
							t.Errorf("left: %+v", b)
						}
					}
					if b := behind.blocks[i]; b != (phys.Block{Off: 4064, Tag: tag.Tag{Size: size, Used: true, Owner: 1}, Len: n}) {
						t.Errorf("used: %+v", b)
					}
				}
			}
		}
	}
}

// P10.2: a free block that is taken whole, the only one, and amid others.
func TestWhole(t *testing.T) {
	h := sound(free(48))
	_, x := laid(t, h)
	h = takes(t, "the only one", x, h, 4, 8, 16)
	stands(t, "the only one", x, sound(used(48, 4, 8)))
	if head.Root(x) != 0 {
		t.Errorf("the tree's root: %d", head.Root(x))
	}
	takes(t, "none is left", x, h, 4, 8, 16)
	takes(t, "none is left", x, h, 0, 0, 16)

	h = several()
	_, x = laid(t, h)
	for _, b := range h.free() {
		h = takes(t, "amid others", x, h, 6, b.Tag.Size-over, 16)
	}
	if l := h.free(); len(l) > 0 || len(h.blocks) != len(several().blocks) {
		t.Errorf("free: %v", l)
	}
	takes(t, "none is left", x, h, 6, 1, 16)
}

// P10.2: each owner: whose the block is, and in which list it stands; all other lists are as they were.
func TestOwners(t *testing.T) {
	for _, h := range []state{sound(free(480)), several()} {
		for owner := range 9 {
			_, x := laid(t, h)
			now := h
			for i := range uint64(4) {
				now = takes(t, "owners", x, now, owner, i*9, 16)
			}
			for c, l := range now.lists {
				want := len(h.lists[c])
				if c == owner-1 {
					want += 4
				}
				if got := ledger.List(x, c); len(got) != want || !slices.Equal(got, l) {
					t.Errorf("of the owner %d: the client %d has %v", owner, c, got)
				}
			}
		}
		_, x := laid(t, h)
		now := h
		for i := range 9 { // all of them, in one heap
			now = takes(t, "all owners", x, now, i*4%9, 8, 16)
		}
	}
}

// P10.2: the words that n bytes take are 0, also the one that they take in part, and all words behind them are as they were.
func TestZeros(t *testing.T) {
	h := sound(used(48, 1, 8), free(512), used(48, 1, 8))
	for n := range uint64(300) {
		_, x := laid(t, h)
		for off := uint64(3824 + 24); off < 3824+512-8; off += 8 {
			x.Store(off, largest)
		}
		p, err := carve.Take(x, 0, n, 16)
		if p != 3856 || err != api.OK {
			t.Fatalf("Take of %d: %d, %d", n, p, err)
		}
		last := 3824 + (max(n, 8)+55)/16*16 - 8 // the tag stands again there
		for off := p; off < last; off += 8 {
			want := uint64(0)
			if off-p >= n {
				want = largest
			}
			if v := x.Load(off); v != want {
				t.Errorf("of %d bytes the word %d: %#x, not %#x", n, (off-p)/8, v, want)
			}
		}
	}
}

// P10.2: the free block is far down in the tree, and at its root, and what is made of it, too.
func TestTree(t *testing.T) {
	roots := 0
	for n := range uint64(60) {
		var l []phys.Block
		for i := range uint64(14) {
			m := mixed(n<<10 + i)
			l = append(l, used(48+m%3*16, int(m>>20%9), 8), free(48+m>>30%14*16))
		}
		h := sound(l...)
		_, x := laid(t, h)
		for _, b := range h.free() {
			for _, a := range []uint64{16, 64} {
				if room := b.Tag.Size - over; room >= 8 {
					if fits(t, "in the tree", x, h, room, a).Off == head.Root(x) {
						roots++
					}
					takes(t, "in the tree", x.Bare(), h, 1, room, a)
				}
			}
		}
	}
	if roots < 20 {
		t.Errorf("%d of them were the root", roots)
	}
}

// P10.1 to P10.3: in heaps of any blocks, taken on and on, until nothing fits: as the chapter says, word by word.
func TestAnyHeaps(t *testing.T) {
	told := map[api.Errno]int{}
	for n := range uint64(300) {
		h := random(n)
		s, x := laid(t, h)
		for i := range uint64(12) {
			m := mixed(n<<30 + i)
			a := rights[m>>8%3]
			if m>>16%8 == 0 {
				a = rights[m>>20%9]
			}
			_, _, err := h.taken(int(m>>24%9), m>>32%200, a)
			told[err]++
			h = takes(t, "any heap", x, h, int(m>>24%9), m>>32%200, a)
			if m>>60 == 0 {
				x.Apply()
				x = tx.New(s)
			}
		}
		for i := uint64(0); len(h.free()) > 0; i++ { // down to the last byte
			free := h.free()
			h = takes(t, "the rest", x, h, int(i%9), free[mixed(i)%uint64(len(free))].Tag.Size-over, 16)
		}
		takes(t, "no room", x, h, 1, 8, 16)
	}
	if told[api.OK] < 500 || told[api.ErrNoMem] < 100 {
		t.Errorf("too few of one kind: %v", told)
	}
}

// P10.3, P4: it is a smallest free block that fits, and ErrNoMem just if none does; asked of each free block by itself.
func TestSmallest(t *testing.T) {
	for n := range uint64(200) {
		h := random(n + 1000)
		_, x := laid(t, h)
		for i := range uint64(40) {
			m := mixed(n<<30 + i)
			bytes, a := m>>32%400, rights[m%9]
			p, err := carve.Fit(x, bytes, a)
			want, _ := need(bytes)
			some := false
			for _, b := range h.free() {
				if b.Tag.Size < pad(b.Off, a)+want {
					continue
				}
				some = true
				size, _ := tag.Read(x, p.Off)
				if b.Tag.Size < size.Size || b.Tag.Size == size.Size && b.Off < p.Off {
					t.Errorf("Fit(%d, %d): %+v, of %d bytes, but %+v fits", bytes, a, p, size.Size, b)
				}
			}
			if some != (err == api.OK) || !some && err != api.ErrNoMem {
				t.Errorf("Fit(%d, %d): %d, but that one fits is %v", bytes, a, err, some)
			}
		}
		if t.Failed() {
			t.Fatalf("%+v", h)
		}
	}
}

// P10.1: no room at all, on any multiple.
func TestNoRoom(t *testing.T) {
	for _, h := range []state{sound(used(48, 0, 8)), sound(used(48, 1, 0), used(96, 0, 3), used(48, 8, 8)), sound(used(8192, 3, 5000))} {
		_, x := laid(t, h)
		for _, a := range rights {
			for _, n := range []uint64{0, 1, 8, 9, 4000} {
				takes(t, "no room", x, h, 1, n, a)
				if p, err := carve.Take(x, 0, n, a); p != 0 || err != api.ErrNoMem {
					t.Errorf("no room: Take(0, %d, %d): %d, %d", n, a, p, err)
				}
			}
		}
	}
}

// P10.1, P10.2: as large a heap as there can be: all of it, one byte more, and blocks of it on and on.
func TestLargestHeap(t *testing.T) {
	h := sound(free(most - heap))
	_, x := laid(t, h)
	takes(t, "all of it", x.Bare(), h, 1, most-heap-over, 16)
	takes(t, "all of it, on a multiple", x.Bare(), h, 1, most-heap-288-over, 4096)
	takes(t, "one more", x.Bare(), h, 1, most-heap-over+1, 16)
	takes(t, "one more, on a multiple", x.Bare(), h, 1, most-heap-288-over+1, 4096)
	taken := 0
	for {
		p, err := carve.Take(x, taken%9, 100, 4096)
		if err != api.OK {
			break
		}
		if p%4096 != 0 {
			t.Errorf("a payload at %d", p)
		}
		taken++
	}
	if taken != most/4096-1 { // on 4096, and up to the last multiple below the heap's end
		t.Errorf("%d blocks are taken", taken)
	}
	for {
		if _, err := carve.Take(x, 2, 0, 16); err != api.OK {
			break
		}
		taken++
	}
	l, err := phys.Walk(x)
	if err != api.OK || !phys.Merged(l) || len(tree.All(x)) > 0 || len(l) != taken {
		t.Errorf("%d blocks, %d; %d are taken, %d are free", len(l), err, taken, len(tree.All(x)))
	}
}

// What is thought of over a segment: the segment stays, a heap that is only thought of is as good, and one that isn't thought of any more is nothing.
func TestThought(t *testing.T) {
	h := several()
	s, x := laid(t, h)
	was := s.Copy()
	now := h
	for i := range uint64(8) {
		now = takes(t, "thought of", x, now, int(i), 20+i, 32)
		if l := seg.Diff(s, was); len(l) > 0 {
			t.Fatalf("not applied, but other words at %v", l)
		}
		stands(t, "by another one", tx.New(s), h)
	}
	other := takes(t, "by another one", x.Bare(), h, 8, 300, 16)
	if slices.Equal(other.blocks, now.blocks) {
		t.Error("both are one")
	}
	stands(t, "thought of", x, now)
	x.Apply()
	stands(t, "applied", tx.New(s), now)

	y := tx.New(littered(t, h.ends()+64, h.ends())) // whose heap is no heap
	for _, w := range h.words() {
		y.Store(w.Off, w.V)
	}
	stands(t, "thought of alone", y, h)
	now = h
	for i := range uint64(8) {
		now = takes(t, "thought of alone", y, now, 8-int(i), 3*i, 16)
	}
}

// The words of the clients' records and of the directory, and those behind the heap, stay: but a client's first block.
func TestAllElseStays(t *testing.T) {
	h := sound(used(48, 3, 8), free(1024))
	for owner := range 9 {
		s, x := laid(t, h)
		was := s.Copy()
		if _, err := carve.Take(x, owner, 100, 128); err != api.OK {
			t.Fatalf("Take: %d", err)
		}
		x.Apply()
		for _, off := range seg.Diff(s, was) {
			if off != rootAt && off < heap && (owner == 0 || off != headAt(owner-1)) || off >= h.ends() {
				t.Errorf("of the owner %d: another word at %d", owner, off)
			}
		}
	}
}

// R4: two heaps that are alike, in unlike Txs, are taken alike, in whatever turn they are asked.
func TestNothingIsKept(t *testing.T) {
	_, x := laid(t, several())
	_, y := laid(t, several())
	z := tx.New(littered(t, 4000, 4000))
	for i := range uint64(20) {
		m := mixed(i)
		a := rights[m%4]
		p, err := carve.Take(x, int(m>>8%9), m>>16%150, a)
		carve.Take(z, 1, 8, 16)
		carve.Take(nil, 1, 8, 16)
		q, wrong := carve.Take(y, int(m>>8%9), m>>16%150, a)
		if p != q || err != wrong {
			t.Errorf("%d, %d, but %d, %d", p, err, q, wrong)
		}
	}
	if !slices.Equal(x.Puts(), y.Puts()) {
		t.Error("unlike words are thought of")
	}
}

// Values that are compared: a Place.
func TestPlaces(t *testing.T) {
	a, b := carve.Place{Off: 1, Pad: 2, Need: 3}, carve.Place{Off: 1, Pad: 2, Need: 3}
	if a != b || a == (carve.Place{Off: 1, Pad: 2, Need: 4}) || a == (carve.Place{Off: 1, Pad: 1, Need: 3}) || a == (carve.Place{Off: 2, Pad: 2, Need: 3}) {
		t.Error("Places")
	}
}

// R5: nobody's Tx has no words, so no free block; what is wrong is told first.
func TestNil(t *testing.T) {
	for _, x := range []*tx.Tx{nil, tx.New(nil), tx.New(seg.New(0)), tx.New(nil).Bare()} {
		for _, a := range rights {
			for _, n := range append(almost(), 0, 1, 8, 9, 100) {
				if p, err := carve.Fit(x, n, a); p != (carve.Place{}) || err != api.ErrNoMem {
					t.Errorf("nobody's: Fit(%d, %d): %+v, %d", n, a, p, err)
				}
				for owner := range 9 {
					if p, err := carve.Take(x, owner, n, a); p != 0 || err != api.ErrNoMem {
						t.Errorf("nobody's: Take(%d, %d, %d): %d, %d", owner, n, a, p, err)
					}
				}
			}
			for _, n := range tooMany() {
				if p, err := carve.Fit(x, n, a); p != (carve.Place{}) || err != api.ErrSize {
					t.Errorf("nobody's: Fit(%d, %d): %+v, %d", n, a, p, err)
				}
				if p, err := carve.Take(x, 1, n, a); p != 0 || err != api.ErrSize {
					t.Errorf("nobody's: Take(1, %d, %d): %d, %d", n, a, p, err)
				}
			}
			for _, owner := range strangers() {
				if p, err := carve.Take(x, owner, largest, a); p != 0 || err != api.ErrArg {
					t.Errorf("nobody's: Take(%d, .., %d): %d, %d", owner, a, p, err)
				}
			}
		}
		if p, err := carve.Fit(x, largest, 8); p != (carve.Place{}) || err != api.ErrArg {
			t.Errorf("nobody's: %+v, %d", p, err)
		}
		if l := x.Puts(); len(l) > 0 {
			t.Errorf("nobody's: Puts: %v", l)
		}
	}
}
