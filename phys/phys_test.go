package phys_test

import (
	"slices"
	"testing"

	"carrack/api"
	"carrack/head"
	"carrack/phys"
	"carrack/seg"
	"carrack/tag"
	"carrack/tx"
)

const largest = 1<<64 - 1

// What the document says, as numbers: also package api is asked.
const (
	heap   = 3776
	least  = 48
	most   = 1 << 20
	over   = 40
	front  = 32
	owners = 8

	all = 4800 // bytes of most segments here
	end = 4480 // where their heaps end
)

// mixed is a number that hangs on n alone, with unlike bytes.
func mixed(n uint64) uint64 {
	n = (n + 1) * 0x9E3779B97F4A7C15
	n = (n ^ n>>31) * 0xBF58476D1CE4E5B9
	return n ^ n>>29
}

// formatted is a segment that must be one.
func formatted(t *testing.T, all, size uint64) *seg.Seg {
	t.Helper()
	s := seg.New(all)
	if err := head.Format(s, size); err != api.OK {
		t.Fatalf("Format of %d bytes at %d: %d", all, size, err)
	}
	return s
}

// lay stores a word in the segment itself.
func lay(t *testing.T, s *seg.Seg, off, v uint64) {
	t.Helper()
	if err := s.Store(off, v); err != api.OK {
		t.Fatalf("Store(%d) in a segment of %d bytes: %d", off, s.Size(), err)
	}
}

// word is what a tag's word should be, by sums.
func word(g tag.Tag) uint64 {
	w := g.Size + uint64(g.Owner)*4294967296
	if g.Used {
		w++
	}
	return w
}

// free is a free block, used a used one; where they stand is told by row.
func free(size uint64) phys.Block { return phys.Block{Tag: tag.Tag{Size: size}} }

func used(size uint64, owner int, n uint64) phys.Block {
	return phys.Block{Tag: tag.Tag{Size: size, Used: true, Owner: owner}, Len: n}
}

// row lets each block begin where the one ahead of it ends, the first one at Heap.
func row(l ...phys.Block) []phys.Block {
	off := uint64(heap)
	l = slices.Clone(l)
	for i := range l {
		l[i].Off = off
		off += l[i].Tag.Size
	}
	return l
}

// ends is where the last one of a row ends.
func ends(l []phys.Block) uint64 {
	return l[len(l)-1].Off + l[len(l)-1].Tag.Size
}

// think stores the words of blocks in a Tx, of a used one also its Len.
func think(x *tx.Tx, l []phys.Block) {
	for _, b := range l {
		x.Store(b.Off, word(b.Tag))
		x.Store(b.Off+b.Tag.Size-8, word(b.Tag))
		if b.Tag.Used {
			x.Store(b.Off+8, b.Len)
		}
	}
}

// laid is a segment, and a Tx over it without words of its own, whose heap is just these blocks.
func laid(t *testing.T, l []phys.Block) (*seg.Seg, *tx.Tx) {
	t.Helper()
	s := formatted(t, min(max(all, ends(l)+64), most), ends(l))
	x := tx.New(s)
	think(x, l)
	x.Apply()
	return s, tx.New(s)
}

// several is a row with blocks of all kinds; it ends at 4480.
func several() []phys.Block {
	return row(used(48, 1, 8), free(64), used(96, 0, 50), used(48, 8, 0), free(48), used(112, 3, 72), used(128, 3, 87), free(160))
}

// random is a row that hangs on n alone, and whose end fits a heap.
func random(n, blocks uint64) []phys.Block {
	var l []phys.Block
	for i := range blocks {
		m := mixed(n<<20 + i)
		size := least + m%12*16
		if m>>32%3 == 0 {
			l = append(l, free(size))
		} else {
			l = append(l, used(size, int(m>>40%9), m>>44%(size-over+1)))
		}
	}
	return row(l...)
}

// walks asks for these blocks, torn for ErrForm and for nothing that is found, whatever is asked.
func walks(t *testing.T, what string, x *tx.Tx, want []phys.Block) {
	t.Helper()
	if l, err := phys.Walk(x); !slices.Equal(l, want) || err != api.OK {
		t.Errorf("%s: Walk: %+v, %d, not %+v", what, l, err, want)
	}
}

func torn(t *testing.T, what string, x *tx.Tx) {
	t.Helper()
	if l, err := phys.Walk(x); len(l) != 0 || err != api.ErrForm {
		t.Errorf("%s: Walk: %+v, %d, not ErrForm alone", what, l, err)
	}
	for _, off := range []uint64{heap, heap + front, heap + 48 + front, heap + 112 + front, heap + 208 + front, 4192 + front, 4320 + front, 0, 32, largest} {
		misses(t, what, x, off)
	}
}

// finds asks for a block, misses for none.
func finds(t *testing.T, what string, x *tx.Tx, payload uint64, want phys.Block) {
	t.Helper()
	if b, ok := phys.Find(x, payload); b != want || !ok {
		t.Errorf("%s: Find(%d): %+v, %v, not %+v", what, payload, b, ok, want)
	}
}

func misses(t *testing.T, what string, x *tx.Tx, payload uint64) {
	t.Helper()
	if b, ok := phys.Find(x, payload); b != (phys.Block{}) || ok {
		t.Errorf("%s: Find(%d): %+v, %v, not nothing", what, payload, b, ok)
	}
}

// stands is what the chapter says of the words that x tells: all blocks, and whether they are a heap's, by plain sums.
func stands(x *tx.Tx) ([]phys.Block, bool) {
	size := x.Load(16)
	if x.Load(0) != 0x6361727261636b31 || x.Load(8) != 1 || x.Load(40) != (0x6361727261636b31^size)*0x9E3779B97F4A7C15 {
		return nil, false
	}
	if size%16 != 0 || size < 3824 || size > x.Size() {
		return nil, false
	}
	var l []phys.Block
	off := uint64(3776)
	for off < size {
		w := x.Load(off)
		b := phys.Block{Off: off, Tag: tag.Tag{Size: w % 4294967296 / 2 * 2, Used: w%2 == 1, Owner: int(w / 4294967296)}}
		g := b.Tag
		if g.Size < 48 || g.Size%16 != 0 || g.Size > size-off || g.Owner > 8 || !g.Used && g.Owner != 0 || x.Load(off+g.Size-8) != w {
			return nil, false
		}
		if g.Used {
			b.Len = x.Load(off + 8)
			if b.Len > g.Size-40 { // sizes are multiples of 16, and 48 at least: just then it needs more
				return nil, false
			}
		}
		l = append(l, b)
		off += g.Size
	}
	return l, true
}

// P6.1, by hand
func TestByHand(t *testing.T) {
	s := formatted(t, 4000, 4000)
	walks(t, "formatted", tx.New(s), []phys.Block{{Off: 3776, Tag: tag.Tag{Size: 224, Used: false, Owner: 0}, Len: 0}})
	misses(t, "formatted", tx.New(s), 3808)

	for _, w := range []api.Put{
		{Off: 3776, V: 0x300000041}, {Off: 3784, V: 24}, {Off: 3832, V: 0x300000041}, // 64 bytes of the client 2, who has 24
		{Off: 3840, V: 0x51}, {Off: 3848, V: 33}, {Off: 3912, V: 0x51}, // 80 bytes of everybody
		{Off: 3920, V: 80}, {Off: 3928, V: 17}, {Off: 3992, V: 80}, // a free block, with a son at 17
	} {
		lay(t, s, w.Off, w.V)
	}
	one := phys.Block{Off: 3776, Tag: tag.Tag{Size: 64, Used: true, Owner: 3}, Len: 24}
	two := phys.Block{Off: 3840, Tag: tag.Tag{Size: 80, Used: true, Owner: 0}, Len: 33}
	three := phys.Block{Off: 3920, Tag: tag.Tag{Size: 80, Used: false, Owner: 0}, Len: 0}
	x := tx.New(s)
	walks(t, "three", x, []phys.Block{one, two, three})
	finds(t, "three", x, 3808, one)
	finds(t, "three", x, 3872, two)
	for _, off := range []uint64{3952, 3776, 3840, 3920, 3807, 3809, 3816, 3824, 4000, 4032} {
		misses(t, "three", x, off)
	}

	lay(t, s, 3784, 25)
	torn(t, "a byte more than there can be", x)
	lay(t, s, 3784, 24)
	lay(t, s, 3992, 81)
	torn(t, "the last word is another one", x)
}

// P6.1, P6.3: a formatted segment has one block, that is the heap.
func TestFormatted(t *testing.T) {
	for _, size := range []uint64{3824, 3840, 3856, 4000, 4096, end, 1 << 16, 1<<16 + 16, 1<<20 - 16, 1 << 20} {
		for _, more := range []uint64{0, 8, 16, 48, 64} {
			if size+more > most {
				continue
			}
			x := tx.New(formatted(t, size+more, size))
			walks(t, "formatted", x, []phys.Block{{Off: 3776, Tag: tag.Tag{Size: size - 3776}, Len: 0}})
			misses(t, "formatted", x, heap+front)
		}
	}
}

// P6.1: one used block, as small as can be, and as large.
func TestOne(t *testing.T) {
	for _, size := range []uint64{48, 64, 80, 224, 4096, most - heap} {
		for owner := range owners + 1 {
			for _, n := range []uint64{0, 1, 8, size - 41, size - 40} {
				l := row(used(size, owner, n))
				_, x := laid(t, l)
				walks(t, "one", x, l)
				finds(t, "one", x, heap+front, l[0])
				misses(t, "one", x, heap)
				if t.Failed() {
					t.Fatalf("%d bytes, of %d, %d of them", size, owner, n)
				}
			}
		}
	}
}

// P6.1, P6.3: blocks of each kind, as they stand, and nothing else; all together they are the heap.
func TestWalk(t *testing.T) {
	for n := range uint64(300) {
		l := random(n, 1+n%40)
		_, x := laid(t, l)
		walks(t, "random", x, l)
		got, _ := phys.Walk(x)
		sum := uint64(0)
		for _, b := range got {
			sum += b.Tag.Size
		}
		if sum != head.Size(x)-heap {
			t.Errorf("%d bytes of blocks in a heap of %d", sum, head.Size(x)-heap)
		}
		if t.Failed() {
			t.Fatalf("the row %d", n)
		}
	}
}

// P6.1, P6.3: as many blocks as there can be.
func TestMany(t *testing.T) {
	var l []phys.Block
	for off := uint64(heap); off+least <= most; off += least {
		l = append(l, used(least, int(off/least%9), off%9))
	}
	l[len(l)-1] = free(80) // what is left of the heap
	l = row(l...)
	if ends(l) != most {
		t.Fatalf("it ends at %d", ends(l))
	}
	s := formatted(t, most, most)
	x := tx.New(s)
	think(x, l)
	walks(t, "thought of", x, l)
	x.Apply()
	walks(t, "stored", tx.New(s), l)
	for _, i := range []int{0, 1, 10000, len(l) - 2} {
		finds(t, "many", x, l[i].Off+front, l[i])
	}
	misses(t, "the free one", x, l[len(l)-1].Off+front)
	if b, ok := phys.Before(l, l[20000].Off); b != l[19999] || !ok {
		t.Errorf("ahead: %+v, %v", b, ok)
	}
	if b, ok := phys.After(l, l[20000].Off); b != l[20001] || !ok {
		t.Errorf("behind: %+v, %v", b, ok)
	}
}

// P6.1: the last one ends where the heap ends, not behind it, and not ahead of it.
func TestUpToTheEnd(t *testing.T) {
	l := several()
	for ends := uint64(3824); ends <= all; ends += 16 {
		_, x := laid(t, l)
		head.Resize(x, ends)
		i := slices.IndexFunc(l, func(b phys.Block) bool { return b.Off+b.Tag.Size == ends })
		if i >= 0 {
			walks(t, "it ends where a block does", x, l[:i+1])
		} else {
			torn(t, "no block ends there", x)
		}
		if t.Failed() {
			t.Fatalf("a heap that ends at %d", ends)
		}
	}
}

// P6.1: a gap ahead of where the heap ends: too few bytes for a block, whatever stands there, or words of none.
func TestGap(t *testing.T) {
	for _, gap := range []uint64{16, 32, 48, 64, 128} {
		for _, last := range []phys.Block{free(96), used(96, 4, 9), used(96, 0, 56)} {
			l := row(used(64, 1, 3), last)
			s := formatted(t, all, ends(l)+gap)
			lay(t, s, ends(l)+gap-8, 0) // the formatted one's last word
			x := tx.New(s)
			think(x, l)
			torn(t, "a gap", x)
			for _, w := range []uint64{1, 16, 17, 32, 33, 49, 65, gap + 1, gap + 16, gap - 16, 0x100000030, 0x100000031, largest} {
				for off := ends(l); off < ends(l)+gap; off += 8 {
					x.Store(off, w)
				}
				if w == gap-16 && gap >= 64 { // a block, and a gap behind it
					x.Store(ends(l)+w, 0)
				}
				torn(t, "a gap with a word", x)
			}
			if gap >= least {
				filled := row(l[0], l[1], used(gap, 7, 8))
				think(x, filled)
				walks(t, "filled", x, filled)
			}
			if t.Failed() {
				t.Fatalf("a gap of %d bytes behind %+v", gap, last)
			}
		}
	}
}

// P6.1: a word of a tag otherwise, at a block's begin, at its end, or at both.
func TestTornTags(t *testing.T) {
	l := several()
	s, _ := laid(t, l)
	for i, b := range l {
		for bit := range 64 {
			x := tx.New(s)
			x.Store(b.Off, word(b.Tag)^1<<bit)
			torn(t, "at its begin", x)
			x = tx.New(s)
			x.Store(b.Off+b.Tag.Size-8, word(b.Tag)^1<<bit)
			torn(t, "at its end", x)
			if bit >= 4 && bit < 32 { // other sizes: the blocks don't fill the heap, or don't stand again
				x.Store(b.Off, word(b.Tag)^1<<bit)
				torn(t, "at both", x)
			}
		}
		for _, w := range []uint64{0, 1, 16, 32, 33, 9<<32 + 49, 1<<32 + 48, largest, end - b.Off + 16, end - b.Off + 17} {
			for _, off := range []uint64{b.Off, b.Off + b.Tag.Size - 8} {
				x := tx.New(s)
				x.Store(off, w)
				torn(t, "another word", x)
			}
		}
		if t.Failed() {
			t.Fatalf("the block %d: %+v", i, b)
		}
	}
}

// P6.1: each word of a heap otherwise, as others may be; what stands is told by plain sums.
func TestOtherWords(t *testing.T) {
	for n := range uint64(8) {
		l := random(1000+n, 12)
		s, _ := laid(t, l)
		words := []uint64{0, 1, 8, 24, 48, 49, 64, 65, 96, 97, 112, 1<<32 + 49, 3<<32 + 65, 8<<32 + 81, 9<<32 + 81, 1<<32 + 64, largest, largest - 47}
		for _, b := range l {
			words = append(words, word(b.Tag), b.Tag.Size, b.Off, b.Tag.Size-40, b.Tag.Size-39)
		}
		for off := uint64(heap); off < ends(l); off += 8 {
			for _, w := range words {
				x := tx.New(s)
				x.Store(off, w)
				if want, ok := stands(x); ok {
					walks(t, "it stands", x, want)
				} else {
					torn(t, "it doesn't", x)
				}
				if t.Failed() {
					t.Fatalf("%d at %d of %+v", w, off, l)
				}
			}
		}
	}
}

// P6.1: heaps of any words.
func TestAnyWords(t *testing.T) {
	s := formatted(t, 4000, 4000)
	whole := 0
	for n := range uint64(20000) {
		x := tx.New(s)
		for off := uint64(heap); off < 4000; off += 8 {
			m := mixed(n<<16 + off)
			x.Store(off, []uint64{48, 49, 64, 1<<32 + 49, 112, 113, 0, 8, 176, m}[m>>20%10])
		}
		if want, ok := stands(x); ok {
			walks(t, "it stands", x, want)
			whole++
		} else {
			torn(t, "it doesn't", x)
		}
		if t.Failed() {
			t.Fatalf("the words %d", n)
		}
	}
	if whole == 0 {
		t.Error("no heap among them")
	}
}

// P6.1: how many bytes a used block may have: up to what its Size leaves of 40; a block of more bytes than it needs is one.
func TestLen(t *testing.T) {
	for _, size := range []uint64{48, 64, 80, 96, 112, 128, 224, 256, 4096} {
		for owner := range owners + 1 {
			l := row(free(64), used(size, owner, 0), free(48))
			_, x := laid(t, l)
			at := l[1].Off
			for n := uint64(0); n <= size+64; n++ {
				x.Store(at+8, n)
				if l[1].Len = n; n+40 <= size {
					walks(t, "as many bytes as can be", x, l)
					finds(t, "as many bytes as can be", x, at+front, l[1])
				} else {
					torn(t, "more bytes than can be", x)
				}
			}
			for shift := 13; shift < 64; shift++ {
				for _, n := range []uint64{1 << shift, 1<<shift + 1, 1<<shift - 1, 1<<shift + 8, largest << shift, -size << shift, 1<<shift - size, 1<<shift - 40, 1<<shift + size - 40} {
					if n > size {
						x.Store(at+8, n)
						torn(t, "many more bytes", x)
					}
				}
			}
			for less := range uint64(256) { // near 2^64: word.Need has no number, or a great one
				x.Store(at+8, largest-less)
				torn(t, "no number of bytes that can be", x)
			}
			if t.Failed() {
				t.Fatalf("%d bytes, of %d", size, owner)
			}
		}
	}
}

// P6.1: a Len is asked of each used block, wherever it stands, and of itself alone.
func TestLenOfEach(t *testing.T) {
	l := several()
	s, _ := laid(t, l)
	for i, b := range l {
		x := tx.New(s)
		if b.Tag.Used {
			x.Store(b.Off+8, b.Tag.Size-39)
			torn(t, "a byte more", x)
			x.Store(b.Off+8, b.Tag.Size-40)
			other := slices.Clone(l)
			other[i].Len = b.Tag.Size - 40
			walks(t, "just its Size", x, other)
			continue
		}
		for _, w := range []uint64{0, 1, 8, b.Tag.Size - 40, b.Tag.Size - 39, b.Tag.Size, heap, 4096, most, 1 << 63, largest - 40, largest} {
			x.Store(b.Off+8, w)
			walks(t, "a free block's Len", x, l)
		}
	}
	// Of the other words behind a tag none is asked: they are lists', the tree's, and payloads.
	for _, b := range l {
		x := tx.New(s)
		for off := b.Off + 8; off < b.Off+b.Tag.Size-8; off += 8 {
			if off > b.Off+8 || !b.Tag.Used {
				x.Store(off, mixed(off))
			}
		}
		walks(t, "other words within", x, l)
	}
}

// P6.1: head.Check of what x tells is asked: each of its words, and nothing else ahead of the heap.
func TestHead(t *testing.T) {
	l := several()
	s, x := laid(t, l)
	walks(t, "whole", x, l)
	for _, off := range []uint64{0, 8, 16, 40} {
		for _, v := range []uint64{0, 1<<63 + 1, 2, 16, 4000, 4472, 4488, 4496, 4800, 4816, 1 << 20, largest - 15, largest, x.Load(off) ^ 1, x.Load(off) + 1<<32} {
			y := tx.New(s)
			y.Store(off, v)
			torn(t, "thought otherwise", y)
			c := s.Copy()
			lay(t, c, off, v)
			torn(t, "otherwise", tx.New(c))
			y = tx.New(c)
			y.Store(off, x.Load(off))
			walks(t, "mended", y, l)
		}
	}
	y := tx.New(s)
	for _, off := range []uint64{24, 32, 48, 56, 64, 72, 80, 480, 3384, 3392, 3768} { // Lock, Root, records, slots
		y.Store(off, mixed(off))
		walks(t, "other words of the head", y, l)
	}
	for _, off := range []uint64{4480, 4488, 4792} {
		y.Store(off, largest)
		walks(t, "words behind the heap", y, l)
	}
}

// P6.1: a segment that isn't formatted, or that has no heap.
func TestUnformatted(t *testing.T) {
	for _, all := range []uint64{8, 16, 24, 48, 64, 3768, 3776, 3784, 3816, 3824, 4000, all, most} {
		torn(t, "all 0", tx.New(seg.New(all)))
		s := seg.New(all)
		for off := uint64(0); off < min(all, 8000); off += 8 {
			lay(t, s, off, 0x300000031)
		}
		torn(t, "all like a tag", tx.New(s))
		if all >= heap+48 {
			x := tx.New(seg.New(all))
			think(x, row(used(48, 2, 8)))
			torn(t, "a block without a head", x)
		}
	}
	for _, size := range []uint64{3776, 3792, 3808, 0, 16} { // a head without a heap
		x := tx.New(formatted(t, all, end))
		head.Resize(x, size)
		torn(t, "no heap", x)
	}
}

// P6.1: a heap that ends behind the segment, or at no multiple of 16.
func TestEndsThatDontFit(t *testing.T) {
	l := row(used(48, 2, 8), free(most-48))
	x := tx.New(formatted(t, all, end))
	think(x, l)
	for _, size := range []uint64{all + 16, heap + most, 1 << 20, 1 << 32, 1 << 63, largest - 15, largest, 3825, 3832, end + 8, end - 8} {
		head.Resize(x, size)
		torn(t, "an end that doesn't fit", x)
	}
}

// P6.1: what is thought of over a segment is told; what another one thinks isn't.
func TestThought(t *testing.T) {
	s := formatted(t, all, end)
	whole := []phys.Block{{Off: 3776, Tag: tag.Tag{Size: 704}}}
	l := several()
	x, y := tx.New(s), tx.New(s)
	think(x, l)
	walks(t, "thought of", x, l)
	walks(t, "by another one", y, whole)
	misses(t, "by another one", y, heap+front)
	for _, b := range l {
		if b.Tag.Used {
			finds(t, "thought of", x, b.Off+front, b)
		}
	}
	x.Store(l[0].Off+8, 7)
	l[0].Len = 7
	walks(t, "thought of last", x, l)
	walks(t, "without words", x.Bare(), whole)

	lay(t, s, 16, 0) // the segment's words alone, from here on, are no heap's
	torn(t, "the segment's end is gone", y)
	x.Store(16, end)
	walks(t, "the end is thought of", x, l)
	head.Resize(x, l[2].Off)
	walks(t, "a heap that is thought to end ahead", x, l[:2])
	finds(t, "a heap that is thought to end ahead", x, l[0].Off+front, l[0])
	misses(t, "a heap that is thought to end ahead", x, l[2].Off+front)
	x.Store(l[1].Off, 0)
	torn(t, "thought to be torn", x)
}

// P6.1: at each number: a payload is what begins 32 bytes behind a used block's begin.
func TestFind(t *testing.T) {
	l := several()
	_, x := laid(t, l)
	payloads := map[uint64]phys.Block{}
	for _, b := range l {
		if b.Tag.Used {
			payloads[b.Off+32] = b
		}
	}
	if len(payloads) != 5 {
		t.Fatalf("%d payloads", len(payloads))
	}
	for off := range uint64(all + 64) {
		if b, ok := payloads[off]; ok {
			finds(t, "a payload", x, off, b)
		} else {
			misses(t, "no payload", x, off)
		}
	}
	for less := range uint64(100) {
		misses(t, "near 2^64", x, largest-less)
	}
	for _, off := range []uint64{heap, heap + 32, 3936, 4032, l[5].Off, l[5].Off + 32, end} {
		for _, more := range []uint64{1 << 20, 1 << 31, 1 << 32, 1 << 48, 1 << 63, 3 << 62} {
			misses(t, "as an offset of fewer bits it would be one", x, off+more)
		}
		misses(t, "as far below 0", x, -off)
	}
	for _, size := range []uint64{48, 64, 704} { // one free block, one used one
		_, x := laid(t, row(free(size)))
		_, y := laid(t, row(used(size, 3, 1)))
		for off := range uint64(all) {
			misses(t, "a free one", x, off)
			if off != 3808 {
				misses(t, "a used one", y, off)
			}
		}
	}
}

// P6.1: a used block is found just if all of Walk is: also if what isn't so stands far behind it.
func TestFindAsksWalk(t *testing.T) {
	l := several()
	s, _ := laid(t, l)
	for _, w := range []api.Put{
		{Off: 0, V: 1}, {Off: 40, V: 1},
		{Off: l[0].Off, V: 0}, {Off: l[0].Off + 8, V: 9}, {Off: l[0].Off + 40, V: 0},
		{Off: l[4].Off, V: 16}, {Off: l[4].Off + 40, V: 64},
		{Off: l[6].Off + 8, V: 89}, {Off: l[6].Off + 8, V: largest},
		{Off: l[7].Off, V: 144}, {Off: l[7].Off, V: 161}, {Off: 4472, V: 0},
	} {
		x := tx.New(s)
		x.Store(w.Off, w.V)
		torn(t, "a word otherwise", x)
		for _, b := range l {
			misses(t, "a word otherwise", x, b.Off+front)
		}
	}
}

// P6.1, R3: what is asked of stays as it is, and what is told is the caller's own.
func TestOwn(t *testing.T) {
	l := several()
	s, x := laid(t, l)
	was := s.Copy()
	x.Store(4000, 5)
	x.Store(8, 1)
	puts := x.Puts()
	one, _ := phys.Walk(x)
	phys.Find(x, heap+front)
	phys.Find(x, 3)
	if got := x.Puts(); !slices.Equal(got, puts) {
		t.Errorf("Puts: %v, not %v", got, puts)
	}
	if offs := seg.Diff(s, was); len(offs) > 0 {
		t.Errorf("other words at %d", offs)
	}
	two, _ := phys.Walk(x)
	for i := range one {
		one[i] = phys.Block{Off: 1}
	}
	one = append(one, phys.Block{Off: 2})
	walks(t, "again", x, l)
	if !slices.Equal(two, l) {
		t.Errorf("another list: %+v, not %+v", two, l)
	}
	finds(t, "again", x, heap+front, l[0])
}

// P6.1: nobody's Tx.
func TestNil(t *testing.T) {
	for _, x := range []*tx.Tx{nil, tx.New(nil), tx.New(seg.New(0)), tx.New(nil).Bare()} {
		torn(t, "nobody", x)
		for off := range uint64(4000) {
			misses(t, "nobody", x, off)
			misses(t, "nobody", x, largest-off)
		}
	}
}

// P6.2, by hand
func TestMergedByHand(t *testing.T) {
	f, u := free(48), used(48, 1, 8)
	everybody := used(48, 0, 0)
	for _, x := range []struct {
		l    []phys.Block
		want bool
	}{
		{nil, true}, {[]phys.Block{}, true},
		{[]phys.Block{f}, true}, {[]phys.Block{u}, true}, {[]phys.Block{everybody}, true}, {[]phys.Block{{}}, true},
		{[]phys.Block{f, f}, false}, {[]phys.Block{{}, {}}, false}, {[]phys.Block{f, free(64)}, false},
		{[]phys.Block{f, u}, true}, {[]phys.Block{u, f}, true}, {[]phys.Block{u, u}, true}, {[]phys.Block{everybody, everybody}, true},
		{[]phys.Block{f, u, f}, true}, {[]phys.Block{f, everybody, f}, true}, {[]phys.Block{u, f, u}, true},
		{[]phys.Block{f, f, u}, false}, {[]phys.Block{u, f, f}, false}, {[]phys.Block{f, f, f}, false},
		{[]phys.Block{f, u, u, f, u, f}, true}, {[]phys.Block{f, u, f, f, u, f}, false}, {[]phys.Block{f, u, u, f, u, f, f}, false},
	} {
		if got := phys.Merged(x.l); got != x.want {
			t.Errorf("Merged(%+v): %v", x.l, got)
		}
		if got := phys.Merged(row(x.l...)); got != x.want {
			t.Errorf("Merged(%+v): %v", row(x.l...), got)
		}
	}
}

// P6.2: of all lists of up to 12 blocks, wherever these stand: just which ones are free is asked, and beside each other is so in l.
func TestMerged(t *testing.T) {
	for n := range 13 {
		for bits := range 1 << n {
			l := make([]phys.Block, n)
			want := true
			for i := range l {
				m := mixed(uint64(bits<<8 + i))
				l[i] = phys.Block{Off: m, Len: m >> 7, Tag: tag.Tag{Size: m >> 9, Used: bits>>i&1 == 1, Owner: int(m % 9)}}
				if i > 0 && bits>>(i-1)&3 == 0 {
					want = false
				}
			}
			was := slices.Clone(l)
			if got := phys.Merged(l); got != want {
				t.Fatalf("Merged(%+v): %v", l, got)
			}
			if !slices.Equal(l, was) {
				t.Fatalf("%+v was %+v", l, was)
			}
		}
	}
}

// behind and ahead ask for a neighbour, alone for none on either side.
func behind(t *testing.T, l []phys.Block, off uint64, want phys.Block, there bool) {
	t.Helper()
	if b, ok := phys.After(l, off); b != want || ok != there {
		t.Errorf("After(%+v, %d): %+v, %v, not %+v, %v", l, off, b, ok, want, there)
	}
}

func ahead(t *testing.T, l []phys.Block, off uint64, want phys.Block, there bool) {
	t.Helper()
	if b, ok := phys.Before(l, off); b != want || ok != there {
		t.Errorf("Before(%+v, %d): %+v, %v, not %+v, %v", l, off, b, ok, want, there)
	}
}

func alone(t *testing.T, l []phys.Block, off uint64) {
	t.Helper()
	ahead(t, l, off, phys.Block{}, false)
	behind(t, l, off, phys.Block{}, false)
}

// P6.2, by hand
func TestNeighboursByHand(t *testing.T) {
	for _, off := range []uint64{0, 1, heap, 4000, largest} {
		alone(t, nil, off)
		alone(t, []phys.Block{}, off)
		alone(t, []phys.Block{{Off: off, Tag: tag.Tag{Size: 48}}}, off)
		alone(t, []phys.Block{{Off: off + 16, Tag: tag.Tag{Size: 48}}}, off)
	}
	l := row(free(64), used(48, 2, 3), free(112))
	ahead(t, l, 3776, phys.Block{}, false)
	behind(t, l, 3776, phys.Block{Off: 3840, Tag: tag.Tag{Size: 48, Used: true, Owner: 2}, Len: 3}, true)
	ahead(t, l, 3840, phys.Block{Off: 3776, Tag: tag.Tag{Size: 64, Used: false, Owner: 0}, Len: 0}, true)
	behind(t, l, 3840, phys.Block{Off: 3888, Tag: tag.Tag{Size: 112, Used: false, Owner: 0}, Len: 0}, true)
	ahead(t, l, 3888, phys.Block{Off: 3840, Tag: tag.Tag{Size: 48, Used: true, Owner: 2}, Len: 3}, true)
	behind(t, l, 3888, phys.Block{}, false)
	for _, off := range []uint64{0, 1, 48, 3760, 3775, 3777, 3784, 3792, 3808, 3839, 3841, 3856, 3872, 3904, 4000, 4016, 1<<32 + 3840, 1<<63 + 3840, largest, largest - 15} {
		alone(t, l, off)
	}
}

// P6.2: the neighbours are what stands beside it in l, not where it begins or ends; of several that begin at one offset it is the first one.
func TestNeighboursOfLikeOffsets(t *testing.T) {
	block := func(off, n uint64) phys.Block {
		return phys.Block{Off: off, Tag: tag.Tag{Size: 64, Used: true, Owner: 1}, Len: n}
	}
	l := []phys.Block{block(9, 1), block(5, 2), block(7, 3), block(5, 4), block(9, 5), block(largest, 6), block(0, 7), block(7, 8)}
	ahead(t, l, 9, phys.Block{}, false) // also if another one has one ahead of it
	behind(t, l, 9, l[1], true)
	ahead(t, l, 5, l[0], true)
	behind(t, l, 5, l[2], true)
	ahead(t, l, 7, l[1], true)
	behind(t, l, 7, l[3], true)
	ahead(t, l, largest, l[4], true)
	behind(t, l, largest, l[6], true)
	ahead(t, l, 0, l[5], true)
	behind(t, l, 0, l[7], true)
	alone(t, l, 1)
	alone(t, l, 8)

	like := []phys.Block{block(5, 1), block(5, 2), block(5, 3)}
	ahead(t, like, 5, phys.Block{}, false)
	behind(t, like, 5, like[1], true)
	last := []phys.Block{block(4, 1), block(5, 2), block(5, 3)}
	ahead(t, last, 5, last[0], true)
	behind(t, last, 5, last[2], true)
	zeros := []phys.Block{{}, {}}
	ahead(t, zeros, 0, phys.Block{}, false)
	behind(t, zeros, 0, phys.Block{}, true)
	ahead(t, append(zeros, block(3, 3)), 3, phys.Block{}, true)
}

// P6.2: of all kinds of lists, at each offset, against what is looked for one by one.
func TestNeighbours(t *testing.T) {
	for n := range uint64(2000) {
		m := mixed(n)
		l := make([]phys.Block, m%12)
		for i := range l {
			k := mixed(n<<8 + uint64(i))
			l[i] = phys.Block{Off: k % 9, Tag: tag.Tag{Size: k >> 8 % 3 * 48, Used: k>>20%2 == 0}, Len: uint64(i)}
		}
		was := slices.Clone(l)
		for off := range uint64(11) {
			var before, after phys.Block
			var has, had bool
			for i := len(l) - 1; i >= 0; i-- { // the first one comes last
				if l[i].Off != off {
					continue
				}
				before, after, had, has = phys.Block{}, phys.Block{}, false, false
				if i > 0 {
					before, had = l[i-1], true
				}
				if i < len(l)-1 {
					after, has = l[i+1], true
				}
			}
			ahead(t, l, off, before, had)
			behind(t, l, off, after, has)
		}
		if !slices.Equal(l, was) {
			t.Errorf("%+v was %+v", l, was)
		}
		if t.Failed() {
			t.FailNow()
		}
	}
}

// P6.2: what stands behind a list, in the same array, isn't its own.
func TestPartOfAList(t *testing.T) {
	l := row(used(48, 1, 1), free(64), free(80), used(96, 2, 2))
	ahead(t, l[1:], l[1].Off, phys.Block{}, false)
	behind(t, l[:2], l[1].Off, phys.Block{}, false)
	alone(t, l[1:2], l[1].Off)
	alone(t, l[:0], l[0].Off)
	alone(t, l[1:3], l[3].Off)
	if !phys.Merged(l[:2]) || !phys.Merged(l[2:]) || phys.Merged(l[1:3]) || phys.Merged(l) {
		t.Error("merged in part")
	}
}

// P6.1, P6.2: Walk's list has its neighbours, the heap's ends none.
func TestWalkedNeighbours(t *testing.T) {
	for n := range uint64(40) {
		want := random(5000+n, 2+n)
		_, x := laid(t, want)
		l, _ := phys.Walk(x)
		merged := true
		for i, b := range want {
			if i == 0 {
				ahead(t, l, b.Off, phys.Block{}, false)
			} else {
				ahead(t, l, b.Off, want[i-1], true)
				merged = merged && (b.Tag.Used || want[i-1].Tag.Used)
			}
			if i == len(want)-1 {
				behind(t, l, b.Off, phys.Block{}, false)
			} else {
				behind(t, l, b.Off, want[i+1], true)
			}
			alone(t, l, b.Off+16)
		}
		alone(t, l, ends(want))
		alone(t, l, 0)
		if phys.Merged(l) != merged {
			t.Errorf("Merged(%+v): %v", l, !merged)
		}
	}
}

// Blocks can be compared: two are equal just if all their fields are.
func TestCompared(t *testing.T) {
	b := phys.Block{Off: 3776, Tag: tag.Tag{Size: 64, Used: true, Owner: 2}, Len: 9}
	if b != (phys.Block{Off: 3776, Tag: tag.Tag{Size: 64, Used: true, Owner: 2}, Len: 9}) {
		t.Error("the same")
	}
	for _, c := range []phys.Block{{Off: 3792, Tag: b.Tag, Len: 9}, {Off: 3776, Tag: b.Tag, Len: 8}, {Off: 3776, Tag: tag.Tag{Size: 80, Used: true, Owner: 2}, Len: 9}, {Off: 3776, Tag: tag.Tag{Size: 64, Used: false, Owner: 2}, Len: 9}, {Off: 3776, Tag: tag.Tag{Size: 64, Used: true, Owner: 3}, Len: 9}} {
		if b == c {
			t.Errorf("%+v is %+v", b, c)
		}
	}
}
