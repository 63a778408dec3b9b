package tag_test

import (
	"slices"
	"testing"

	"carrack/api"
	"carrack/head"
	"carrack/seg"
	"carrack/tag"
	"carrack/tx"
)

const largest = 1<<64 - 1

// What the document says, as numbers: also package api is asked.
const (
	heap   = 3776
	least  = 48
	most   = 1 << 20
	owners = 8

	all = 4800 // bytes of most segments here
	end = 4480 // where their heaps end
)

// mixed is a number that hangs on n alone, with unlike bytes.
func mixed(n uint64) uint64 {
	n = (n + 1) * 0x9E3779B97F4A7C15
	n = (n ^ n>>31) * 0xBF58476D1CE4E5B9
	return n ^ n>>29
}

// formatted is a segment that must be one.
func formatted(t *testing.T, all, size uint64) *seg.Seg {
	t.Helper()
	s := seg.New(all)
	if err := head.Format(s, size); err != api.OK {
		t.Fatalf("Format of %d bytes at %d: %d", all, size, err)
	}
	return s
}

// lay stores a word in the segment itself.
func lay(t *testing.T, s *seg.Seg, off, v uint64) {
	t.Helper()
	if err := s.Store(off, v); err != api.OK {
		t.Fatalf("Store(%d) in a segment of %d bytes: %d", off, s.Size(), err)
	}
}

// word is what a tag's word should be, by sums.
func word(g tag.Tag) uint64 {
	w := g.Size + uint64(g.Owner)*4294967296
	if g.Used {
		w++
	}
	return w
}

// sizes are some that may be, unfit some that may not.
func sizes() []uint64 {
	return []uint64{least, 64, 80, 96, 112, 128, 224, 256, 272, 704, 4096, 4112, 1 << 16, 1<<16 + 16, 1 << 19, most - 32, most - 16, most}
}

func unfit() []uint64 {
	l := []uint64{
		0, 1, 8, 15, 16, 17, 24, 31, 32, 33, 40, 46, 47, // below MinBlock
		most + 1, most + 8, most + 15, most + 16, most + 32, most + least, 2*most - 16, 2 * most, 2*most + least, 1 << 31, 1<<32 - 16, // above MaxSize
		1 << 32, 1<<32 + 16, 1<<32 + least, 1<<32 + 64, 1<<33 + least, 1<<36 + 64, 1 << 63, 1<<63 + least, 1<<63 + most,
		largest - 15, largest - 31, largest - 47, largest - 63, largest - 7, largest - 1, largest,
	}
	for low := uint64(1); low < 16; low++ { // no multiples of 16
		l = append(l, least+low, 64+low, 4096+low, most-16+low, 1<<32+least+low, largest-low)
	}
	return l
}

// foreign are owners that nobody is.
func foreign() []int {
	l := []int{-1, -2, -7, -8, -9, -16, 9, 10, 15, 16, 17, 24, 31, 32, 255, 256, 257, 264, 1 << 16, 1<<16 + 1, 1<<31 - 1, -1 << 31}
	for shift := 32; shift < 63; shift++ { // if an int has so many bits, the low ones look like an owner's
		l = append(l, 1<<shift, 1<<shift+1, 1<<shift+owners, -1<<shift, -1<<shift+1)
	}
	return append(l, 1<<63-1, -1<<63, -1<<63+1)
}

// tags are some that may be, others some that may not.
func tags() []tag.Tag {
	var l []tag.Tag
	for _, size := range sizes() {
		l = append(l, tag.Tag{Size: size})
		for owner := range owners + 1 {
			l = append(l, tag.Tag{Size: size, Used: true, Owner: owner})
		}
	}
	return l
}

func others() []tag.Tag {
	var l []tag.Tag
	for _, size := range unfit() {
		l = append(l, tag.Tag{Size: size})
		for owner := range owners + 1 {
			l = append(l, tag.Tag{Size: size, Used: true, Owner: owner})
		}
	}
	for _, size := range sizes() {
		for owner := 1; owner <= owners; owner++ { // nobody owns what isn't used
			l = append(l, tag.Tag{Size: size, Owner: owner})
		}
		for _, owner := range foreign() {
			l = append(l, tag.Tag{Size: size, Owner: owner}, tag.Tag{Size: size, Used: true, Owner: owner})
		}
	}
	return l
}

// noWords are words of no tag: of sizes and owners that may not be, and with bits that no tag has.
func noWords() []uint64 {
	l := []uint64{1, largest, largest - 1, 1 << 63, 1 << 32, 1<<32 - 1, 1<<32 - 2}
	for _, size := range unfit() {
		if size < 1<<32 && size%2 == 0 { // else it has other bits than a size's
			l = append(l, size, size+1, size+1<<32, size+1+owners<<32)
		}
	}
	for _, size := range []uint64{least, 64, 4096, most} {
		for owner := uint64(1); owner <= owners; owner++ {
			l = append(l, size+owner<<32) // nobody owns what isn't used
		}
		for owner := uint64(owners + 1); owner < 40; owner++ {
			l = append(l, size+owner<<32, size+1+owner<<32)
		}
		for bit := range 64 {
			if noBit(bit) {
				l = append(l, size+1<<bit, size+1+1<<bit, size+1+3<<32+1<<bit, size+1+owners<<32+1<<bit)
			}
		}
	}
	return l
}

// noBit tells of a bit whether no tag's word has it.
func noBit(bit int) bool { return bit >= 1 && bit <= 3 || bit >= 21 && bit <= 31 || bit >= 36 }

func puts(t *testing.T, what string, x *tx.Tx, want ...api.Put) {
	t.Helper()
	if got := x.Puts(); !slices.Equal(got, want) {
		t.Errorf("%s: Puts: %v, not %v", what, got, want)
	}
}

// same asks whether the segment has the words that the other one has.
func same(t *testing.T, what string, s, want *seg.Seg) {
	t.Helper()
	if l := seg.Diff(s, want); len(l) > 0 {
		t.Errorf("%s: other words at %d", what, l)
	}
}

// reads asks for a tag, torn for an error, and nothing else.
func reads(t *testing.T, what string, x *tx.Tx, off uint64, want tag.Tag) {
	t.Helper()
	if g, err := tag.Read(x, off); g != want || err != api.OK {
		t.Errorf("%s: Read(%d): %+v, %d, not %+v", what, off, g, err, want)
	}
}

func torn(t *testing.T, what string, x *tx.Tx, off uint64) {
	t.Helper()
	if g, err := tag.Read(x, off); g != (tag.Tag{}) || err != api.ErrForm {
		t.Errorf("%s: Read(%d): %+v, %d, not ErrForm alone", what, off, g, err)
	}
}

// writes lays a tag that may stand there, refuses one that may not.
func writes(t *testing.T, what string, x *tx.Tx, off uint64, g tag.Tag) {
	t.Helper()
	if err := tag.Write(x, off, g); err != api.OK {
		t.Errorf("%s: Write(%d, %+v): %d", what, off, g, err)
	}
}

func refuses(t *testing.T, what string, x *tx.Tx, off uint64, g tag.Tag) {
	t.Helper()
	was := x.Puts()
	if err := tag.Write(x, off, g); err != api.ErrForm {
		t.Errorf("%s: Write(%d, %+v): %d, not ErrForm", what, off, g, err)
	}
	puts(t, what+", refused", x, was...)
}

// stood is a Tx that thinks of two like words, where a block of so many bytes would have them.
func stood(s *seg.Seg, off, size, w uint64) *tx.Tx {
	x := tx.New(s)
	x.Store(off, w)
	x.Store(off+size-8, w)
	return x
}

// P5.1, by hand
func TestByHand(t *testing.T) {
	for _, x := range []struct {
		g tag.Tag
		w uint64
	}{
		{tag.Tag{Size: 48}, 0x30},
		{tag.Tag{Size: 48, Used: true}, 0x31},
		{tag.Tag{Size: 48, Used: true, Owner: 3}, 0x300000031}, // the client 2
		{tag.Tag{Size: 64, Used: true, Owner: 8}, 0x800000041},
		{tag.Tag{Size: 224}, 0xe0},
		{tag.Tag{Size: 1 << 20}, 0x100000},
		{tag.Tag{Size: 1 << 20, Used: true, Owner: 1}, 0x100100001},
		{tag.Tag{Size: 1<<20 - 16, Used: true, Owner: 8}, 0x8000ffff1},
	} {
		if !tag.May(x.g) {
			t.Errorf("May(%+v) is false", x.g)
		}
		if w := tag.Pack(x.g); w != x.w {
			t.Errorf("Pack(%+v): %#x, not %#x", x.g, w, x.w)
		}
		if g, ok := tag.Unpack(x.w); g != x.g || !ok {
			t.Errorf("Unpack(%#x): %+v, %v, not %+v", x.w, g, ok, x.g)
		}
	}
}

// P5.1
func TestMay(t *testing.T) {
	for _, g := range tags() {
		if !tag.May(g) {
			t.Errorf("May(%+v) is false", g)
		}
	}
	for _, g := range append(others(), tag.Tag{}, tag.Tag{Used: true}, tag.Tag{Used: true, Owner: 1}) {
		if tag.May(g) {
			t.Errorf("May(%+v) is true", g)
		}
	}
}

// P5.1: of all sizes just each sixteenth, from 48 to 2^20.
func TestMayOfEachSize(t *testing.T) {
	for _, g := range []tag.Tag{{}, {Used: true}, {Used: true, Owner: 1}, {Used: true, Owner: 8}} {
		next := uint64(least)
		for size := range uint64(most + 100) {
			g.Size = size
			if tag.May(g) != (size == next) {
				t.Fatalf("May(%+v) is %v", g, tag.May(g))
			}
			if size == next {
				next += 16
			}
			if next > most {
				next = 0
			}
		}
	}
}

// P5.1
func TestPack(t *testing.T) {
	for _, g := range tags() {
		if w := tag.Pack(g); w != word(g) {
			t.Errorf("Pack(%+v): %#x, not %#x", g, w, word(g))
		}
	}
	for _, g := range append(others(), tag.Tag{}, tag.Tag{Used: true}) {
		if w := tag.Pack(g); w != 0 {
			t.Errorf("Pack(%+v): %#x, not 0", g, w)
		}
	}
}

// P5.1
func TestUnpack(t *testing.T) {
	for _, want := range tags() {
		if g, ok := tag.Unpack(word(want)); g != want || !ok {
			t.Errorf("Unpack(%#x): %+v, %v, not %+v", word(want), g, ok, want)
		}
	}
	for _, w := range noWords() {
		if g, ok := tag.Unpack(w); g != (tag.Tag{}) || ok {
			t.Errorf("Unpack(%#x): %+v, %v, not nothing", w, g, ok)
		}
	}
}

// P5.1: of a word all bits are asked: with another one it is another tag's, or none's.
func TestUnpackOfEachBit(t *testing.T) {
	for _, g := range tags() {
		for bit := range 64 {
			w := word(g) ^ 1<<bit
			h, ok := tag.Unpack(w)
			if h == g {
				t.Errorf("%+v is the tag of %#x, and of %#x", g, word(g), w)
			}
			if ok && (word(h) != w || !tag.May(h)) || !ok && h != (tag.Tag{}) {
				t.Errorf("Unpack(%#x): %+v, %v", w, h, ok)
			}
			if noBit(bit) && ok {
				t.Errorf("Unpack(%#x): %+v, though no tag has the bit %d", w, h, bit)
			}
		}
	}
	for n := range uint64(1 << 16) { // words of any kind
		for _, w := range []uint64{n, n << 4, n<<4 | 1, n << 28, n << 48, mixed(n), n<<4 | mixed(n)%16<<32, n<<4 | mixed(n)%16<<32 | 1, mixed(n) & 0xf001fffff} {
			if h, ok := tag.Unpack(w); ok && (word(h) != w || !tag.May(h)) || !ok && h != (tag.Tag{}) {
				t.Errorf("Unpack(%#x): %+v, %v", w, h, ok)
			}
		}
	}
}

// P5.3: all tags that may be are told there and back, and no two have one word.
func TestThereAndBack(t *testing.T) {
	back := func(g tag.Tag) {
		w := tag.Pack(g)
		if w != word(g) {
			t.Fatalf("Pack(%+v): %#x, not %#x", g, w, word(g))
		}
		if h, ok := tag.Unpack(w); h != g || !ok {
			t.Fatalf("there and back, %+v is %+v, %v", g, h, ok)
		}
	}
	for size := uint64(least); size <= most; size += 16 {
		back(tag.Tag{Size: size})
		for owner := range owners + 1 {
			back(tag.Tag{Size: size, Used: true, Owner: owner})
		}
	}
}

// Tags can be compared: two are equal just if all their fields are.
func TestCompared(t *testing.T) {
	seen := map[tag.Tag]int{}
	for i, g := range tags() {
		if n, ok := seen[g]; ok {
			t.Errorf("%+v is the tag %d, and %d", g, n, i)
		}
		seen[g] = i
	}
	g := tag.Tag{Size: 64, Used: true, Owner: 2}
	if g != (tag.Tag{64, true, 2}) || g == (tag.Tag{80, true, 2}) || g == (tag.Tag{64, false, 2}) || g == (tag.Tag{64, true, 3}) {
		t.Error("compared")
	}
}

// P5.2, by hand
func TestReadByHand(t *testing.T) {
	s := formatted(t, 4000, 4000)
	x := tx.New(s)
	reads(t, "formatted", x, 3776, tag.Tag{Size: 224})
	for _, off := range []uint64{3792, 3984} { // no block begins there
		torn(t, "formatted", x, off)
	}
	lay(t, s, 3776, 0x300000031)
	torn(t, "a first word alone", x, 3776)
	lay(t, s, 3816, 0x300000031)
	reads(t, "48 bytes of the client 2", x, 3776, tag.Tag{Size: 48, Used: true, Owner: 3})
	lay(t, s, 3816, 0)
	torn(t, "torn", x, 3776)
}

// P5.2: wherever two like words stand, they are a block just if it begins at a multiple of 16, from Heap on, and ends within the heap.
func TestReadAtEachOffset(t *testing.T) {
	s := formatted(t, all, end)
	lay(t, s, heap, 0)
	lay(t, s, end-8, 0)
	for off := uint64(0); off < all; off += 8 {
		for _, g := range []tag.Tag{{48, false, 0}, {48, true, 8}, {64, true, 0}, {96, false, 0}, {224, true, 1}, {704, false, 0}, {704, true, 3}} {
			x := stood(s, off, g.Size, word(g))
			x.Store(16, end) // also, if one of both words stood there
			if off >= 3776 && (off-3776)%16 == 0 && off+g.Size <= end {
				reads(t, "a block", x, off, g)
			} else {
				torn(t, "no block", x, off)
			}
		}
	}
	for _, off := range noOffsets() {
		torn(t, "no block", tx.New(s), off)
	}
}

// noOffsets are some at which no block stands, whatever its size, if the heap ends at end.
func noOffsets() []uint64 {
	l := []uint64{
		0, 16, 48, 64, 480, 3392, 3728, 3744, 3760, 3768, 3775, // below Heap
		3777, 3780, 3784, 3791, 3800, 4000 + 8, 4432 - 8, 4432 + 8, // no multiples of 16
		end - 32, end - 16, // too few bytes
		end - 8, end, end + 1, end + 8, end + 16, all - 48, all - 16, all, all + 16, 1 << 20, 1<<20 + 16, // from where the heap ends on
		1 << 32, 1<<32 + heap, 1 << 48, 1 << 63, 1<<63 + heap, // as offsets of 32 or 63 bits they would be
	}
	for n := uint64(1); n <= 6; n++ { // the sum of these and a size is above 2^64 - 1, or just below
		l = append(l, -(16 * n), -(16*n + 8), -(16*n - 1))
	}
	for _, n := range []uint64{1, 704, heap, end, most} {
		l = append(l, -n)
	}
	return l
}

// P5.2: each place at which a block of each size that fits may stand, up to where the heap ends.
func TestReadUpToTheEnd(t *testing.T) {
	s := formatted(t, all, end)
	for _, g := range []tag.Tag{{Used: false}, {Used: true}, {Used: true, Owner: 5}} {
		for off := uint64(heap); off+least <= end; off += 16 {
			for size := uint64(least); off+size <= end+48; size += 16 {
				g.Size = size
				x := stood(s, off, size, word(g))
				if off+size <= end {
					reads(t, "a block", x, off, g)
				} else {
					torn(t, "a block that ends too far", x, off)
				}
			}
		}
	}
}

// P5.2: where the heap ends is told by the head's word, as it is thought of, and nothing else of the head is asked.
func TestReadAsksWhereTheHeapEnds(t *testing.T) {
	s := formatted(t, all, end)
	g := tag.Tag{Size: 128, Used: true, Owner: 2}
	for _, off := range []uint64{heap, 4000, 4352, 4368, 4672} {
		for _, x := range []struct {
			ends uint64
			ok   bool
		}{
			{off + 128, true}, {off + 127, false}, {off + 129, true}, {off + 120, false}, {off + 112, false}, {off + 136, true}, {off + 144, true},
			{off, false}, {off - 16, false}, {off + 1, false}, {off + 16, false}, {off + 48, false}, {heap, false}, {0, false}, {1, false},
			{all, true}, {all + 16, true}, {1 << 32, true}, {1 << 63, true}, {largest - 15, true}, {largest, true},
		} {
			asks := func(y *tx.Tx) {
				t.Helper()
				if x.ok {
					reads(t, "it ends within", y, off, g)
				} else {
					torn(t, "it ends too far", y, off)
				}
			}
			y := stood(s, off, 128, word(g))
			y.Store(16, x.ends)
			asks(y)
			y.Store(0, 5)    // Magic
			y.Store(8, 0)    // Version
			y.Store(24, 3)   // Lock
			y.Store(32, off) // Root
			y.Store(40, 0)   // Sum
			asks(y)

			c := s.Copy()
			lay(t, c, 16, x.ends)
			lay(t, c, off, word(g))
			lay(t, c, off+120, word(g))
			asks(tx.New(c))
			if t.Failed() {
				t.Fatalf("at %d, of a heap that ends at %d", off, x.ends)
			}
		}
	}
}

// P5.2: a word that may not be, also if it stands again.
func TestReadOfNoWord(t *testing.T) {
	s := formatted(t, all, all)
	for _, w := range append(noWords(), 0) {
		x := tx.New(s)
		for off := uint64(heap); off < all; off += 8 { // wherever it would end
			x.Store(off, w)
		}
		for _, off := range []uint64{heap, 4000, all - 48} {
			torn(t, "a word that may not be", x, off)
		}
		if t.Failed() {
			t.Fatalf("%#x", w)
		}
	}
}

// P5.2: its word stands not again: another one that may be, or one that may not.
func TestReadTorn(t *testing.T) {
	s := formatted(t, all, end)
	const off, size = 3984, 112
	for _, g := range []tag.Tag{{size, false, 0}, {size, true, 0}, {size, true, 1}, {size, true, 8}} {
		var l []uint64
		for bit := range 64 {
			l = append(l, word(g)^1<<bit)
		}
		for _, h := range tags() {
			l = append(l, word(h))
		}
		l = append(l, word(tag.Tag{size, false, 0}), word(tag.Tag{size, true, 0}), word(tag.Tag{size, true, 7}), 0, 1, largest, size+1<<32, size+9<<32+1)
		for _, w := range l {
			if w == word(g) {
				continue
			}
			x := stood(s, off, size, word(g))
			x.Store(off+size-8, w)
			x.Store(off+size, word(g)) // beside where it should stand
			x.Store(off+size-16, word(g))
			torn(t, "another last word", x, off)
			x.Store(off+size-8, word(g))
			reads(t, "mended", x, off, g)

			x.Store(off, w)
			torn(t, "another first word", x, off)
		}
	}
}

// P5.2: a block's end is where its own size says, whatever stands within it and beside it.
func TestReadIsOfItsOwnWords(t *testing.T) {
	s := formatted(t, all, end)
	for off := uint64(heap); off < all; off += 8 {
		lay(t, s, off, mixed(off))
	}
	for _, g := range []tag.Tag{{48, false, 0}, {64, true, 4}, {320, true, 0}, {384, true, 8}} {
		reads(t, "amid other words", stood(s, 4096, g.Size, word(g)), 4096, g)
	}
}

// P5.2: what is thought of is read; where nothing is, the segment's words are.
func TestReadOfWhatIsThought(t *testing.T) {
	s := formatted(t, 4000, 4000)
	x := tx.New(s)
	g := tag.Tag{Size: 96, Used: true, Owner: 6}
	x.Store(3776, word(g))
	torn(t, "half of it is thought of", x, 3776)
	x.Store(3776+88, word(g))
	reads(t, "thought of", x, 3776, g)
	reads(t, "of another one", tx.New(s), 3776, tag.Tag{Size: 224})
	lay(t, s, 3776, 0)
	lay(t, s, 3776+88, 0)
	reads(t, "still thought of", x, 3776, g)
	torn(t, "stored", tx.New(s), 3776)

	lay(t, s, 3904, word(g)) // one word in the segment, one that is thought of
	x.Store(3992, word(g))
	reads(t, "half of it", x, 3904, g)
	torn(t, "of another one", tx.New(s), 3904)
	x.Store(16, 3984)
	torn(t, "the heap is thought to end within", x, 3904)
	x.Store(16, 4000)
	reads(t, "half of it", x, 3904, g)
	lay(t, s, 16, 0)
	reads(t, "it is thought of still where the heap ends", x, 3904, g)
}

// P5.2: what is read isn't thought of.
func TestReadingChangesNothing(t *testing.T) {
	s := formatted(t, all, end)
	was := s.Copy()
	x := tx.New(s)
	for off := uint64(0); off < all+64; off++ {
		tag.Read(x, off)
	}
	puts(t, "read", x)
	x.Store(3776, 5)
	tag.Read(x, 3776)
	puts(t, "read", x, api.Put{Off: 3776, V: 5})
	same(t, "read", s, was)
}

// P5.2, by hand
func TestWriteByHand(t *testing.T) {
	s := formatted(t, all, end)
	was := s.Copy()
	x := tx.New(s)
	writes(t, "a used one", x, 3792, tag.Tag{Size: 64, Used: true, Owner: 8})
	puts(t, "a used one", x, api.Put{Off: 3792, V: 0x800000041}, api.Put{Off: 3848, V: 0x800000041})
	writes(t, "a free one", x, 4432, tag.Tag{Size: 48})
	puts(t, "both", x, api.Put{Off: 3792, V: 0x800000041}, api.Put{Off: 3848, V: 0x800000041}, api.Put{Off: 4432, V: 48}, api.Put{Off: 4472, V: 48})
	same(t, "written, not applied", s, was)
	x.Apply()
	for _, p := range x.Puts() {
		lay(t, was, p.Off, p.V)
	}
	same(t, "written, applied", s, was)
}

// P5.2: it is written just if it begins at a multiple of 16, from Heap on, and ends within the heap; these two words are stored, in turn, and no other one.
func TestWriteAtEachOffset(t *testing.T) {
	s := formatted(t, all, end)
	was := s.Copy()
	for off := range uint64(all + 64) {
		for _, g := range []tag.Tag{{48, false, 0}, {48, true, 8}, {64, true, 0}, {96, false, 0}, {224, true, 1}, {704, true, 3}} {
			x := tx.New(s)
			if off >= 3776 && (off-3776)%16 == 0 && off+g.Size <= end {
				writes(t, "a block", x, off, g)
				puts(t, "a block", x, api.Put{Off: off, V: word(g)}, api.Put{Off: off + g.Size - 8, V: word(g)})
				reads(t, "a block", x, off, g)
			} else {
				refuses(t, "no block", x, off, g)
			}
		}
	}
	for _, off := range noOffsets() {
		for _, g := range tags() {
			refuses(t, "no block", tx.New(s), off, g)
		}
	}
	same(t, "written, not applied", s, was)
}

// P5.2: a tag that may not be is refused, and nothing is stored, wherever it is.
func TestWriteRefusesTags(t *testing.T) {
	s := formatted(t, 1<<20, 1<<20)
	was := s.Copy()
	x := tx.New(s)
	x.Store(4096, 7)
	x.Store(heap, 9)
	for _, g := range append(others(), tag.Tag{}, tag.Tag{Used: true}) {
		for _, off := range []uint64{heap, heap + 16, 4096, 1<<20 - 48} {
			refuses(t, "a tag that may not be", x, off, g)
		}
	}
	puts(t, "refused", x, api.Put{Off: 4096, V: 7}, api.Put{Off: heap, V: 9})
	x.Store(16, largest) // also, if the heap ends nowhere
	for _, g := range others() {
		refuses(t, "a tag that may not be", x, heap, g)
		refuses(t, "a tag that may not be", x, 1<<40, g)
	}
	same(t, "refused", s, was)
}

// P5.2: where the heap ends is told by the head's word, as it is thought of, and nothing else of the head is asked.
func TestWriteAsksWhereTheHeapEnds(t *testing.T) {
	s := formatted(t, all, end)
	g := tag.Tag{Size: 128, Used: true, Owner: 2}
	for _, off := range []uint64{heap, 4000, 4352, 4368, 4672} {
		for _, ends := range []uint64{off + 128, off + 129, off + 136, off + 144, all, all + 16, 1 << 32, 1 << 63, largest - 15, largest} {
			x := tx.New(s)
			x.Store(16, ends)
			x.Store(0, 5)  // Magic
			x.Store(40, 0) // Sum
			writes(t, "it ends within", x, off, g)
			reads(t, "it ends within", x, off, g)
		}
		for _, ends := range []uint64{off + 127, off + 120, off + 112, off + 48, off + 16, off + 1, off, off - 1, off - 16, heap, 16, 1, 0} {
			x := tx.New(s)
			x.Store(16, ends)
			refuses(t, "it ends too far", x, off, g)
			c := s.Copy()
			lay(t, c, 16, ends)
			refuses(t, "it ends too far in the segment", tx.New(c), off, g)
		}
	}
}

// P5.2, R7: a block's end is told of the whole sum; where the segment has no word, none is stored (chapter 3).
func TestWholeSums(t *testing.T) {
	s := formatted(t, all, end)
	for _, x := range []struct {
		off, size, ends uint64
		ok              bool
	}{
		{largest - 15, 48, largest, false}, {largest - 31, 48, largest, false}, // the sum is above 2^64 - 1, and is 32, or 16, modulo that
		{largest - 47, 48, largest, false}, // it is 2^64
		{largest - 63, 48, largest, true}, {largest - 63, 48, largest - 15, true}, {largest - 63, 48, largest - 16, false},
		{largest - 63, 64, largest, false}, {largest - 63, 64, largest - 15, false}, {largest - 63, 80, largest, false},
		{largest - 15, most, largest, false}, {largest - most - 15, most, largest, true}, {largest - most - 15, most, largest - 16, false}, {largest - most + 1, most, largest, false},
		{largest - 15, 3840 + 16, 3840, false}, {largest - 15, 4480 + 16, 4480, false}, // as it were where the heap ends
		{1 << 63, most, 1<<63 + most, true}, {1 << 63, most, 1<<63 + most - 1, false}, {1<<63 - 48, 48, 1 << 63, true}, {1<<63 - 48, 64, 1 << 63, false},
	} {
		y := tx.New(s)
		y.Store(16, x.ends)
		g := tag.Tag{Size: x.size, Used: true, Owner: 1}
		if x.ok {
			writes(t, "it ends within", y, x.off, g)
		} else {
			refuses(t, "it ends too far", y, x.off, g)
		}
		torn(t, "the segment has none of it", y, x.off)
		puts(t, "the segment has none of it", y, api.Put{Off: 16, V: x.ends})
	}
	y := tx.New(s) // a heap that ends behind the segment: its words may be in it in part
	y.Store(16, all+64)
	g := tag.Tag{Size: 96}
	writes(t, "in part", y, all-32, g)
	puts(t, "in part", y, api.Put{Off: 16, V: all + 64}, api.Put{Off: all - 32, V: 96})
	torn(t, "in part", y, all-32)
	writes(t, "to the segment's end", y, all-96, g)
	reads(t, "to the segment's end", y, all-96, g)
	y.Store(16, heap+most)
	writes(t, "as large as can be", y, heap, tag.Tag{Size: most})
	torn(t, "as large as can be", y, heap)
	refuses(t, "and farther", y, heap+16, tag.Tag{Size: most})
}

// P5.2: again: what was written last, in the turn of what was stored first, also where it is so already.
func TestWriteAgain(t *testing.T) {
	s := formatted(t, 4000, 4000)
	x := tx.New(s)
	writes(t, "as it is", x, 3776, tag.Tag{Size: 224})
	puts(t, "as it is", x, api.Put{Off: 3776, V: 224}, api.Put{Off: 3992, V: 224})
	writes(t, "a used one", x, 3776, tag.Tag{Size: 224, Used: true, Owner: 4})
	puts(t, "a used one", x, api.Put{Off: 3776, V: 0x4000000e1}, api.Put{Off: 3992, V: 0x4000000e1})
	writes(t, "a smaller one", x, 3776, tag.Tag{Size: 48, Used: true})
	reads(t, "a smaller one", x, 3776, tag.Tag{Size: 48, Used: true})
	writes(t, "what is left", x, 3824, tag.Tag{Size: 176})
	puts(t, "cut", x, api.Put{Off: 3776, V: 49}, api.Put{Off: 3992, V: 176}, api.Put{Off: 3816, V: 49}, api.Put{Off: 3824, V: 176})
	reads(t, "what is left", x, 3824, tag.Tag{Size: 176})
	refuses(t, "a larger one", x, 3824, tag.Tag{Size: 192})
	reads(t, "what is left", x, 3824, tag.Tag{Size: 176})
}

// P5.3: what is written is read, at once, and applied.
func TestWrittenIsRead(t *testing.T) {
	for _, ends := range []uint64{3824, 4000, end, 1 << 16, 1 << 20} {
		s := formatted(t, ends, ends)
		for _, g := range tags() {
			for _, off := range []uint64{heap, heap + 16, heap + 48, (heap+ends)/32*16 - 16, ends - g.Size} {
				if off < heap || off > ends || g.Size > ends-off {
					continue
				}
				x := tx.New(s)
				writes(t, "written", x, off, g)
				reads(t, "written", x, off, g)
				x.Apply()
				reads(t, "applied", x.Bare(), off, g)
			}
		}
	}
}

// P5.3: blocks that stand side by side don't touch each other.
func TestSideBySide(t *testing.T) {
	s := formatted(t, 1<<20, 1<<20)
	x := tx.New(s)
	type block struct {
		off uint64
		g   tag.Tag
	}
	var l []block
	for off := uint64(heap); off+least <= 1<<20 && len(l) < 3000; {
		m := mixed(off)
		g := tag.Tag{Size: min(least+m%40*16, 1<<20-off)}
		if m>>32%3 > 0 {
			g.Used, g.Owner = true, int(m>>40%9)
		}
		writes(t, "written", x, off, g)
		l = append(l, block{off, g})
		off += g.Size
	}
	for _, b := range l {
		reads(t, "written", x, b.off, b.g)
	}
	if n := len(x.Puts()); n != 2*len(l) {
		t.Errorf("%d words of %d blocks", n, len(l))
	}
	x.Apply()
	for _, b := range l {
		reads(t, "applied", tx.New(s), b.off, b.g)
	}
}

// P5.2: two over one segment don't know of each other.
func TestTwo(t *testing.T) {
	s := formatted(t, 4000, 4000)
	a, b := tx.New(s), tx.New(s)
	writes(t, "the one", a, 3776, tag.Tag{Size: 112})
	b.Store(16, 3984)
	reads(t, "the one", a, 3776, tag.Tag{Size: 112})
	torn(t, "the other", b, 3776)
	refuses(t, "the other", b, 3776, tag.Tag{Size: 224})
	writes(t, "the one", a, 3776, tag.Tag{Size: 224, Used: true})
}

// P5.2: nobody's Tx, whatever else is handed in.
func TestNil(t *testing.T) {
	for _, x := range []*tx.Tx{nil, tx.New(nil), tx.New(seg.New(0)), tx.New(nil).Bare()} {
		for _, off := range append(noOffsets(), heap, heap+16, 4000, end-48) {
			torn(t, "nobody", x, off)
			for _, g := range append(tags(), tag.Tag{}, tag.Tag{Size: 50}, tag.Tag{Size: 48, Owner: 9}) {
				refuses(t, "nobody", x, off, g)
			}
		}
		puts(t, "nobody", x)
	}
}

// P5.2: a segment that ends amid the head, or ahead of the heap, has no block.
func TestSmall(t *testing.T) {
	for _, all := range []uint64{8, 16, 24, 64, 480, 3768, 3776, 3784, 3808, 3816} {
		s := seg.New(all)
		for off := uint64(0); off < all; off += 8 {
			lay(t, s, off, 0x300000031)
		}
		for _, ends := range []uint64{0, 48, 3776, all} {
			x := tx.New(s)
			x.Store(16, ends)
			for off := uint64(0); off < 3872; off++ {
				torn(t, "small", x, off)
				refuses(t, "small", x, off, tag.Tag{Size: 48, Used: true, Owner: 3})
			}
		}
	}
}
