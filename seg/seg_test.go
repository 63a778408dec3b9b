package seg_test

import (
	"bytes"
	"slices"
	"testing"

	"carrack/api"
	"carrack/seg"
)

const largest = 1<<64 - 1

// mixed is a number that hangs on n alone, with unlike bytes.
func mixed(n uint64) uint64 {
	n = (n + 1) * 0x9E3779B97F4A7C15
	n = (n ^ n>>31) * 0xBF58476D1CE4E5B9
	return n ^ n>>29
}

// made is a segment that must be one.
func made(t *testing.T, size uint64) *seg.Seg {
	t.Helper()
	s := seg.New(size)
	if s == nil {
		t.Fatalf("New(%d) is nil", size)
	}
	return s
}

// filled is a segment of unlike bytes, and these bytes.
func filled(t *testing.T, size uint64) (*seg.Seg, []byte) {
	t.Helper()
	s := made(t, size)
	all := make([]byte, size)
	for off := uint64(0); off < size; off += 8 {
		v := mixed(off)
		stored(t, s, off, v)
		for i := range uint64(8) {
			all[off+i] = byte(v >> (8 * i))
		}
	}
	return s, all
}

func stored(t *testing.T, s *seg.Seg, off, v uint64) {
	t.Helper()
	if err := s.Store(off, v); err != api.OK {
		t.Fatalf("Store(%d, %#x) of %d bytes: %d", off, v, s.Size(), err)
	}
}

func loads(t *testing.T, s *seg.Seg, off, want uint64, fails api.Errno) {
	t.Helper()
	if got, err := s.Load(off); got != want || err != fails {
		t.Errorf("Load(%d) of %d bytes: %#x, %d; not %#x, %d", off, s.Size(), got, err, want, fails)
	}
}

func tells(t *testing.T, s *seg.Seg, off, n uint64, want []byte, fails api.Errno) {
	t.Helper()
	if got, err := s.Bytes(off, n); !bytes.Equal(got, want) || err != fails {
		t.Errorf("Bytes(%d, %d) of %d bytes: %d, %d; not %d, %d", off, n, s.Size(), got, err, want, fails)
	}
}

// holds asks whether these bytes are all that the segment has.
func holds(t *testing.T, what string, s *seg.Seg, want []byte) {
	t.Helper()
	if s.Size() != uint64(len(want)) {
		t.Errorf("%s: %d bytes, not %d", what, s.Size(), len(want))
	}
	if got, err := s.Bytes(0, s.Size()); err != api.OK || !bytes.Equal(got, want) {
		t.Errorf("%s: other bytes, %d", what, err)
	}
}

// unlikes asks for the same of both turns.
func unlikes(t *testing.T, what string, a, b *seg.Seg, want ...uint64) {
	t.Helper()
	if got := seg.Diff(a, b); !slices.Equal(got, want) {
		t.Errorf("Diff, %s: %d, not %d", what, got, want)
	}
	if got := seg.Diff(b, a); !slices.Equal(got, want) {
		t.Errorf("Diff, %s, the other way: %d, not %d", what, got, want)
	}
}

// P2.1
func TestNew(t *testing.T) {
	for _, size := range []uint64{8, 16, 24, 40, 3816, 3824, 4000, 1<<16 + 8, 1<<20 - 8, 1 << 20} {
		s := made(t, size)
		if s.Size() != size {
			t.Errorf("Size of New(%d): %d", size, s.Size())
		}
		holds(t, "new", s, make([]byte, size))
		for off := uint64(0); off < size; off += 8 {
			loads(t, s, off, 0, api.OK)
		}
	}
}

// P2.1: sizes that aren't.
func TestNewOfOthers(t *testing.T) {
	sizes := []uint64{
		0, 1, 4, 7, 9, 12, 15, 3820, 1<<20 - 1, 1<<20 - 4, // no multiples
		1<<20 + 1, 1<<20 + 8, 1<<20 + 16, 1 << 21, 1 << 31, 1 << 32, 1<<32 + 8, 1 << 40, // too large
		1 << 63, 1<<63 + 8, largest - 7, largest - 15, largest,
	}
	for low := range uint64(8) {
		if low != 0 {
			sizes = append(sizes, 4000+low)
		}
	}
	for _, size := range sizes {
		if s := seg.New(size); s != nil {
			t.Errorf("New(%d): one of %d bytes", size, s.Size())
		}
	}
}

// P2.1: the lowest byte stands first.
func TestLowestByteFirst(t *testing.T) {
	s := made(t, 24)
	stored(t, s, 0, 258)
	stored(t, s, 8, 0x0102030405060708)
	stored(t, s, 16, 0xf1e2d3c4b5a69788)
	holds(t, "three words", s, []byte{
		2, 1, 0, 0, 0, 0, 0, 0,
		8, 7, 6, 5, 4, 3, 2, 1,
		0x88, 0x97, 0xa6, 0xb5, 0xc4, 0xd3, 0xe2, 0xf1,
	})
	loads(t, s, 0, 258, api.OK)
	loads(t, s, 8, 0x0102030405060708, api.OK)
	loads(t, s, 16, 0xf1e2d3c4b5a69788, api.OK)
}

// P2.1: each bit of a word is one of its own; the word is v then, whatever it was.
func TestEachBit(t *testing.T) {
	s := made(t, 8)
	for _, under := range []uint64{0, largest} {
		for i := range 64 {
			v := uint64(1) << i
			stored(t, s, 0, under)
			stored(t, s, 0, v)
			loads(t, s, 0, v, api.OK)
			want := make([]byte, 8)
			want[i/8] = 1 << (i % 8)
			holds(t, "one bit", s, want)
		}
	}
}

// P2.1: the first and the last word.
func TestEnds(t *testing.T) {
	for _, size := range []uint64{8, 16, 4000, 1 << 20} {
		s := made(t, size)
		want := make([]byte, size)
		stored(t, s, 0, largest)
		copy(want, bytes.Repeat([]byte{255}, 8))
		holds(t, "the first word", s, want)
		loads(t, s, 0, largest, api.OK)

		stored(t, s, size-8, 0x1122334455667788)
		copy(want[size-8:], []byte{0x88, 0x77, 0x66, 0x55, 0x44, 0x33, 0x22, 0x11})
		holds(t, "the last word", s, want)
		loads(t, s, size-8, 0x1122334455667788, api.OK)
	}
}

// noWords are offsets at which a segment of that size has no word.
func noWords(size uint64) []uint64 {
	l := []uint64{
		size, size + 8, size + 16, 2 * size, 1<<20 + size, 1<<20 + 8, 1 << 21,
		1 << 32, 1<<32 + 8, 1 << 61, 1<<61 + 8, 1 << 63, 1<<63 + 8, -size,
		largest - 7, largest - 15, largest - 23, largest, largest - 1, largest - 6, largest - 8,
	}
	for low := uint64(1); low < 8; low++ {
		l = append(l, low, size-8+low, size+low, size-low, largest-low, 1<<32+low)
	}
	return slices.DeleteFunc(l, func(off uint64) bool { return off%8 == 0 && off < size })
}

// P2.1: a word that doesn't begin at a multiple of 8, or doesn't end within the segment.
func TestNoWord(t *testing.T) {
	for _, size := range []uint64{8, 16, 3824, 1 << 20} {
		s, all := filled(t, size)
		for _, off := range noWords(size) {
			loads(t, s, off, 0, api.ErrArg)
			if err := s.Store(off, largest); err != api.ErrArg {
				t.Errorf("Store(%d) of %d bytes: %d", off, size, err)
			}
		}
		holds(t, "after stores of no words", s, all)
	}
}

// P2.1, P2.2: a nil one, whatever else is handed in.
func TestNil(t *testing.T) {
	var none *seg.Seg
	if none.Size() != 0 {
		t.Errorf("Size: %d", none.Size())
	}
	for _, off := range []uint64{0, 1, 7, 8, 64, 1 << 20, 1 << 63, largest - 7, largest} {
		loads(t, none, off, 0, api.ErrArg)
		for _, v := range []uint64{0, 1, 8, largest} {
			if err := none.Store(off, v); err != api.ErrArg {
				t.Errorf("Store(%d, %d): %d", off, v, err)
			}
			if got, err := none.Bytes(off, v); got != nil || err != api.ErrArg {
				t.Errorf("Bytes(%d, %d): %d, %d", off, v, got, err)
			}
		}
	}
	if none.Copy() != nil {
		t.Error("Copy is one")
	}
	unlikes(t, "nil and nil", nil, nil)
	unlikes(t, "8 bytes and nil", made(t, 8), nil, 0)
	unlikes(t, "24 bytes and nil", made(t, 24), nil, 0, 8, 16)
}

// P2.2: all places and numbers.
func TestBytes(t *testing.T) {
	for _, size := range []uint64{8, 32} {
		s, all := filled(t, size)
		for off := range size + 10 {
			for n := range size + 10 {
				if off+n <= size {
					tells(t, s, off, n, all[off:off+n], api.OK)
				} else {
					tells(t, s, off, n, nil, api.ErrArg)
				}
			}
		}
		holds(t, "after being told", s, all)
	}
}

// P2.2, by hand, and at numbers whose sum is above 2^64 - 1.
func TestBytesOfEdges(t *testing.T) {
	s := made(t, 24)
	stored(t, s, 8, 0x0807060504030201)
	tells(t, s, 8, 8, []byte{1, 2, 3, 4, 5, 6, 7, 8}, api.OK)
	tells(t, s, 7, 3, []byte{0, 1, 2}, api.OK)
	tells(t, s, 15, 2, []byte{8, 0}, api.OK)
	tells(t, s, 11, 1, []byte{4}, api.OK)
	all := []byte{0, 0, 0, 0, 0, 0, 0, 0, 1, 2, 3, 4, 5, 6, 7, 8, 0, 0, 0, 0, 0, 0, 0, 0}
	for _, off := range []uint64{0, 1, 8, 23, 24} {
		tells(t, s, off, 0, nil, api.OK)
		tells(t, s, off, 24-off, all[off:], api.OK)
		tells(t, s, off, 24-off+1, nil, api.ErrArg)
	}
	for _, x := range [][2]uint64{
		{0, 25}, {1, 24}, {23, 2}, {24, 1}, {25, 0}, {32, 0}, {25, largest}, {24, largest}, {24, largest - 23},
		{0, largest}, {0, 1 << 63}, {8, largest - 7}, {8, largest - 6}, {1, largest}, {16, 1<<32 + 8}, {8, 1 << 32},
		{largest, 0}, {largest, 1}, {largest, 2}, {largest, largest}, {largest - 7, 8}, {largest - 7, 9}, {largest - 7, 0},
		{1 << 63, 1 << 63}, {1 << 63, 0}, {1 << 32, 0}, {1 << 32, 8},
	} {
		tells(t, s, x[0], x[1], nil, api.ErrArg)
	}
}

// P2.2: up to the end of the largest one.
func TestBytesOfLargest(t *testing.T) {
	s, all := filled(t, api.MaxSize)
	tells(t, s, 0, api.MaxSize, all, api.OK)
	tells(t, s, api.MaxSize-3, 3, all[api.MaxSize-3:], api.OK)
	tells(t, s, api.MaxSize, 0, nil, api.OK)
	tells(t, s, api.MaxSize-3, 4, nil, api.ErrArg)
	tells(t, s, api.MaxSize+1, 0, nil, api.ErrArg)
}

// P2.2: what is told is the caller's own.
func TestBytesAreTheCallers(t *testing.T) {
	s, all := filled(t, 32)
	for _, off := range []uint64{0, 8, 11} {
		told, _ := s.Bytes(off, 8)
		want := bytes.Clone(told)
		other, _ := s.Bytes(off, 8)
		for i := range told {
			told[i] ^= 255
		}
		_ = append(told, 1, 2, 3)
		holds(t, "after writes to what was told", s, all)
		if !bytes.Equal(other, want) {
			t.Error("what was told twice is shared")
		}
		stored(t, s, 8, ^mixed(8))
		if !bytes.Equal(other, want) {
			t.Error("what was told changes with the segment")
		}
		stored(t, s, 8, mixed(8))
	}
	none, _ := s.Bytes(8, 0)
	_ = append(none, 1, 2, 3)
	holds(t, "after an append to nothing", s, all)
}

// P2.2: a copy is the same, and another one.
func TestCopy(t *testing.T) {
	for _, size := range []uint64{8, 4000, 1 << 20} {
		s, all := filled(t, size)
		c := s.Copy()
		if c == nil || c == s {
			t.Fatal("Copy is no other one")
		}
		holds(t, "a copy", c, all)
		holds(t, "a copy's copy", c.Copy(), all)
		unlikes(t, "a copy", s, c)

		stored(t, c, size-8, 1)
		holds(t, "after a store in its copy", s, all)
		loads(t, c, size-8, 1, api.OK)
		stored(t, s, 0, 2)
		stored(t, s, size-8, 3)
		loads(t, c, size-8, 1, api.OK)
		if size > 8 {
			loads(t, c, 0, mixed(0), api.OK)
		}
	}
}

// P2.2: each byte of each word counts.
func TestDiffOfOneByte(t *testing.T) {
	a, _ := filled(t, 40)
	for off := uint64(0); off < 40; off += 8 {
		for i := range 64 {
			b := a.Copy()
			stored(t, b, off, mixed(off)^1<<i)
			unlikes(t, "one bit", a, b, off)
		}
	}
}

// P2.2: all sets of words that are unlike, rising, at all pairs of sizes.
func TestDiff(t *testing.T) {
	const words = 5
	for few := 1; few <= words; few++ {
		for many := few; many <= words; many++ {
			for set := range 1 << few {
				a, all := filled(t, 8*uint64(few))
				b := made(t, 8*uint64(many)) // a word that is 0 isn't one that is none
				var want []uint64
				for i := range many {
					off := 8 * uint64(i)
					if i < few && set>>i&1 == 0 {
						stored(t, b, off, mixed(off))
					} else {
						want = append(want, off)
					}
				}
				others, _ := b.Bytes(0, b.Size())
				unlikes(t, "a set", a, b, want...)
				holds(t, "the one, after Diff", a, all)
				holds(t, "the other, after Diff", b, others)
			}
		}
	}
}

// P2.2: of the largest one, and of one with itself; what is told is the caller's own.
func TestDiffOfEnds(t *testing.T) {
	a, _ := filled(t, api.MaxSize)
	b := a.Copy()
	unlikes(t, "itself", a, a)
	stored(t, b, api.MaxSize-8, 0)
	stored(t, b, 0, 0)
	unlikes(t, "both ends", a, b, 0, api.MaxSize-8)
	told := seg.Diff(a, b)
	told[0], told[1] = 7, 7
	unlikes(t, "both ends, again", a, b, 0, api.MaxSize-8)

	small := made(t, 8)
	var want []uint64
	for off := uint64(8); off < api.MaxSize; off += 8 {
		want = append(want, off)
	}
	stored(t, small, 0, mixed(0))
	unlikes(t, "the least and the largest", small, a, want...)
}

// P2.3: whatever is stored, wherever, in two segments in turn: what was stored last is loaded, and all other words stay.
func TestStoredIsLoaded(t *testing.T) {
	for _, size := range []uint64{8, 24, 256} {
		a, b := made(t, size), made(t, size)
		words := map[*seg.Seg]map[uint64]uint64{a: {}, b: {}}
		for n := range uint64(2000) {
			s := a
			if mixed(n)>>40&1 == 1 {
				s = b
			}
			off, v := mixed(n)%(size+32), mixed(^n)
			switch n % 10 {
			case 8:
				off = -off // also those that wrap round to the begin
			case 9:
				off += 1 << (32 + n%32)
			}
			err := s.Store(off, v)
			if is := off%8 == 0 && off < size; is != (err == api.OK) || !is && err != api.ErrArg {
				t.Fatalf("Store(%d) of %d bytes: %d", off, size, err)
			}
			if err == api.OK {
				words[s][off] = v
			}
			for _, x := range []*seg.Seg{a, b} {
				for off := uint64(0); off < size; off += 8 {
					loads(t, x, off, words[x][off], api.OK)
				}
			}
		}
	}
}

// P2.3: what is loaded and told stays, too.
func TestReadingChangesNothing(t *testing.T) {
	s, all := filled(t, 64)
	before := s.Copy()
	for off := range uint64(80) {
		s.Load(off)
		s.Load(-off)
		for n := range uint64(80) {
			s.Bytes(off, n)
		}
	}
	s.Copy()
	seg.Diff(s, before)
	seg.Diff(s, nil)
	holds(t, "after being read", s, all)
	unlikes(t, "after being read", s, before)
}
