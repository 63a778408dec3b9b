package head_test

import (
	"math/big"
	"slices"
	"testing"

	"carrack/api"
	"carrack/head"
	"carrack/seg"
	"carrack/tx"
)

const largest = 1<<64 - 1

// Where the head's words stand, and the heap, as numbers: also package api is asked.
const (
	magicAt   = 0
	versionAt = 8
	sizeAt    = 16
	lockAt    = 24
	rootAt    = 32
	sumAt     = 40
	heap      = 3776
	least     = 3824
)

// mixed is a number that hangs on n alone, with unlike bytes.
func mixed(n uint64) uint64 {
	n = (n + 1) * 0x9E3779B97F4A7C15
	n = (n ^ n>>31) * 0xBF58476D1CE4E5B9
	return n ^ n>>29
}

// made is a segment that must be one.
func made(t *testing.T, all uint64) *seg.Seg {
	t.Helper()
	s := seg.New(all)
	if s == nil {
		t.Fatalf("no segment of %d bytes", all)
	}
	return s
}

// filled is a segment of unlike words, none of which is 0.
func filled(t *testing.T, all uint64) *seg.Seg {
	t.Helper()
	s := made(t, all)
	for off := uint64(0); off < all; off += 8 {
		lay(t, s, off, mixed(off)|1)
	}
	return s
}

// formatted is a segment that must be one then.
func formatted(t *testing.T, all, size uint64) *seg.Seg {
	t.Helper()
	s := filled(t, all)
	if err := head.Format(s, size); err != api.OK {
		t.Fatalf("Format of %d bytes at %d: %d", all, size, err)
	}
	return s
}

// lay stores a word in the segment itself.
func lay(t *testing.T, s *seg.Seg, off, v uint64) {
	t.Helper()
	if err := s.Store(off, v); err != api.OK {
		t.Fatalf("Store(%d) in a segment of %d bytes: %d", off, s.Size(), err)
	}
}

func word(t *testing.T, s *seg.Seg, off uint64) uint64 {
	t.Helper()
	v, err := s.Load(off)
	if err != api.OK {
		t.Fatalf("Load(%d) of a segment of %d bytes: %d", off, s.Size(), err)
	}
	return v
}

// sum is what a size's checksum should be, by whole numbers.
func sum(size uint64) uint64 {
	n := new(big.Int).SetUint64(0x6361727261636b31)
	n.Xor(n, new(big.Int).SetUint64(size))
	n.Mul(n, new(big.Int).SetUint64(0x9E3779B97F4A7C15))
	return n.And(n, new(big.Int).SetUint64(largest)).Uint64()
}

// want is a formatted segment, word by word.
func want(t *testing.T, all, size uint64) *seg.Seg {
	t.Helper()
	s := made(t, all)
	lay(t, s, magicAt, 0x6361727261636b31)
	lay(t, s, versionAt, 1)
	lay(t, s, sizeAt, size)
	lay(t, s, rootAt, heap)
	lay(t, s, sumAt, sum(size))
	lay(t, s, heap, size-heap)
	lay(t, s, size-8, size-heap)
	return s
}

// same asks whether the segment has the words that the other one has.
func same(t *testing.T, what string, s, want *seg.Seg) {
	t.Helper()
	if l := seg.Diff(s, want); len(l) > 0 {
		t.Errorf("%s: other words at %d", what, l)
	}
}

func checks(t *testing.T, what string, x *tx.Tx, want api.Errno) {
	t.Helper()
	if got := head.Check(x); got != want {
		t.Errorf("%s: Check: %d, not %d", what, got, want)
	}
}

func tells(t *testing.T, what string, x *tx.Tx, size, root uint64) {
	t.Helper()
	if got := head.Size(x); got != size {
		t.Errorf("%s: Size: %d, not %d", what, got, size)
	}
	if got := head.Root(x); got != root {
		t.Errorf("%s: Root: %d, not %d", what, got, root)
	}
}

func puts(t *testing.T, what string, x *tx.Tx, want ...api.Put) {
	t.Helper()
	if got := x.Puts(); !slices.Equal(got, want) {
		t.Errorf("%s: Puts: %v, not %v", what, got, want)
	}
}

// fitting are segments, and sizes that fit them.
func fitting() [][2]uint64 {
	return [][2]uint64{
		{least, least}, {least + 8, least}, {least + 16, least}, {least + 16, least + 16},
		{4000, 4000}, {4000, 3984}, {4096, least}, {4096, 3840}, {4096, 4080}, {4096, 4096}, {4104, 4096},
		{4800, 4480}, {1 << 16, 1 << 15}, {1<<20 - 8, 1<<20 - 16}, {1 << 20, least}, {1 << 20, 1<<20 - 16}, {1 << 20, 1 << 20},
	}
}

// unfit are sizes that don't fit a segment of so many bytes.
func unfit(all uint64) []uint64 {
	l := []uint64{
		0, 1, 8, 16, 48, 64, 2048, 3776, 3792, 3807, 3808, 3809, 3816, 3820, 3823, // below MinSize
		3825, 3828, 3832, 3839, 3841, 3848, 1<<20 - 8, 1<<20 - 1, // no multiples of 16
		all + 1, all + 8, all + 16, all/16*16 + 16, all/16*16 + 32, 2*all/16*16 + 16, // larger than the segment
		1<<20 + 16, 1 << 21, 1 << 31, 1 << 32, 1<<32 + 3840, 1 << 40, 1 << 63, 1<<63 + 3840, -all / 16 * 16,
		largest - 15, largest - 31, largest - 7, largest - 1, largest,
	}
	for low := uint64(1); low < 16; low++ {
		l = append(l, least+low, least+16+low, largest-15+low)
		if all >= 4096 {
			l = append(l, 4080+low)
		}
	}
	if all%16 != 0 {
		l = append(l, all)
	}
	return l
}

// P4.1
func TestNumbers(t *testing.T) {
	if head.Magic != 0x6361727261636b31 || head.Version != 1 {
		t.Errorf("Magic %#x, Version %d", uint64(head.Magic), head.Version)
	}
}

// P4.1
func TestSum(t *testing.T) {
	for _, x := range [][2]uint64{
		{0, 0xd1d7e2e1703d8705}, {1, 0x33a06927f0f30af0},
		{3824, 0x8432023d4b3ad4d5}, {3840, 0x4d83d06666d8f405},
		{4000, 0xa25175f622c77be5}, {4096, 0x49737ad617fed705}, {1 << 20, 0x6d6fd789318d8705},
		{0x6361727261636b31, 0}, {1 << 63, 0x51d7e2e1703d8705}, {largest, 0x8ff0a3651077fce6},
	} {
		if got := head.Sum(x[0]); got != x[1] {
			t.Errorf("Sum(%d): %#x, not %#x", x[0], got, x[1])
		}
	}
	seen := map[uint64]uint64{}
	try := func(n uint64) {
		got := head.Sum(n)
		if got != sum(n) {
			t.Errorf("Sum(%d): %#x, not %#x", n, got, sum(n))
		}
		if other, ok := seen[got]; ok && other != n {
			t.Errorf("Sum of %d, and of %d: %#x", n, other, got)
		}
		seen[got] = n
	}
	for i := range 64 {
		p := uint64(1) << i
		try(p)
		try(p - 1)
		try(-p)
	}
	for n := range uint64(3000) {
		try(16 * n)
		try(mixed(n))
	}
}

// P4.1: of a segment in which words stood before, all words are told.
func TestFormat(t *testing.T) {
	for _, x := range fitting() {
		s := filled(t, x[0])
		if err := head.Format(s, x[1]); err != api.OK {
			t.Errorf("Format of %d bytes at %d: %d", x[0], x[1], err)
		}
		same(t, "formatted", s, want(t, x[0], x[1]))
		if s.Size() != x[0] {
			t.Errorf("the segment has %d bytes then, not %d", s.Size(), x[0])
		}

		s = made(t, x[0])
		if err := head.Format(s, x[1]); err != api.OK {
			t.Errorf("Format of %d bytes, all 0, at %d: %d", x[0], x[1], err)
		}
		same(t, "formatted, of zeros", s, want(t, x[0], x[1]))
	}
}

// P4.1, by hand
func TestFormatByHand(t *testing.T) {
	s := formatted(t, 4000, 4000)
	has := map[uint64]uint64{0: 0x6361727261636b31, 8: 1, 16: 4000, 32: 3776, 40: 0xa25175f622c77be5, 3776: 224, 3992: 224}
	for off := uint64(0); off < 4000; off += 8 {
		if v := word(t, s, off); v != has[off] {
			t.Errorf("at %d: %#x, not %#x", off, v, has[off])
		}
	}
	tells(t, "of 4000 bytes", tx.New(s), 4000, 3776)

	s = formatted(t, 4096, 3824) // the smallest one, with bytes behind it
	has = map[uint64]uint64{0: 0x6361727261636b31, 8: 1, 16: 3824, 32: 3776, 40: 0x8432023d4b3ad4d5, 3776: 48, 3816: 48}
	for off := uint64(0); off < 4096; off += 8 {
		if v := word(t, s, off); v != has[off] {
			t.Errorf("of the smallest one, at %d: %#x, not %#x", off, v, has[off])
		}
	}
}

// P4.1: a size in each place, up to the segment's end and above: one that doesn't fit leaves the segment as it was.
func TestFormatAtEachSize(t *testing.T) {
	for _, all := range []uint64{3816, 3824, 3832, 3840, 3904, 3912} {
		for size := uint64(3700); size < 4000; size++ {
			s := filled(t, all)
			was := s.Copy()
			wanted := api.ErrSize
			if size >= least && size <= all && size%16 == 0 {
				wanted, was = api.OK, want(t, all, size)
			}
			if err := head.Format(s, size); err != wanted {
				t.Errorf("Format of %d bytes at %d: %d, not %d", all, size, err, wanted)
			}
			same(t, "at each size", s, was)
		}
	}
}

// P4.1
func TestFormatOfOthers(t *testing.T) {
	for _, all := range []uint64{8, 16, 48, 64, 3776, 3808, 3816, 3824, 3832, 3840, 4000, 4096, 4104, 1<<20 - 8, 1 << 20} {
		s := filled(t, all)
		was := s.Copy()
		for _, size := range unfit(all) {
			if size%16 == 0 && size >= least && size <= all {
				continue // it fits this one
			}
			if err := head.Format(s, size); err != api.ErrSize {
				t.Errorf("Format of %d bytes at %d: %d", all, size, err)
			}
		}
		same(t, "refused", s, was)
	}
	s := formatted(t, 4096, 4000)
	for _, size := range unfit(4096) {
		if err := head.Format(s, size); err != api.ErrSize {
			t.Errorf("Format, again, of 4096 bytes at %d: %d", size, err)
		}
	}
	same(t, "formatted, and refused", s, want(t, 4096, 4000))
	checks(t, "formatted, and refused", tx.New(s), api.OK)
}

// P4.1: nobody's segment is told first, whatever else is handed in.
func TestFormatOfNobody(t *testing.T) {
	for _, size := range append(unfit(4096), least, 4000, 4096, 1<<20) {
		if err := head.Format(nil, size); err != api.ErrArg {
			t.Errorf("Format of nobody at %d: %d", size, err)
		}
	}
	if err := head.Format(seg.New(0), 4000); err != api.ErrArg {
		t.Errorf("Format of no segment: %d", err)
	}
}

// P4.1: nothing is left of what stood there, also of a head.
func TestFormatAgain(t *testing.T) {
	s := formatted(t, 4096, 4096)
	lay(t, s, lockAt, 3)
	for off := uint64(64); off < 4096; off += 8 {
		lay(t, s, off, mixed(off)|1)
	}
	for _, size := range []uint64{4000, 4000, least, 4096, 3840} {
		if err := head.Format(s, size); err != api.OK {
			t.Errorf("Format, again, at %d: %d", size, err)
		}
		same(t, "again", s, want(t, 4096, size))
	}
}

// P4.1: another segment isn't touched.
func TestFormatTouchesItsOwn(t *testing.T) {
	s := filled(t, 4096)
	c := s.Copy()
	was := s.Copy()
	if err := head.Format(c, 4096); err != api.OK {
		t.Errorf("Format: %d", err)
	}
	same(t, "the one it was copied from", s, was)
	same(t, "the copy", c, want(t, 4096, 4096))
}

// P4.2: words that nobody formatted.
func TestCheckOfOthers(t *testing.T) {
	for _, all := range []uint64{8, 16, 24, 32, 40, 48, 64, 3776, 3816, 3824, 4096, 1 << 20} {
		checks(t, "zeros", tx.New(made(t, all)), api.ErrForm)
		checks(t, "unlike words", tx.New(filled(t, all)), api.ErrForm)
		s := made(t, all)
		for off := uint64(0); off < all; off += 8 {
			lay(t, s, off, largest)
		}
		checks(t, "all bits", tx.New(s), api.ErrForm)
	}
}

// P4.2: just the words that are asked, without a heap, or with anything else in it.
func TestCheckAsksFourWords(t *testing.T) {
	for _, all := range []uint64{3824, 3832, 4096} {
		s := filled(t, all)
		lay(t, s, magicAt, 0x6361727261636b31)
		lay(t, s, versionAt, 1)
		lay(t, s, sizeAt, 3824)
		checks(t, "three words", tx.New(s), api.ErrForm)
		lay(t, s, sumAt, 0x8432023d4b3ad4d5)
		checks(t, "four words", tx.New(s), api.OK)
		tells(t, "four words", tx.New(s), 3824, word(t, s, rootAt))
		for off := uint64(0); off < all; off += 8 {
			if off != magicAt && off != versionAt && off != sizeAt && off != sumAt {
				lay(t, s, off, 0)
			}
		}
		checks(t, "four words among zeros", tx.New(s), api.OK)
		tells(t, "four words among zeros", tx.New(s), 3824, 0)
	}
}

// otherwise are numbers that a word may be instead: each of its bits, and the words beside it.
func otherwise(v uint64) []uint64 {
	l := []uint64{0, 1, 2, largest, ^v, -v, v + 1, v - 1, v + 8, v - 16, v + 16, v << 1, v >> 1, v << 32, v >> 32, mixed(v)}
	for i := range 64 {
		l = append(l, v^1<<i)
	}
	return slices.DeleteFunc(l, func(w uint64) bool { return w == v })
}

// P4.2, P4.3: each of the head's words otherwise, in the segment, and thought of over one.
func TestEachWordOtherwise(t *testing.T) {
	for _, y := range [][2]uint64{{least, least}, {4096, 4096}, {4096, 4000}, {4104, 4096}} {
		s := formatted(t, y[0], y[1])
		good := s.Copy()
		for _, x := range []struct {
			off  uint64
			want api.Errno
		}{
			{magicAt, api.ErrForm}, {versionAt, api.ErrForm}, {sizeAt, api.ErrForm}, {sumAt, api.ErrForm},
			{lockAt, api.OK}, {rootAt, api.OK}, // not asked
			{48, api.OK}, {56, api.OK}, {64, api.OK}, {3392, api.OK}, {heap, api.OK}, {y[1] - 8, api.OK}, // not the head's
		} {
			is := word(t, s, x.off)
			for _, v := range otherwise(is) {
				thought := tx.New(s)
				thought.Store(x.off, v)
				checks(t, "thought of", thought, x.want)
				same(t, "thought of", s, good)

				lay(t, s, x.off, v)
				checks(t, "stored", tx.New(s), x.want)
				thought.Store(x.off, is)
				checks(t, "mended, as is thought", thought, api.OK)
				if t.Failed() {
					t.Fatalf("at %d: %#x instead of %#x, of %d bytes at %d", x.off, v, is, y[0], y[1])
				}
				lay(t, s, x.off, is)
			}
			checks(t, "as it was", tx.New(s), api.OK)
		}
	}
}

// P4.2: a size that doesn't fit, with its own sum.
func TestCheckAsksWhetherASizeFits(t *testing.T) {
	for _, all := range []uint64{3824, 3832, 3840, 4096, 4104, 1<<20 - 8, 1 << 20} {
		s := formatted(t, all, least)
		for _, size := range unfit(all) {
			if size%16 == 0 && size >= least && size <= all {
				continue // it fits this one
			}
			x := tx.New(s)
			x.Store(sizeAt, size)
			x.Store(sumAt, sum(size))
			checks(t, "a size that doesn't fit, thought of", x, api.ErrForm)
			b := s.Copy()
			lay(t, b, sizeAt, size)
			lay(t, b, sumAt, sum(size))
			checks(t, "a size that doesn't fit", tx.New(b), api.ErrForm)
			if t.Failed() {
				t.Fatalf("%d of %d bytes", size, all)
			}
		}
	}
	// The same words fit a segment that has as many, and no smaller one.
	for all := uint64(48); all < 4200; all += 8 {
		s := made(t, all)
		lay(t, s, magicAt, 0x6361727261636b31)
		lay(t, s, versionAt, 1)
		lay(t, s, sizeAt, 4000)
		lay(t, s, sumAt, 0xa25175f622c77be5)
		wanted := api.OK
		if all < 4000 {
			wanted = api.ErrForm
		}
		checks(t, "4000", tx.New(s), wanted)
	}
}

// P4.2: a size that fits, with another one's sum, and the other way round.
func TestCheckAsksTheSizesOwnSum(t *testing.T) {
	s := formatted(t, 4096, 4096)
	for size := uint64(least); size <= 4096; size += 16 {
		for other := uint64(least); other <= 4096; other += 16 {
			x := tx.New(s)
			x.Store(sumAt, sum(other))
			x.Store(sizeAt, size)
			wanted := api.OK
			if size != other {
				wanted = api.ErrForm
			}
			checks(t, "a size and a sum", x, wanted)
		}
	}
}

// P4.2: what is thought of is told, over a segment that has nothing of it.
func TestThoughtOf(t *testing.T) {
	s := made(t, 4096)
	x := tx.New(s)
	x.Store(magicAt, 0x6361727261636b31)
	x.Store(versionAt, 1)
	head.Resize(x, 4000)
	checks(t, "thought of", x, api.OK)
	tells(t, "thought of", x, 4000, 0)
	head.Plant(x, 77)
	tells(t, "thought of", x, 4000, 77)
	checks(t, "another one", tx.New(s), api.ErrForm)
	tells(t, "another one", tx.New(s), 0, 0)
	same(t, "thought of", s, made(t, 4096))
	x.Apply()
	checks(t, "applied", tx.New(s), api.OK)
	tells(t, "applied", tx.New(s), 4000, 77)

	y := tx.New(s) // the segment's words are told where none is thought of
	lay(t, s, rootAt, 5)
	lay(t, s, sizeAt, 6)
	tells(t, "as the segment is now", y, 6, 5)
	y.Store(rootAt, 7)
	y.Store(sizeAt, 8)
	tells(t, "as is thought", y, 8, 7)
}

// P4.2: two words, in turn, and no other one, whatever size it is.
func TestResize(t *testing.T) {
	for _, size := range append(unfit(4096), least, 3840, 4000, 4080, 4096) {
		s := formatted(t, 4096, 4000)
		was := s.Copy()
		x := tx.New(s)
		head.Resize(x, size)
		puts(t, "resized", x, api.Put{Off: 16, V: size}, api.Put{Off: 40, V: sum(size)})
		tells(t, "resized", x, size, heap)
		same(t, "resized, not applied", s, was)
		wanted := api.ErrForm
		if size%16 == 0 && size >= least && size <= 4096 {
			wanted = api.OK
		}
		checks(t, "resized", x, wanted)
		x.Apply()
		lay(t, was, sizeAt, size)
		lay(t, was, sumAt, sum(size))
		same(t, "resized, applied", s, was)
	}
}

// P4.2: one word, and no other one.
func TestPlant(t *testing.T) {
	for _, off := range []uint64{0, 1, 8, 3776, 3777, 4000, 4096, 1 << 20, 1 << 32, 1 << 63, largest} {
		s := formatted(t, 4096, 4000)
		was := s.Copy()
		x := tx.New(s)
		head.Plant(x, off)
		puts(t, "planted", x, api.Put{Off: 32, V: off})
		tells(t, "planted", x, 4000, off)
		checks(t, "planted", x, api.OK)
		same(t, "planted, not applied", s, was)
		x.Apply()
		lay(t, was, rootAt, off)
		same(t, "planted, applied", s, was)
	}
}

// P4.2: words are thought of also where they are so already.
func TestAsItIs(t *testing.T) {
	s := formatted(t, 4096, 4000)
	x := tx.New(s)
	head.Resize(x, 4000)
	puts(t, "resized as it is", x, api.Put{Off: 16, V: 4000}, api.Put{Off: 40, V: 0xa25175f622c77be5})
	x = tx.New(s)
	head.Plant(x, 3776)
	puts(t, "planted as it is", x, api.Put{Off: 32, V: 3776})
	head.Resize(x, 4000)
	lay(t, s, sizeAt, 1)
	lay(t, s, sumAt, 2)
	lay(t, s, rootAt, 3)
	tells(t, "as it was", x, 4000, 3776)
	checks(t, "as it was", x, api.OK)
	x.Apply()
	same(t, "as it was, applied", s, want(t, 4096, 4000))

	b := tx.New(made(t, 4096)) // 0, where there is 0
	head.Plant(b, 0)
	puts(t, "nobody planted", b, api.Put{Off: 32})
}

// P4.2: again, and both: what was stored last, in the turn of what was stored first.
func TestAgain(t *testing.T) {
	x := tx.New(formatted(t, 4096, 4000))
	head.Plant(x, 1)
	head.Resize(x, 4096)
	head.Plant(x, 2)
	head.Resize(x, 3824)
	puts(t, "again", x, api.Put{Off: 32, V: 2}, api.Put{Off: 16, V: 3824}, api.Put{Off: 40, V: 0x8432023d4b3ad4d5})
	tells(t, "again", x, 3824, 2)
	checks(t, "again", x, api.OK)
}

// P4.2: what is read isn't thought of.
func TestReadingChangesNothing(t *testing.T) {
	s := formatted(t, 4096, 4000)
	was := s.Copy()
	x := tx.New(s)
	for range 3 {
		checks(t, "read", x, api.OK)
		tells(t, "read", x, 4000, 3776)
	}
	puts(t, "read", x)
	x.Store(rootAt, 9)
	checks(t, "read", x, api.OK)
	x.Store(versionAt, 2)
	checks(t, "read", x, api.ErrForm)
	puts(t, "read", x, api.Put{Off: 32, V: 9}, api.Put{Off: 8, V: 2})
	same(t, "read", s, was)
}

// P4.2: two over one segment don't know of each other.
func TestTwo(t *testing.T) {
	s := formatted(t, 4096, 4000)
	a, b := tx.New(s), tx.New(s)
	head.Resize(a, 4096)
	head.Plant(b, 0)
	tells(t, "the one", a, 4096, 3776)
	tells(t, "the other", b, 4000, 0)
	b.Store(magicAt, 0)
	checks(t, "the one", a, api.OK)
	checks(t, "the other", b, api.ErrForm)
}

// P4.2: nobody's Tx, whatever else is handed in.
func TestNil(t *testing.T) {
	for _, x := range []*tx.Tx{nil, tx.New(nil), tx.New(seg.New(0)), tx.New(nil).Bare()} {
		for _, v := range append(unfit(4096), least, 4000, 4096) {
			head.Resize(x, v)
			head.Plant(x, v)
			checks(t, "nobody", x, api.ErrForm)
			tells(t, "nobody", x, 0, 0)
			puts(t, "nobody", x)
		}
	}
}

// P4.2: a segment that ends amid the head has no more words than it has.
func TestSmall(t *testing.T) {
	for all := uint64(8); all <= 64; all += 8 {
		s := filled(t, all)
		was := s.Copy()
		x := tx.New(s)
		var size, root uint64
		if all > sizeAt {
			size = word(t, s, sizeAt)
		}
		if all > rootAt {
			root = word(t, s, rootAt)
		}
		tells(t, "small", x, size, root)
		checks(t, "small", x, api.ErrForm)
		var l []api.Put
		if all > sizeAt {
			l = append(l, api.Put{Off: 16, V: 4000})
		}
		if all > sumAt {
			l = append(l, api.Put{Off: 40, V: 0xa25175f622c77be5})
		}
		if all > rootAt {
			l = append(l, api.Put{Off: 32, V: 3776})
		}
		head.Resize(x, 4000)
		head.Plant(x, 3776)
		puts(t, "small", x, l...)
		checks(t, "small, thought of", x, api.ErrForm)
		same(t, "small", s, was)
	}
}

// P4.3: what is formatted is checked, at each size that fits; so it is when it is resized to one.
func TestFormattedIsChecked(t *testing.T) {
	for _, x := range fitting() {
		s := formatted(t, x[0], x[1])
		checks(t, "formatted", tx.New(s), api.OK)
		tells(t, "formatted", tx.New(s), x[1], heap)
	}
	for _, all := range []uint64{4240, 4248} {
		for size := uint64(least); size <= all; size += 16 {
			s := formatted(t, all, size)
			x := tx.New(s)
			checks(t, "formatted", x, api.OK)
			tells(t, "formatted", x, size, heap)
			for other := uint64(least); other <= all; other += 16 {
				head.Resize(x, other)
				checks(t, "resized", x, api.OK)
				tells(t, "resized", x, other, heap)
			}
			head.Resize(x, (all/16+1)*16)
			checks(t, "resized too far", x, api.ErrForm)
			head.Resize(x, least-16)
			checks(t, "resized too near", x, api.ErrForm)
		}
	}
}
