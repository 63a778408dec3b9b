package tx_test

import (
	"slices"
	"testing"

	"carrack/api"
	"carrack/seg"
	"carrack/tx"
)

const largest = 1<<64 - 1

// mixed is a number that hangs on n alone, with unlike bytes.
func mixed(n uint64) uint64 {
	n = (n + 1) * 0x9E3779B97F4A7C15
	n = (n ^ n>>31) * 0xBF58476D1CE4E5B9
	return n ^ n>>29
}

// filled is a segment of unlike words: mixed of their offsets.
func filled(t *testing.T, size uint64) *seg.Seg {
	t.Helper()
	s := seg.New(size)
	if s == nil {
		t.Fatalf("no segment of %d bytes", size)
	}
	for off := uint64(0); off < size; off += 8 {
		lay(t, s, off, mixed(off))
	}
	return s
}

// lay stores a word in the segment itself.
func lay(t *testing.T, s *seg.Seg, off, v uint64) {
	t.Helper()
	if err := s.Store(off, v); err != api.OK {
		t.Fatalf("Store(%d) in a segment of %d bytes: %d", off, s.Size(), err)
	}
}

// over is a Tx that must be one.
func over(t *testing.T, s *seg.Seg) *tx.Tx {
	t.Helper()
	x := tx.New(s)
	if x == nil {
		t.Fatalf("New over %d bytes is nil", s.Size())
	}
	return x
}

func loads(t *testing.T, what string, x *tx.Tx, off, thought, old uint64) {
	t.Helper()
	if got := x.Load(off); got != thought {
		t.Errorf("%s: Load(%d): %#x, not %#x", what, off, got, thought)
	}
	if got := x.Old(off); got != old {
		t.Errorf("%s: Old(%d): %#x, not %#x", what, off, got, old)
	}
}

func puts(t *testing.T, what string, x *tx.Tx, want ...api.Put) {
	t.Helper()
	if got := x.Puts(); !slices.Equal(got, want) {
		t.Errorf("%s: Puts: %v, not %v", what, got, want)
	}
}

// same asks whether the segment has the words that the other one has.
func same(t *testing.T, what string, s, want *seg.Seg) {
	t.Helper()
	if l := seg.Diff(s, want); len(l) > 0 {
		t.Errorf("%s: other words at %d", what, l)
	}
}

// noWords are offsets at which a segment of that size has no word.
func noWords(size uint64) []uint64 {
	l := []uint64{
		size, size + 8, size + 16, 2 * size, 1<<20 + size, 1<<20 + 8, 1 << 21,
		1 << 32, 1<<32 + 8, 1 << 61, 1<<61 + 8, 1 << 63, 1<<63 + 8, -size,
		largest - 7, largest - 15, largest - 23, largest, largest - 1, largest - 6, largest - 8,
	}
	for low := uint64(1); low < 8; low++ {
		l = append(l, low, size-8+low, size+low, largest-low, 1<<32+low)
	}
	return l
}

// P3.1
func TestNew(t *testing.T) {
	for _, size := range []uint64{8, 16, 4000, 1 << 20} {
		s := filled(t, size)
		was := s.Copy()
		x := over(t, s)
		if x.Size() != size {
			t.Errorf("Size over %d bytes: %d", size, x.Size())
		}
		puts(t, "new", x)
		for off := uint64(0); off < size; off += 8 {
			loads(t, "new", x, off, mixed(off), mixed(off))
		}
		puts(t, "read", x) // what is read isn't thought of
		x.Apply()
		same(t, "applied without words", s, was)
	}
}

// P3.1, P3.2: nobody's segment, whatever else is handed in.
func TestNil(t *testing.T) {
	if tx.New(nil) != nil {
		t.Error("New(nil) is one")
	}
	var none *seg.Seg
	if tx.New(none.Copy()) != nil {
		t.Error("New of a nil segment's copy is one")
	}
	for _, x := range []*tx.Tx{nil, tx.New(nil), tx.New(nil).Bare()} {
		for _, off := range append(noWords(64), 0, 8, 64) {
			for _, v := range []uint64{0, 1, largest} {
				x.Store(off, v)
				loads(t, "nil", x, off, 0, 0)
			}
		}
		x.Apply()
		if x.Size() != 0 || x.Bare() != nil {
			t.Errorf("nil: Size %d, Bare %v", x.Size(), x.Bare())
		}
		puts(t, "nil", x)
	}
}

// P3.1: the first, the last and a middle word, at all numbers that are odd ones.
func TestStore(t *testing.T) {
	for _, size := range []uint64{8, 24, 3824, 1 << 20} {
		for _, off := range []uint64{0, size / 16 * 8, size - 8} {
			for _, v := range []uint64{0, 1, 258, 0x0102030405060708, 1 << 63, largest, ^mixed(off)} {
				s := filled(t, size)
				was := s.Copy()
				x := over(t, s)
				x.Store(off, v)
				loads(t, "thought of", x, off, v, mixed(off))
				puts(t, "thought of", x, api.Put{Off: off, V: v})
				same(t, "thought of", s, was)
				for _, other := range []uint64{off - 8, off + 8} {
					if other < size {
						loads(t, "beside it", x, other, mixed(other), mixed(other))
					}
				}
				if x.Size() != size {
					t.Errorf("Size is %d then, not %d", x.Size(), size)
				}
			}
		}
	}
}

// P3.1: where the segment has no word.
func TestNoWord(t *testing.T) {
	for _, size := range []uint64{8, 16, 3824, 1 << 20} {
		s := filled(t, size)
		was := s.Copy()
		x := over(t, s)
		for _, off := range noWords(size) {
			x.Store(off, 7)
			loads(t, "no word", x, off, 0, 0)
		}
		puts(t, "no words", x)
		x.Apply()
		same(t, "no words, applied", s, was)

		x.Store(size-8, 9)
		for _, off := range noWords(size) {
			x.Store(off, 7)
			loads(t, "no word, behind one", x, off, 0, 0)
		}
		puts(t, "a word, and no words", x, api.Put{Off: size - 8, V: 9})
		x.Apply()
		lay(t, was, size-8, 9)
		same(t, "a word, and no words, applied", s, was)
	}
}

// P3.1, P3.2: what was stored last, in the turn of what was stored first.
func TestAgain(t *testing.T) {
	s := filled(t, 32)
	x := over(t, s)
	x.Store(8, 1)
	x.Store(8, 2)
	puts(t, "again", x, api.Put{Off: 8, V: 2})
	x.Store(0, 3)
	x.Store(24, 4)
	x.Store(8, 5)
	x.Store(24, 6)
	puts(t, "again, and others", x, api.Put{Off: 8, V: 5}, api.Put{Off: 0, V: 3}, api.Put{Off: 24, V: 6})
	loads(t, "again", x, 8, 5, mixed(8))
	loads(t, "again", x, 0, 3, mixed(0))
	loads(t, "again", x, 24, 6, mixed(24))
	loads(t, "never", x, 16, mixed(16), mixed(16))
	x.Store(8, 0)
	x.Store(0, mixed(0))
	puts(t, "0, and as it was", x, api.Put{Off: 8}, api.Put{Off: 0, V: mixed(0)}, api.Put{Off: 24, V: 6})
	loads(t, "0", x, 8, 0, mixed(8))
}

// P3.1, P3.2: a word is thought of also as it is; 0 is a word, too.
func TestAsItIs(t *testing.T) {
	s := filled(t, 24)
	lay(t, s, 16, 0)
	x := over(t, s)
	x.Store(16, 0)
	x.Store(8, mixed(8))
	want := []api.Put{{Off: 16}, {Off: 8, V: mixed(8)}}
	puts(t, "as they are", x, want...)
	lay(t, s, 16, 1)
	lay(t, s, 8, 2)
	loads(t, "as it was", x, 16, 0, 1)
	loads(t, "as it was", x, 8, mixed(8), 2)
	puts(t, "as they were", x, want...)
	x.Apply()
	loads(t, "as it was, applied", x, 16, 0, 0)
	loads(t, "as it was, applied", x, 8, mixed(8), mixed(8))
}

// turns are all turns in which these offsets may stand.
func turns(offs []uint64) [][]uint64 {
	if len(offs) == 0 {
		return [][]uint64{nil}
	}
	var l [][]uint64
	for i, off := range offs {
		others := slices.Delete(slices.Clone(offs), i, i+1)
		for _, rest := range turns(others) {
			l = append(l, append([]uint64{off}, rest...))
		}
	}
	return l
}

// P3.2: each turn is told as it was, one word behind another.
func TestTurns(t *testing.T) {
	for _, first := range turns([]uint64{0, 8, 16, 24, 32}) {
		s := filled(t, 40)
		x := over(t, s)
		var want []api.Put
		for i, off := range first {
			x.Store(off, uint64(i))
			want = append(want, api.Put{Off: off, V: uint64(i)})
			puts(t, "one more", x, want...)
		}
		for i := range want { // stored again the other way round
			j := len(want) - 1 - i
			want[j].V = largest - uint64(i)
			x.Store(want[j].Off, want[j].V)
			puts(t, "again", x, want...)
		}
		x.Apply()
		puts(t, "applied", x, want...)
		for _, p := range want {
			loads(t, "applied", x, p.Off, p.V, p.V)
		}
	}
}

// P3.2: all words of the largest segment, the last one first.
func TestLargest(t *testing.T) {
	s := seg.New(api.MaxSize)
	x := over(t, s)
	want := make([]api.Put, 0, api.MaxSize/8)
	for off := uint64(api.MaxSize); off > 0; off -= 8 {
		x.Store(off-8, mixed(off-8))
		want = append(want, api.Put{Off: off - 8, V: mixed(off - 8)})
	}
	if !slices.Equal(x.Puts(), want) {
		t.Error("other Puts")
	}
	same(t, "thought of", s, seg.New(api.MaxSize))
	x.Apply()
	same(t, "applied", s, filled(t, api.MaxSize))
}

// P3.2: what is told is the caller's own.
func TestPutsAreTheCallers(t *testing.T) {
	s := filled(t, 32)
	x := over(t, s)
	x.Store(16, 1)
	x.Store(0, 2)
	want := []api.Put{{Off: 16, V: 1}, {Off: 0, V: 2}}
	told := x.Puts()
	other := x.Puts()
	told[0], told[1] = api.Put{Off: 8, V: 7}, api.Put{Off: 24, V: 7}
	_ = append(told[:1], api.Put{Off: 8, V: 7})
	_ = append(told, api.Put{Off: 8, V: 7})
	if !slices.Equal(other, want) { // ahead of being told again, which could mend it
		t.Error("what was told twice is shared")
	}
	puts(t, "after writes to what was told", x, want...)
	x.Store(16, 3)
	x.Store(24, 4)
	x.Bare().Store(16, 5)
	puts(t, "after stores", x, api.Put{Off: 16, V: 3}, api.Put{Off: 0, V: 2}, api.Put{Off: 24, V: 4})
	if !slices.Equal(other, want) {
		t.Error("what was told changes with the Tx")
	}
	x.Apply()
	loads(t, "applied", x, 8, mixed(8), mixed(8))
	loads(t, "applied", x, 24, 4, 4)
}

// P3.2: applied twice, with and without a change between; what was thought of stays so.
func TestApply(t *testing.T) {
	s := filled(t, 40)
	want := s.Copy()
	x := over(t, s)
	x.Store(32, 1)
	x.Store(8, 2)
	x.Store(32, 3)
	lay(t, want, 32, 3)
	lay(t, want, 8, 2)
	l := []api.Put{{Off: 32, V: 3}, {Off: 8, V: 2}}
	for range 3 {
		x.Apply()
		same(t, "applied", s, want)
		puts(t, "applied", x, l...)
		loads(t, "applied", x, 32, 3, 3)
	}

	lay(t, s, 32, 9) // one that is thought of, and one that isn't
	lay(t, s, 16, 9)
	loads(t, "changed", x, 32, 3, 9)
	loads(t, "changed", x, 16, 9, 9)
	x.Apply()
	lay(t, want, 16, 9)
	same(t, "applied behind a change", s, want)

	x.Store(0, 4)
	x.Store(8, 5)
	same(t, "thought of behind that", s, want)
	puts(t, "thought of behind that", x, api.Put{Off: 32, V: 3}, api.Put{Off: 8, V: 5}, api.Put{Off: 0, V: 4})
	x.Apply()
	lay(t, want, 0, 4)
	lay(t, want, 8, 5)
	same(t, "applied again", s, want)
}

// P3.1: a word that isn't thought of is what the segment has now.
func TestSegmentChanges(t *testing.T) {
	s := filled(t, 24)
	x := over(t, s)
	loads(t, "before", x, 8, mixed(8), mixed(8))
	lay(t, s, 8, 1)
	loads(t, "changed", x, 8, 1, 1)
	x.Store(8, 2)
	lay(t, s, 8, 3)
	loads(t, "thought of, and changed", x, 8, 2, 3)
	puts(t, "changed", x, api.Put{Off: 8, V: 2})
}

// P3.2: over the same segment, without words of its own.
func TestBare(t *testing.T) {
	s := filled(t, 32)
	was := s.Copy()
	x := over(t, s)
	x.Store(8, 1)
	x.Store(16, 2)
	b := x.Bare()
	if b == nil || b == x {
		t.Fatal("Bare is no other one")
	}
	if b.Size() != 32 {
		t.Errorf("Size of a bare one: %d", b.Size())
	}
	puts(t, "bare", b)
	loads(t, "bare", b, 8, mixed(8), mixed(8))
	b.Apply()
	same(t, "a bare one, applied", s, was)

	b.Store(24, 3)
	b.Store(8, 4)
	x.Store(0, 5)
	puts(t, "the bare one", b, api.Put{Off: 24, V: 3}, api.Put{Off: 8, V: 4})
	puts(t, "the other", x, api.Put{Off: 8, V: 1}, api.Put{Off: 16, V: 2}, api.Put{Off: 0, V: 5})
	loads(t, "the bare one", b, 8, 4, mixed(8))
	loads(t, "the bare one", b, 0, mixed(0), mixed(0))
	loads(t, "the other", x, 24, mixed(24), mixed(24))
	same(t, "both thought of", s, was)
	b.Apply()
	lay(t, was, 24, 3)
	lay(t, was, 8, 4)
	same(t, "the bare one, applied", s, was)
	loads(t, "the other", x, 8, 1, 4)
	loads(t, "the other", x, 24, 3, 3)
	puts(t, "a bare one's bare one", b.Bare())
}

// P3.1, P3.2: two over one segment, and one over another: each thinks of its own.
func TestTwo(t *testing.T) {
	s := filled(t, 24)
	was := s.Copy()
	a, b, c := over(t, s), over(t, s), over(t, s.Copy())
	a.Store(8, 1)
	b.Store(16, 2)
	b.Store(8, 3)
	puts(t, "the one", a, api.Put{Off: 8, V: 1})
	puts(t, "the other", b, api.Put{Off: 16, V: 2}, api.Put{Off: 8, V: 3})
	puts(t, "over another", c)
	loads(t, "the one", a, 16, mixed(16), mixed(16))
	same(t, "thought of", s, was)
	b.Apply()
	loads(t, "the one, behind the other", a, 8, 1, 3)
	loads(t, "the one, behind the other", a, 16, 2, 2)
	a.Apply()
	loads(t, "the other, behind the one", b, 8, 3, 1)
	lay(t, was, 8, 1)
	lay(t, was, 16, 2)
	same(t, "both applied", s, was)
	loads(t, "over another", c, 8, mixed(8), mixed(8))
	loads(t, "over another", c, 16, mixed(16), mixed(16))
}

// thinker is a Tx by its promises: a list that is gone through.
type thinker struct{ l []api.Put }

func (k *thinker) store(off, v uint64) {
	for i := range k.l {
		if k.l[i].Off == off {
			k.l[i].V = v
			return
		}
	}
	k.l = append(k.l, api.Put{Off: off, V: v})
}

func (k *thinker) load(off, old uint64) uint64 {
	for _, p := range k.l {
		if p.Off == off {
			return p.V
		}
	}
	return old
}

// P3.3: whatever is thought of, applied, or stored beside it: it is what the segment has then; without that it has nothing of it.
func TestThoughtAndApplied(t *testing.T) {
	for _, size := range []uint64{8, 32, 160} {
		s := filled(t, size)
		is := s.Copy() // what the segment should have
		xs := []*tx.Tx{over(t, s), over(t, s)}
		ks := []*thinker{{}, {}}
		for n := range uint64(3000) {
			i := mixed(n) >> 40 & 1
			off, v := mixed(^n)%(size+24), mixed(n)>>50
			if n%3 != 0 {
				off = off / 8 * 8
			}
			switch n % 40 {
			case 13:
				xs[i].Apply()
				for _, p := range ks[i].l {
					lay(t, is, p.Off, p.V)
				}
			case 25:
				if off%8 == 0 && off < size {
					lay(t, s, off, v)
					lay(t, is, off, v)
				}
			case 38:
				xs[i], ks[i] = xs[i].Bare(), &thinker{}
			default:
				xs[i].Store(off, v)
				if off%8 == 0 && off < size {
					ks[i].store(off, v)
				}
			}
			same(t, "the segment", s, is)
			for i, x := range xs {
				puts(t, "one of two", x, ks[i].l...)
				for off := uint64(0); off < size; off += 8 {
					old, _ := is.Load(off)
					loads(t, "one of two", x, off, ks[i].load(off, old), old)
				}
			}
			if t.Failed() {
				t.Fatalf("at %d, over %d bytes", n, size)
			}
		}
	}
}

// P3.3: what is read stays, too.
func TestReadingChangesNothing(t *testing.T) {
	s := filled(t, 64)
	was := s.Copy()
	x := over(t, s)
	x.Store(24, 1)
	for off := range uint64(80) {
		x.Load(off)
		x.Load(-off)
		x.Old(off)
		x.Old(-off)
	}
	x.Size()
	x.Puts()
	x.Bare()
	puts(t, "read", x, api.Put{Off: 24, V: 1})
	same(t, "read", s, was)
}
