package model_test

import (
	"math"
	"slices"
	"strings"
	"testing"

	"carrack/api"
	"carrack/model"
)

// P14.2: what a block needs, and no byte more, if that leaves a block; words that are taken are 0, also where others stood.
func TestAlloc(t *testing.T) {
	m := with(t, 4480, 4800, 0, 1)
	does(t, m, 0, alloc(0), at(3808))
	does(t, m, 1, alloc(1), at(3856))
	does(t, m, 0, alloc(8), at(3904))
	does(t, m, 1, alloc(9), at(3952))
	does(t, m, 0, alloc(24), at(4016))
	does(t, m, 1, alloc(25), at(4080))
	l := []model.Block{used(48, 1, 0), used(48, 2, 1), used(48, 1, 8), used(64, 2, 9), used(64, 1, 24), used(80, 2, 25), spare(352)}
	stands(t, "taken", m, l...)
	for i := range uint64(4) {
		does(t, m, 1, write(4080, i, i+100), done())
	}
	does(t, m, 1, free(4080), done())
	does(t, m, 0, alloc(40), at(4080))
	l[5] = used(80, 1, 40)
	stands(t, "taken again", m, l...)
	does(t, m, 1, alloc(313), fails(api.ErrNoMem))
	does(t, m, 1, alloc(312), at(4160))
	l[6] = used(352, 2, 312)
	stands(t, "all are taken", m, l...)
	for _, n := range []uint64{0, 1, 8, 9, most, 1 << 32, largest - 55} {
		does(t, m, 0, alloc(n), fails(api.ErrNoMem))
	}
	for _, n := range []uint64{largest - 54, largest - 47, largest - 40, largest - 39, largest - 8, largest} {
		does(t, m, 0, alloc(n), fails(api.ErrSize))
	}
	does(t, m, 1, free(4160), done())
	odd := api.Op{Kind: api.Alloc, N: 8, A: 7, Off: 1, I: 2, V: 3, To: -1, Name: strings.Repeat("n", 99)}
	does(t, m, 0, odd, at(4160)) // nothing but N is asked
}

// P14.2: less than the smallest block isn't left over.
func TestWhatIsLeft(t *testing.T) {
	for _, x := range []struct{ n, size uint64 }{
		{0, 48}, {8, 48}, {9, 64}, {104, 144}, {105, 160}, {120, 160}, {121, 176}, {136, 176}, {137, 224}, {152, 224}, {153, 224}, {168, 224}, {169, 224}, {184, 224},
	} {
		m := with(t, 4000, 4000, 0)
		does(t, m, 0, alloc(x.n), at(3808))
		if x.size == 224 {
			stands(t, "nothing is left", m, used(224, 1, x.n))
			does(t, m, 0, alloc(0), fails(api.ErrNoMem))
		} else {
			stands(t, "some is left", m, used(x.size, 1, x.n), spare(224-x.size))
			does(t, m, 0, alloc(224-x.size-39), fails(api.ErrNoMem))
			does(t, m, 0, alloc(224-x.size-40), at(3808+x.size))
			does(t, m, 0, free(3808+x.size), done())
		}
		does(t, m, 0, free(3808), done())
		stands(t, "freed", m, spare(224))
	}
	m := with(t, 4000, 4000, 0)
	does(t, m, 0, alloc(185), fails(api.ErrNoMem))
	m = with(t, 3824, 3824, 0)
	does(t, m, 0, alloc(9), fails(api.ErrNoMem))
	does(t, m, 0, alloc(8), at(3808))
	does(t, m, 0, alloc(0), fails(api.ErrNoMem))
}

// P14.2: the largest state that there is.
func TestLargest(t *testing.T) {
	const n = most - heap - 40
	m := with(t, most, most, 0)
	does(t, m, 0, alloc(n+1), fails(api.ErrNoMem))
	does(t, m, 0, alloc(n), at(3808))
	does(t, m, 0, write(3808, n/8-1, 7), done())
	does(t, m, 0, write(3808, n/8, 7), fails(api.ErrArg))
	does(t, m, 0, read(3808, n/8-1), says(7))
	does(t, m, 0, realloc(3808, n+1), fails(api.ErrNoMem))
	does(t, m, 0, realloc(3808, 8), at(3808))
	does(t, m, 0, grow(48), fails(api.ErrNoMem))
	stands(t, "cut", m, used(48, 1, 8), spare(n-8))
}

// gaps is a state of the client 0 alone, whose free blocks have these sizes, each between two used blocks of the smallest size; behind the last one nothing is free.
func gaps(t *testing.T, sizes ...uint64) *model.State {
	t.Helper()
	end := uint64(heap + least)
	for _, size := range sizes {
		end += size + least
	}
	m := with(t, end, most, 0)
	off := uint64(heap + front)
	does(t, m, 0, alloc(8), at(off))
	var l []uint64
	for _, size := range sizes {
		off += least
		l = append(l, off)
		does(t, m, 0, alloc(size-40), at(off))
		off += size
		does(t, m, 0, alloc(8), at(off))
	}
	for _, payload := range l {
		does(t, m, 0, free(payload), done())
	}
	return m
}

// gap is the payload that would begin a gap.
func gap(i int, sizes []uint64) uint64 {
	off := uint64(heap + least + front)
	for _, size := range sizes[:i] {
		off += size + least
	}
	return off
}

// P14.2: a smallest one that fits; of those of one size the first one.
func TestBestFit(t *testing.T) {
	for _, x := range []struct {
		sizes []uint64
		n     uint64
		want  int // which of them
	}{
		{[]uint64{96, 64, 80}, 8, 1}, {[]uint64{96, 64, 80}, 24, 1}, {[]uint64{96, 64, 80}, 25, 2}, {[]uint64{96, 64, 80}, 41, 0}, {[]uint64{96, 64, 80}, 57, -1},
		{[]uint64{48, 64, 80}, 0, 0}, {[]uint64{48, 64, 80}, 9, 1}, {[]uint64{80, 64, 48}, 0, 2}, {[]uint64{80, 64, 48}, 9, 1}, {[]uint64{80, 64, 48}, 40, 0},
		{[]uint64{96, 96}, 8, 0}, {[]uint64{128, 96, 96}, 8, 1}, {[]uint64{96, 128, 96}, 56, 0}, {[]uint64{64, 96, 64, 96, 64}, 30, 1}, {[]uint64{96, 64, 128, 64}, 8, 1},
		{[]uint64{48, 48, 48, 48}, 8, 0}, {[]uint64{48, 48, 48, 48}, 9, -1}, {[]uint64{80, 64, 80, 64}, 25, 0}, {[]uint64{160, 144, 128, 112}, 57, 3},
	} {
		for _, op := range []api.Op{alloc(x.n), aligned(x.n, 16), calloc(x.n, 1), calloc(1, x.n), construct("n", x.n)} {
			m := gaps(t, x.sizes...)
			if x.want < 0 {
				does(t, m, 0, op, fails(api.ErrNoMem))
			} else {
				does(t, m, 0, op, at(gap(x.want, x.sizes)))
			}
		}
	}
}

// P14.2: what stays free ahead is nothing, or a block; what is left behind is one, or the used one's.
func TestAligned(t *testing.T) {
	for _, x := range []struct {
		first, n, a uint64 // a block of first bytes stands ahead, if there are any
		want        []model.Block
	}{
		{0, 8, 16, []model.Block{used(48, 1, 8), spare(656)}},
		{0, 8, 32, []model.Block{used(48, 1, 8), spare(656)}},
		{0, 8, 64, []model.Block{spare(96), used(48, 1, 8), spare(560)}}, // 32 ahead would be too few
		{0, 9, 128, []model.Block{spare(160), used(64, 1, 9), spare(480)}},
		{0, 8, 256, []model.Block{spare(288), used(48, 1, 8), spare(368)}},
		{0, 8, 512, []model.Block{spare(288), used(48, 1, 8), spare(368)}},
		{0, 8, 1024, []model.Block{spare(288), used(48, 1, 8), spare(368)}},
		{0, 8, 2048, []model.Block{spare(288), used(48, 1, 8), spare(368)}},
		{0, 8, 4096, []model.Block{spare(288), used(48, 1, 8), spare(368)}},
		{0, 328, 4096, []model.Block{spare(288), used(368, 1, 328), spare(48)}},
		{0, 329, 4096, []model.Block{spare(288), used(416, 1, 329)}}, // 32 behind would be too few
		{0, 376, 4096, []model.Block{spare(288), used(416, 1, 376)}},
		{0, 377, 4096, nil},
		{8, 8, 16, []model.Block{used(48, 1, 8), spare(608)}},
		{8, 8, 32, []model.Block{spare(48), used(48, 1, 8), spare(560)}}, // 16 ahead would be too few
		{8, 8, 64, []model.Block{spare(48), used(48, 1, 8), spare(560)}},
		{24, 8, 64, []model.Block{spare(96), used(48, 1, 8), spare(496)}},
		{40, 8, 64, []model.Block{spare(80), used(48, 1, 8), spare(496)}},
		{56, 8, 64, []model.Block{used(48, 1, 8), spare(560)}},
		{56, 0, 128, []model.Block{spare(64), used(48, 1, 0), spare(496)}},
		{248, 8, 4096, []model.Block{used(48, 1, 8), spare(368)}},
		{248, 376, 4096, []model.Block{used(416, 1, 376)}},
		{232, 8, 4096, nil}, // what is on a multiple of 4096 would leave 16 ahead
		{232, 8, 2048, nil},
		{232, 8, 32, []model.Block{spare(48), used(48, 1, 8), spare(336)}},
	} {
		m := with(t, 4480, 4480, 0)
		var ahead []model.Block
		payload := uint64(heap + front)
		if x.first > 0 {
			does(t, m, 0, alloc(x.first), at(payload))
			ahead = m.Blocks()[:1]
			payload += ahead[0].Size
		}
		if x.want == nil {
			does(t, m, 0, aligned(x.n, x.a), fails(api.ErrNoMem))
			continue
		}
		if !x.want[0].Used {
			payload += x.want[0].Size
		}
		does(t, m, 0, aligned(x.n, x.a), at(payload))
		stands(t, "aligned", m, append(ahead, x.want...)...)
	}
}

// P14.2: a smallest block that has room for what stays free ahead, too, whether or not another one needs less ahead.
func TestAlignedBestFit(t *testing.T) {
	for _, x := range []struct {
		sizes   []uint64
		n, a    uint64
		payload uint64
	}{
		{[]uint64{96}, 8, 32, 3904}, {[]uint64{80}, 8, 32, 0}, {[]uint64{80, 96}, 8, 32, 4032}, {[]uint64{96, 64}, 8, 32, 4000},
		{[]uint64{112, 80}, 8, 32, 3904}, {[]uint64{64, 128}, 8, 32, 3968}, {[]uint64{96, 96}, 8, 32, 3904}, {[]uint64{112, 96}, 9, 32, 3904},
		{[]uint64{160, 144}, 8, 64, 4160}, {[]uint64{160, 144}, 9, 64, 3904}, {[]uint64{160, 144}, 72, 64, 3904}, {[]uint64{160, 144}, 73, 64, 0},
		{[]uint64{160, 144}, 8, 128, 3968}, {[]uint64{160, 128}, 8, 128, 3968}, {[]uint64{144, 128}, 8, 128, 4096},
	} {
		m := gaps(t, x.sizes...)
		if x.payload == 0 {
			does(t, m, 0, aligned(x.n, x.a), fails(api.ErrNoMem))
		} else {
			does(t, m, 0, aligned(x.n, x.a), at(x.payload))
		}
	}
}

// P14.2: a multiple that may not be, ahead of too many bytes, ahead of no room.
func TestAlignedErrors(t *testing.T) {
	m := ready(t)
	for _, a := range []uint64{0, 1, 2, 4, 8, 15, 17, 24, 33, 48, 63, 65, 96, 4095, 4097, 6144, 8192, 1 << 16, 1 << 32, 1<<32 + 16, 1 << 63, largest, largest - 15} {
		for _, n := range []uint64{0, 8, most, largest - 55, largest - 54, largest} {
			does(t, m, 0, aligned(n, a), fails(api.ErrArg))
		}
	}
	for a := uint64(16); a <= 4096; a *= 2 {
		for _, n := range []uint64{largest - 54, largest - 40, largest - 39, largest} {
			does(t, m, 0, aligned(n, a), fails(api.ErrSize))
		}
		for _, n := range []uint64{601, most, 1 << 32, largest - 4200, largest - 103, largest - 55} {
			does(t, m, 0, aligned(n, a), fails(api.ErrNoMem))
		}
	}
}

// P14.2
func TestCalloc(t *testing.T) {
	m := with(t, 4480, 4800, 4)
	for _, x := range []struct {
		n, a uint64
		err  api.Errno
	}{
		{largest, 2, api.ErrSize}, {2, largest, api.ErrSize}, {1 << 32, 1 << 32, api.ErrSize}, {1 << 33, 1 << 33, api.ErrSize}, {1 << 63, 2, api.ErrSize}, {largest, largest, api.ErrSize}, {3, 1<<63 + 8, api.ErrSize},
		{largest, 1, api.ErrSize}, {1, largest, api.ErrSize}, {1<<32 - 1, 1<<32 + 1, api.ErrSize}, {1, largest - 54, api.ErrSize}, {1 << 31, 1 << 31, api.ErrNoMem}, {1, largest - 55, api.ErrNoMem},
		{84, 8, api.ErrNoMem}, {5, 133, api.ErrNoMem}, {665, 1, api.ErrNoMem}, {1, 665, api.ErrNoMem},
	} {
		does(t, m, 4, calloc(x.n, x.a), fails(x.err))
	}
	does(t, m, 4, calloc(3, 8), at(3808))
	does(t, m, 4, calloc(0, largest), at(3872))
	does(t, m, 4, calloc(largest, 0), at(3920))
	does(t, m, 4, calloc(3, 3), at(3968))
	does(t, m, 4, calloc(24, 1), at(4032)) // 24 is no multiple of what a block is on
	stands(t, "taken", m, used(64, 5, 24), used(48, 5, 0), used(48, 5, 0), used(64, 5, 9), used(64, 5, 24), spare(416))
	does(t, m, 4, calloc(47, 8), at(4096))
	does(t, m, 4, calloc(0, 0), fails(api.ErrNoMem))
}

// P14.2: where a block has room for it, it stays; what it had it has, and what is new is 0.
func TestReallocWhereItStands(t *testing.T) {
	m := with(t, 4480, 4800, 0, 1)
	does(t, m, 0, alloc(24), at(3808))
	does(t, m, 1, alloc(8), at(3872))
	for i := range uint64(3) {
		does(t, m, 0, write(3808, i, i+11), done())
	}
	behind := []model.Block{used(48, 2, 8), spare(592)}
	for _, x := range []struct {
		n uint64
		b model.Block
	}{
		{24, used(64, 1, 24, 11, 12, 13)}, {23, used(64, 1, 23, 11, 12, 13)}, {17, used(64, 1, 17, 11, 12, 13)}, {24, used(64, 1, 24, 11, 12, 13)}, {16, used(64, 1, 16, 11, 12)},
		{17, used(64, 1, 17, 11, 12, 0)}, {9, used(64, 1, 9, 11, 12)}, {8, used(64, 1, 8, 11)}, {24, used(64, 1, 24, 11)}, {1, used(64, 1, 1, 11)}, {0, used(64, 1, 0)}, {24, used(64, 1, 24)},
	} {
		does(t, m, 0, realloc(3808, x.n), at(3808))
		stands(t, "stays", m, append([]model.Block{x.b}, behind...)...)
	}
}

// P14.2: what is cut off is free, if it is a block; what a block has beyond its need is its own, to the last byte.
func TestReallocCuts(t *testing.T) {
	m := with(t, 4000, 4000, 6)
	does(t, m, 6, alloc(137), at(3808)) // it needs 192, and has 224
	does(t, m, 6, write(3808, 0, 21), done())
	does(t, m, 6, write(3808, 17, 22), done())
	words := append(append([]uint64{21}, make([]uint64, 16)...), 22)
	for _, n := range []uint64{138, 152, 153, 168, 169, 184, 137} {
		does(t, m, 6, realloc(3808, n), at(3808))
		stands(t, "has room", m, used(224, 7, n, words...))
	}
	does(t, m, 6, realloc(3808, 185), fails(api.ErrNoMem))
	does(t, m, 6, realloc(3808, largest-55), fails(api.ErrNoMem))
	does(t, m, 6, realloc(3808, largest-54), fails(api.ErrSize))
	does(t, m, 6, realloc(3808, 136), at(3808))
	stands(t, "cut", m, used(176, 7, 136, words[:17]...), spare(48))
	does(t, m, 6, realloc(3808, 105), at(3808)) // 16 would be cut off
	stands(t, "too few", m, used(176, 7, 105, 21), spare(48))
	does(t, m, 6, realloc(3808, 89), at(3808)) // 32 would be
	stands(t, "too few", m, used(176, 7, 89, 21), spare(48))
	does(t, m, 6, realloc(3808, 88), at(3808))
	stands(t, "one free block", m, used(128, 7, 88, 21), spare(96))
	does(t, m, 6, alloc(56), at(3936))
	does(t, m, 6, realloc(3808, 40), at(3808))
	stands(t, "a used one behind", m, used(80, 7, 40, 21), spare(48), used(96, 7, 56))
	does(t, m, 6, realloc(3808, 0), at(3808))
	stands(t, "no bytes", m, used(80, 7, 0), spare(48), used(96, 7, 56))
	does(t, m, 6, realloc(3808, 8), at(3808))
	stands(t, "new ones are 0", m, used(80, 7, 8), spare(48), used(96, 7, 56))
	does(t, m, 6, realloc(3936, 8), at(3936))
	stands(t, "the last one", m, used(80, 7, 8), spare(48), used(48, 7, 8), spare(48))
}

// P14.2: else it stands in a smallest free block, also the one right behind it, which isn't one with it; what it had is there, and what is new is 0.
func TestReallocMoves(t *testing.T) {
	m := with(t, 4480, 4800, 0, 3)
	does(t, m, 3, alloc(16), at(3808))
	does(t, m, 3, write(3808, 0, 31), done())
	does(t, m, 3, write(3808, 1, 32), done())
	does(t, m, 3, realloc(3808, 25), at(3872))
	stands(t, "into the one behind", m, spare(64), used(80, 4, 25, 31, 32), spare(560))
	does(t, m, 3, write(3872, 3, 34), done())
	does(t, m, 0, alloc(400), at(3952))
	stands(t, "most are taken", m, spare(64), used(80, 4, 25, 31, 32, 0, 34), used(448, 1, 400), spare(112))
	does(t, m, 3, realloc(3872, 41), at(4400))
	stands(t, "all of what is behind", m, spare(144), used(448, 1, 400), used(112, 4, 41, 31, 32, 0, 34))
	does(t, m, 3, realloc(4400, 73), at(3808))
	stands(t, "ahead", m, used(144, 4, 73, 31, 32, 0, 34), used(448, 1, 400), spare(112))
	for _, n := range []uint64{105, 200, most, 1 << 32, largest - 55} {
		does(t, m, 3, realloc(3808, n), fails(api.ErrNoMem))
	}
	for _, n := range []uint64{largest - 54, largest - 40, largest - 39, largest} {
		does(t, m, 3, realloc(3808, n), fails(api.ErrSize))
	}
	stands(t, "nothing fits", m, used(144, 4, 73, 31, 32, 0, 34), used(448, 1, 400), spare(112))
}

// P14.2: the old block is one with the free ones on both of its sides, but is none that could be taken.
func TestReallocFreesTheOldOne(t *testing.T) {
	m := gaps(t, 64, 64, 208)
	does(t, m, 0, write(3920, 0, 9), done())
	does(t, m, 0, realloc(3920, 100), at(gap(2, []uint64{64, 64, 208})))
	stands(t, "both sides", m, used(48, 1, 8), spare(176), used(48, 1, 8), used(144, 1, 100, 9), spare(64), used(48, 1, 8))
	m = gaps(t, 64, 64)
	does(t, m, 0, realloc(3920, 25), fails(api.ErrNoMem)) // all three would have 176
	does(t, m, 0, realloc(3920, 24), at(3856))
	stands(t, "into the one ahead", m, used(48, 1, 8), used(64, 1, 24), spare(112), used(48, 1, 8))
	m = with(t, 4000, 4000, 0)
	does(t, m, 0, alloc(72), at(3808)) // 112 of 224
	does(t, m, 0, realloc(3808, 73), fails(api.ErrNoMem))
	does(t, m, 0, realloc(3808, 72), at(3808))
}

// owned is a state with blocks of the clients 0 and 1, and of everybody, and with free ones: 3808 is 0's, of 100 bytes, 3952 and 4176 are 1's, 4000 is the name n's, 4048 was 0's and is published, of 9 bytes; 4112 and 4224 are free ones'.
func owned(t *testing.T) *model.State {
	t.Helper()
	m := with(t, 4480, 4800, 0, 1, 2)
	does(t, m, 0, alloc(100), at(3808))
	does(t, m, 1, alloc(8), at(3952))
	does(t, m, 0, construct("n", 8), at(4000))
	does(t, m, 0, alloc(9), at(4048))
	does(t, m, 0, alloc(24), at(4112))
	does(t, m, 1, alloc(8), at(4176))
	does(t, m, 0, publish(4048), done())
	does(t, m, 0, free(4112), done())
	stands(t, "owned", m, used(144, 1, 100), used(48, 2, 8), used(48, 0, 8), used(64, 0, 9), spare(64), used(48, 2, 8), spare(288))
	return m
}

// asking are operations of each Kind that asks for a block: such as could be done with any of owned's, and such as couldn't.
func asking(off uint64) []api.Op {
	return []api.Op{
		realloc(off, 8), realloc(off, 300), realloc(off, largest), free(off), write(off, 0, 5), write(off, largest, 5), read(off, 0), read(off, largest),
		publish(off), give(off, 1), give(off, 2), give(off, 7), give(off, 8), give(off, -1),
	}
}

// P14.2: what is no used block's payload is nobody's, whatever else is wrong.
func TestNoPayload(t *testing.T) {
	m := owned(t)
	offs := []uint64{5000, 6000, most, most + 3808, 1<<32 + 3808, 1<<63 + 3808, 1 << 63, 1<<32 + 4000, largest, largest - 7, largest - 15, largest - 30, largest - 31, largest - 32}
	for off := range uint64(4900) {
		if !slices.Contains([]uint64{3808, 3952, 4000, 4048, 4176}, off) && (off%8 == 0 || off > 3700) {
			offs = append(offs, off)
		}
	}
	for _, off := range offs {
		for _, op := range asking(off) {
			does(t, m, 0, op, fails(api.ErrBad))
		}
	}
	// What is free now isn't any more one that was there.
	does(t, m, 0, free(3808), done())
	does(t, m, 1, free(3952), done())
	for _, off := range []uint64{3808, 3952} {
		for _, op := range append(asking(off), free(off)) {
			does(t, m, 1, op, fails(api.ErrBad))
		}
	}
}

// P14.2: whose it must be, whatever else is wrong.
func TestOwners(t *testing.T) {
	m := owned(t)
	for _, x := range []struct {
		c   int
		off uint64
	}{{0, 3952}, {0, 4176}, {1, 3808}, {2, 3808}, {2, 3952}, {2, 4176}} {
		for _, op := range asking(x.off) {
			does(t, m, x.c, op, fails(api.ErrOwner))
		}
	}
	for c := range 3 { // also who published it
		for _, off := range []uint64{4000, 4048} {
			for _, op := range asking(off) {
				switch op.Kind {
				case api.Realloc, api.Publish, api.Give:
					does(t, m, c, op, fails(api.ErrOwner))
				}
			}
		}
		v := uint64(c) + 5
		does(t, m, c, write(4000, 0, v), done())
		does(t, m, c, write(4048, 1, v), done())
		does(t, m, (c+1)%3, read(4000, 0), says(v))
		does(t, m, (c+2)%3, read(4048, 1), says(v))
		does(t, m, c, free(4000), fails(api.ErrThere))
		does(t, m, c, write(4000, 1, v), fails(api.ErrArg))
		does(t, m, c, read(4048, 2), fails(api.ErrArg))
	}
	stands(t, "written", m, used(144, 1, 100), used(48, 2, 8), used(48, 0, 8, 7), used(64, 0, 9, 0, 7), spare(64), used(48, 2, 8), spare(288))
	does(t, m, 2, free(4048), done()) // everybody may
	stands(t, "freed", m, used(144, 1, 100), used(48, 2, 8), used(48, 0, 8, 7), spare(128), used(48, 2, 8), spare(288))
}

// P14.2: what is freed is one block with the free ones on both of its sides.
func TestFree(t *testing.T) {
	for _, x := range []struct {
		turn []uint64
		want []model.Block
	}{
		{[]uint64{3856}, []model.Block{used(48, 1, 8), spare(64), used(80, 1, 40), used(96, 1, 56), spare(48)}},
		{[]uint64{3808}, []model.Block{spare(48), used(64, 1, 24), used(80, 1, 40), used(96, 1, 56), spare(48)}},
		{[]uint64{4000}, []model.Block{used(48, 1, 8), used(64, 1, 24), used(80, 1, 40), spare(144)}},
		{[]uint64{3808, 3856}, []model.Block{spare(112), used(80, 1, 40), used(96, 1, 56), spare(48)}},
		{[]uint64{3856, 3808}, []model.Block{spare(112), used(80, 1, 40), used(96, 1, 56), spare(48)}},
		{[]uint64{3808, 3920}, []model.Block{spare(48), used(64, 1, 24), spare(80), used(96, 1, 56), spare(48)}},
		{[]uint64{3808, 3920, 3856}, []model.Block{spare(192), used(96, 1, 56), spare(48)}},
		{[]uint64{3856, 4000}, []model.Block{used(48, 1, 8), spare(64), used(80, 1, 40), spare(144)}},
		{[]uint64{3856, 4000, 3920}, []model.Block{used(48, 1, 8), spare(288)}},
		{[]uint64{3808, 3856, 3920, 4000}, []model.Block{spare(336)}},
		{[]uint64{4000, 3808, 3920, 3856}, []model.Block{spare(336)}},
	} {
		m := with(t, heap+336, 4800, 0)
		for _, y := range [][2]uint64{{8, 3808}, {24, 3856}, {40, 3920}, {56, 4000}} {
			does(t, m, 0, alloc(y[0]), at(y[1]))
		}
		for _, off := range x.turn {
			does(t, m, 0, free(off), done())
			does(t, m, 0, free(off), fails(api.ErrBad))
		}
		stands(t, "freed", m, x.want...)
	}
}

// P14.2: what a name stands for isn't freed as long as it does.
func TestFreeOfNamed(t *testing.T) {
	m := with(t, 4480, 4800, 0, 1)
	for i, name := range []string{"a", "b", "c"} {
		does(t, m, 0, construct(name, 8), at(3808+48*uint64(i)))
	}
	for i := range uint64(3) {
		does(t, m, 0, free(3808+48*i), fails(api.ErrThere))
		does(t, m, 1, free(3808+48*i), fails(api.ErrThere))
	}
	does(t, m, 1, destroy("b"), done())
	does(t, m, 1, free(3856), fails(api.ErrBad))
	does(t, m, 1, alloc(8), at(3856)) // no name stands for what is there now
	does(t, m, 1, publish(3856), done())
	does(t, m, 0, free(3856), done())
	does(t, m, 0, free(3808), fails(api.ErrThere))
	does(t, m, 0, free(3904), fails(api.ErrThere))
}

// P14.2: each word of a block, and none behind it.
func TestWriteAndRead(t *testing.T) {
	for _, x := range []struct{ n, words uint64 }{{0, 0}, {1, 1}, {7, 1}, {8, 1}, {9, 2}, {16, 2}, {17, 3}, {24, 3}, {100, 13}, {184, 23}} {
		m := with(t, 4000, 4000, 1, 2)
		does(t, m, 1, alloc(x.n), at(3808))
		for _, i := range []uint64{x.words, x.words + 1, x.words + 8, 1 << 32, 1 << 61, 1 << 63, largest, largest - 7} {
			does(t, m, 1, write(3808, i, 5), fails(api.ErrArg))
			does(t, m, 1, read(3808, i), fails(api.ErrArg))
		}
		var l []uint64
		for i := range x.words {
			does(t, m, 1, read(3808, i), says(0))
			does(t, m, 1, write(3808, i, largest-i), done())
			does(t, m, 1, read(3808, i), says(largest-i))
			l = append(l, largest-i)
		}
		size := max(48, (x.n+55)/16*16)
		want := []model.Block{used(size, 2, x.n, l...), spare(224 - size)}
		if size > 176 {
			want = []model.Block{used(224, 2, x.n, l...)}
		}
		stands(t, "written", m, want...)
	}
}

// P14.2: a word of one block is no other one's; the others of its own stay.
func TestWriteOfOneWord(t *testing.T) {
	m := with(t, 4480, 4800, 0)
	for i := range uint64(4) {
		does(t, m, 0, alloc(24), at(3808+64*i))
	}
	l := []model.Block{used(64, 1, 24), used(64, 1, 24), used(64, 1, 24), used(64, 1, 24), spare(448)}
	for _, i := range []uint64{5, 0, 11, 6, 3, 2, 9, 10, 1, 4, 8, 7, 5, 5, 0} {
		v := i*1000 + 1
		does(t, m, 0, write(3808+64*(i/3), i%3, v), done())
		l[i/3].Data[i%3] = v
		stands(t, "written", m, l...)
	}
	does(t, m, 0, write(3872, 1, 0), done())
	l[1].Data[1] = 0
	stands(t, "0 is a word", m, l...)
}

// P14.2
func TestPublish(t *testing.T) {
	m := with(t, 4480, 4800, 0, 1)
	does(t, m, 0, alloc(16), at(3808))
	does(t, m, 1, alloc(8), at(3872))
	does(t, m, 0, write(3808, 1, 5), done())
	does(t, m, 0, publish(3872), fails(api.ErrOwner))
	does(t, m, 0, publish(3808), done())
	stands(t, "published", m, used(64, 0, 16, 0, 5), used(48, 2, 8), spare(592))
	does(t, m, 0, publish(3808), fails(api.ErrOwner))
	does(t, m, 1, publish(3808), fails(api.ErrOwner))
	does(t, m, 1, publish(3872), done())
	stands(t, "both are", m, used(64, 0, 16, 0, 5), used(48, 0, 8), spare(592))
	does(t, m, 1, read(3808, 1), says(5))
	does(t, m, 0, detach(), done())
	does(t, m, 1, free(3808), done())
}

// P14.2
func TestGive(t *testing.T) {
	m := with(t, 4480, 4800, 0, 1, 7)
	does(t, m, 0, alloc(16), at(3808))
	does(t, m, 0, alloc(8), at(3872))
	does(t, m, 0, write(3808, 1, 5), done())
	for _, to := range []int{-1, 8, 9, -8, 256, 1 << 32, 1<<32 + 1, math.MaxInt, math.MinInt} {
		does(t, m, 0, give(3808, to), fails(api.ErrArg))
		does(t, m, 1, give(3808, to), fails(api.ErrOwner))
		does(t, m, 0, give(3809, to), fails(api.ErrBad))
	}
	for to := 2; to < 7; to++ {
		does(t, m, 0, give(3808, to), fails(api.ErrNone))
		does(t, m, 1, give(3808, to), fails(api.ErrOwner))
		does(t, m, 0, give(3809, to), fails(api.ErrBad))
	}
	does(t, m, 0, give(3808, 0), done())
	stands(t, "to oneself", m, used(64, 1, 16, 0, 5), used(48, 1, 8), spare(592))
	does(t, m, 0, give(3808, 7), done())
	stands(t, "given", m, used(64, 8, 16, 0, 5), used(48, 1, 8), spare(592))
	does(t, m, 0, give(3808, 0), fails(api.ErrOwner))
	does(t, m, 0, read(3808, 1), fails(api.ErrOwner))
	does(t, m, 7, read(3808, 1), says(5))
	does(t, m, 7, give(3808, 1), done())
	stands(t, "given on", m, used(64, 2, 16, 0, 5), used(48, 1, 8), spare(592))
	does(t, m, 7, detach(), done())
	does(t, m, 1, give(3808, 7), fails(api.ErrNone))
	dies(t, m, 0)
	does(t, m, 1, give(3808, 0), fails(api.ErrNone))
	stands(t, "not to the dead", m, used(64, 2, 16, 0, 5), spare(640))
	does(t, m, 1, publish(3808), done())
	does(t, m, 1, give(3808, 1), fails(api.ErrOwner))
}

// noNames are no names; names are some that are.
func noNames() []string {
	return []string{"", strings.Repeat("a", 16), strings.Repeat("\x00", 16), strings.Repeat("b", 17), strings.Repeat("c", 255), strings.Repeat("d", 256), strings.Repeat("e", 257), strings.Repeat("f", 1<<16+1)}
}

func names() []string {
	return []string{"\x00", "\x00\x00", "a", "a\x00", "ab", "b", strings.Repeat("a", 14), strings.Repeat("a", 15), strings.Repeat("a", 14) + "b", strings.Repeat("\xff", 15), "\xff", "1234567", "12345678", "123456789", "\xe4\xb8\x96", "\xe4\xb8"}
}

// P14.2: each name is another one, and each client finds it.
func TestConstructFindDestroy(t *testing.T) {
	m := with(t, 4800, 4800, 0, 1)
	for i, name := range names() {
		does(t, m, i%2, find(name), fails(api.ErrNone))
		does(t, m, i%2, destroy(name), fails(api.ErrNone))
		does(t, m, i%2, construct(name, 8), at(3808+48*uint64(i)))
		does(t, m, i%2, construct(name, 8), fails(api.ErrThere))
	}
	for i, name := range names() {
		off := 3808 + 48*uint64(i)
		does(t, m, 0, find(name), at(off))
		does(t, m, 1, find(name), at(off))
		does(t, m, 1, write(off, 0, 99), done())
		does(t, m, 1-i%2, destroy(name), done()) // also who didn't construct it
		does(t, m, 0, find(name), fails(api.ErrNone))
		does(t, m, 0, destroy(name), fails(api.ErrNone))
		does(t, m, 0, read(off, 0), fails(api.ErrBad))
		if len(m.Entries()) != 15-i {
			t.Errorf("without %q: %+v", name, m.Entries())
		}
	}
	stands(t, "all are gone", m, spare(1024))
	does(t, m, 0, construct("a", 20), at(3808)) // again, and with words of 0
	stands(t, "again", m, used(64, 0, 20), spare(960))
}

// P14.2: what is no name, whatever else is wrong.
func TestNoName(t *testing.T) {
	few, full := with(t, 4800, 4800, 0), with(t, 4800, 4800, 0)
	for i, name := range names() {
		does(t, full, 0, construct(name, 8), at(3808+48*uint64(i)))
	}
	for _, m := range []*model.State{few, full} {
		for _, name := range noNames() {
			for _, n := range []uint64{0, 8, 2000, largest - 55, largest} {
				does(t, m, 0, construct(name, n), fails(api.ErrName))
			}
			does(t, m, 0, find(name), fails(api.ErrName))
			does(t, m, 0, destroy(name), fails(api.ErrName))
		}
	}
}

// P14.2: which error comes first: the name is there, there are sixteen, too many bytes, no room.
func TestConstructErrors(t *testing.T) {
	m := with(t, 4800, 4800, 0)
	for i, name := range names() {
		for _, n := range []uint64{largest - 54, largest} {
			does(t, m, 0, construct(name, n), fails(api.ErrSize))
		}
		for _, n := range []uint64{1024 - 48*uint64(i) - 39, 5000, largest - 55} {
			does(t, m, 0, construct(name, n), fails(api.ErrNoMem))
		}
		does(t, m, 0, construct(name, 8), at(3808+48*uint64(i)))
		for _, n := range []uint64{0, 8, 5000, largest - 55, largest - 54, largest} {
			does(t, m, 0, construct(name, n), fails(api.ErrThere))
		}
	}
	for _, n := range []uint64{0, 8, 216, 217, 5000, largest - 55, largest - 54, largest} {
		does(t, m, 0, construct("the seventeenth", n), fails(api.ErrFull))
		does(t, m, 0, construct("b", n), fails(api.ErrThere))
	}
	does(t, m, 0, destroy("ab"), done())
	does(t, m, 0, construct("the seventeenth", 217), fails(api.ErrNoMem))
	does(t, m, 0, construct("the seventeenth", 216), at(4576))
	does(t, m, 0, construct("ab", 8), fails(api.ErrFull))
	does(t, m, 0, find("the seventeenth"), at(4576))
}

// P14.2: what a name stands for is one block with the free ones beside it, when it is destroyed.
func TestDestroyFrees(t *testing.T) {
	m := with(t, 4480, 4800, 0)
	for i, name := range []string{"a", "b", "c", "d"} {
		does(t, m, 0, construct(name, 8), at(3808+48*uint64(i)))
	}
	does(t, m, 0, destroy("a"), done())
	does(t, m, 0, destroy("c"), done())
	stands(t, "two", m, spare(48), used(48, 0, 8), spare(48), used(48, 0, 8), spare(512))
	does(t, m, 0, destroy("b"), done())
	stands(t, "both sides", m, spare(144), used(48, 0, 8), spare(512))
	same(t, "d is left", look(m), view{4480, laid(spare(144), used(48, 0, 8), spare(512)), []model.Entry{{Name: "d", Off: 3952}}, []int{0}})
}

// P14.2
func TestGrow(t *testing.T) {
	m := with(t, 4000, 4800, 0)
	for _, n := range []uint64{0, 1, 8, 15, 16, 32, 47, 49, 56, 63, 72, 100, 4800, 1<<32 + 8, largest, largest - 7} {
		if n != 4800 {
			does(t, m, 0, grow(n), fails(api.ErrArg)) // also of more than all
		}
	}
	for _, n := range []uint64{816, 832, 4000, 4800, most, 1 << 32, 1 << 63, largest - 15, largest - 3999, largest - 3983} {
		does(t, m, 0, grow(n), fails(api.ErrNoMem))
	}
	does(t, m, 0, grow(48), done())
	stands(t, "behind a free one", m, spare(272))
	does(t, m, 0, alloc(232), at(3808))
	does(t, m, 0, grow(64), done())
	stands(t, "behind a used one", m, used(272, 1, 232), spare(64))
	does(t, m, 0, grow(704), fails(api.ErrNoMem))
	does(t, m, 0, alloc(24), at(4080))
	does(t, m, 0, free(3808), done())
	does(t, m, 0, grow(688), done())
	stands(t, "up to all", m, spare(272), used(64, 1, 24), spare(688))
	if m.Size() != 4800 {
		t.Errorf("Size: %d", m.Size())
	}
	for _, n := range []uint64{48, 64, most, largest - 15, largest - 4799} {
		does(t, m, 0, grow(n), fails(api.ErrNoMem))
	}
	does(t, m, 0, grow(16), fails(api.ErrArg))
}

// P14.2: all needn't be a multiple of what the heap's end is one of.
func TestGrowUpToAll(t *testing.T) {
	for _, x := range []struct {
		all, n uint64
		err    api.Errno
	}{{4048, 48, 0}, {4040, 48, api.ErrNoMem}, {4056, 48, 0}, {4056, 64, api.ErrNoMem}, {4000, 48, api.ErrNoMem}, {4008, 48, api.ErrNoMem}, {most, most - 4000, 0}, {most - 8, most - 4000, api.ErrNoMem}, {most - 8, most - 4016, 0}} {
		m := with(t, 4000, x.all, 5)
		does(t, m, 5, grow(x.n), fails(x.err))
		if x.err == api.OK {
			stands(t, "grown", m, spare(224+x.n))
		}
	}
}

// P14.4: each operation, with each argument, of a client with no blocks, and of one with some; does asks that no other one's block is another, sound that the blocks' sizes are the heap.
func TestContained(t *testing.T) {
	for _, c := range []int{0, 1, 2} {
		for kind := 1; kind <= 15; kind++ {
			m := owned(t)
			does(t, m, 0, write(3808, 12, 41), done())
			does(t, m, 1, write(3952, 0, 42), done())
			does(t, m, 1, write(4176, 0, 43), done())
			was := look(m)
			for off := uint64(heap); off < 4500; off += 8 {
				for _, n := range []uint64{0, 8, 64, 128, largest} {
					for _, to := range []int{0, 2} {
						m.Do(c, api.Op{Kind: kind, N: n, A: 64, Off: off, I: n / 64, V: 99, To: to, Name: "n"})
						now := look(m)
						sound(t, "contained", now)
						stay(t, "contained", was, now, func(owner int) bool { return owner != 0 && owner != c+1 })
						if t.Failed() {
							t.Fatalf("kind %d of the client %d at %d", kind, c, off)
						}
					}
				}
			}
		}
	}
}

// P14.3
func TestKill(t *testing.T) {
	m := with(t, 4480, 4800, 0, 1, 2, 3)
	for i, c := range []int{0, 1, 0, 0, 1, 0} {
		does(t, m, c, alloc(8), at(3808+48*uint64(i)))
		does(t, m, c, write(3808+48*uint64(i), 0, uint64(i)+40), done())
	}
	does(t, m, 0, construct("n", 8), at(4096))
	does(t, m, 0, write(4096, 0, 46), done())
	does(t, m, 0, alloc(8), at(4144))
	does(t, m, 0, publish(4144), done())
	does(t, m, 0, alloc(8), at(4192))
	does(t, m, 0, give(4192, 2), done())
	does(t, m, 2, alloc(8), at(4240))
	does(t, m, 2, give(4240, 0), done())
	was := []model.Block{used(48, 1, 8, 40), used(48, 2, 8, 41), used(48, 1, 8, 42), used(48, 1, 8, 43), used(48, 2, 8, 44), used(48, 1, 8, 45), used(48, 0, 8, 46), used(48, 0, 8), used(48, 3, 8), used(48, 1, 8), spare(224)}
	stands(t, "ahead", m, was...)
	for _, c := range []int{-1, 8, 9, 256, 1 << 32, math.MaxInt, math.MinInt, 4, 5, 6, 7} { // none that there is; none that is live
		dies(t, m, c)
		stands(t, "of none", m, was...)
	}
	dies(t, m, 3)
	stands(t, "with no blocks", m, was...)
	dies(t, m, 0)
	stands(t, "with many blocks", m, spare(48), used(48, 2, 8, 41), spare(96), used(48, 2, 8, 44), spare(48), used(48, 0, 8, 46), used(48, 0, 8), used(48, 3, 8), spare(272))
	same(t, "names stay", look(m), view{4480, m.Blocks(), []model.Entry{{Name: "n", Off: 4096}}, []int{1, 2}})
	dies(t, m, 0) // again
	does(t, m, 1, find("n"), at(4096))
	does(t, m, 1, read(4096, 0), says(46))
	does(t, m, 1, free(4144), done())
	does(t, m, 0, attach(), done())
	does(t, m, 0, detach(), done()) // it has no blocks any more
	dies(t, m, 2)
	dies(t, m, 1)
	stands(t, "one is left", m, spare(288), used(48, 0, 8, 46), spare(368))
	same(t, "nobody lives", look(m), view{4480, m.Blocks(), []model.Entry{{Name: "n", Off: 4096}}, nil})
	does(t, m, 7, attach(), done())
	does(t, m, 7, destroy("n"), done())
	stands(t, "all is free", m, spare(704))
}

// P14.3: a client that has all that there is.
func TestKillOfMany(t *testing.T) {
	m := with(t, most, most, 0, 1)
	n := 0
	for m.Do(n%2, alloc(8)).Err == api.OK {
		n++
	}
	if want := (most - heap) / least; n != want || len(m.Blocks()) != want {
		t.Fatalf("%d blocks, not %d", n, want)
	}
	dies(t, m, 0)
	if l := m.Blocks(); len(l) != n || l[0].Used || !l[1].Used || l[1].Owner != 2 {
		t.Errorf("%d blocks", len(l))
	}
	dies(t, m, 1)
	stands(t, "all is free", m, spare(most-heap))
}

// P14.3
func TestNil(t *testing.T) {
	var m *model.State
	for _, c := range []int{0, 7, 8, -1, 1 << 32, math.MinInt} {
		for _, op := range append(append(each(), wrong()...), api.Op{}, api.Op{Kind: 16}, api.Op{Kind: -1}) {
			if got := m.Do(c, op); got != fails(api.ErrArg) {
				t.Errorf("Do(%d, %+v): %+v", c, op, got)
			}
		}
		m.Kill(c)
	}
	same(t, "nil", look(m), view{})
}
