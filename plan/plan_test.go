package plan_test

import (
	"slices"
	"strconv"
	"strings"
	"testing"

	"carrack/api"
	"carrack/carve"
	"carrack/client"
	"carrack/dir"
	"carrack/head"
	"carrack/plan"
	"carrack/release"
	"carrack/resize"
	"carrack/seg"
	"carrack/tx"
)

func failed(err api.Errno) api.Res { return api.Res{Err: err} }

func at(off uint64) api.Res { return api.Res{Off: off} }

func alloc(n uint64) api.Op { return api.Op{Kind: api.Alloc, N: n} }

func aligned(n, a uint64) api.Op { return api.Op{Kind: api.Aligned, N: n, A: a} }

func calloc(n, a uint64) api.Op { return api.Op{Kind: api.Calloc, N: n, A: a} }

func realloc(off, n uint64) api.Op { return api.Op{Kind: api.Realloc, Off: off, N: n} }

func free(off uint64) api.Op { return api.Op{Kind: api.Free, Off: off} }

func write(off, i, v uint64) api.Op { return api.Op{Kind: api.Write, Off: off, I: i, V: v} }

func read(off, i uint64) api.Op { return api.Op{Kind: api.Read, Off: off, I: i} }

func construct(name string, n uint64) api.Op {
	return api.Op{Kind: api.Construct, Name: name, N: n}
}

func find(name string) api.Op { return api.Op{Kind: api.Find, Name: name} }

func destroy(name string) api.Op { return api.Op{Kind: api.Destroy, Name: name} }

func publish(off uint64) api.Op { return api.Op{Kind: api.Publish, Off: off} }

func give(off uint64, to int) api.Op { return api.Op{Kind: api.Give, Off: off, To: to} }

func grow(n uint64) api.Op { return api.Op{Kind: api.Grow, N: n} }

func detach() api.Op { return api.Op{Kind: api.Detach} }

func attach() api.Op { return api.Op{Kind: api.Attach} }

// planned is a plan of which some words are asked for.
type planned struct {
	t  *testing.T
	of api.Op
	plan.Plan
}

// plans does an operation that should tell something, and tells its plan.
func (p *pair) plans(t *testing.T, c int, op api.Op, want api.Res) planned {
	t.Helper()
	got := plan.Make(p.s, c, op)
	p.does(t, c, op, want)
	return planned{t, op, got}
}

func (p planned) in(name string, l []api.Put, words []api.Put) {
	p.t.Helper()
	for _, w := range words {
		if !slices.Contains(l, w) {
			p.t.Errorf("%+v: %+v isn't in %s, which is %+v", p.of, w, name, l)
		}
	}
}

func (p planned) pre(words ...api.Put) planned { p.t.Helper(); p.in("Pre", p.Pre, words); return p }

func (p planned) log(words ...api.Put) planned { p.t.Helper(); p.in("Log", p.Log, words); return p }

func (p planned) tree(words ...api.Put) planned { p.t.Helper(); p.in("Tree", p.Tree, words); return p }

// blocks is a heap of 704 bytes: 24 bytes of the client 0 (3808), 8 of the client 1 (3872), 8 of everybody's (3920), and 8 that "anchor" stands for (3968); 496 bytes are free.
func blocks(t *testing.T) *pair {
	t.Helper()
	p := with(t, 4480, 4800, []int{0, 1, 7}, alloc(24))
	p.does(t, 1, alloc(8), at(3872))
	p.does(t, 0, alloc(8), at(3920))
	p.does(t, 0, publish(3920), api.Res{})
	p.does(t, 7, construct("anchor", 8), at(3968))
	return p
}

// P15.1: each error of each Kind, also where others hold, too; nothing is stored then.
func TestErrors(t *testing.T) {
	p := blocks(t)
	for _, kind := range []int{0, 16, -1, 17, -1 << 63, 1<<63 - 1} {
		for _, c := range []int{-1, 0, 2, 7, 8} {
			p.does(t, c, api.Op{Kind: kind, N: 8, A: 16, Off: 3808, Name: "anchor"}, failed(api.ErrArg))
		}
	}
	for kind := 1; kind <= 15; kind++ {
		for _, c := range []int{-1, 8, 9, -1 << 63, 1<<63 - 1} {
			p.does(t, c, api.Op{Kind: kind, N: 8, A: 16, Off: 3808, Name: "anchor"}, failed(api.ErrArg))
		}
		if kind != api.Attach {
			p.does(t, 2, api.Op{Kind: kind, N: largest, A: 8, Off: 1, To: 8}, failed(api.ErrClient))
		}
	}
	for _, x := range []struct {
		op   api.Op
		want api.Errno
	}{
		{alloc(largest), api.ErrSize},
		{alloc(largest - 54), api.ErrSize},
		{alloc(largest - 55), api.ErrNoMem},
		{alloc(457), api.ErrNoMem},
		{aligned(largest, 8), api.ErrArg},
		{aligned(8, 0), api.ErrArg},
		{aligned(8, 48), api.ErrArg},
		{aligned(8, 8192), api.ErrArg},
		{aligned(largest, 16), api.ErrSize},
		{aligned(457, 16), api.ErrNoMem},
		{aligned(377, 4096), api.ErrNoMem},
		{calloc(1<<32, 1<<32), api.ErrSize},
		{calloc(largest, 1), api.ErrSize},
		{calloc(229, 2), api.ErrNoMem},
		{realloc(0, largest), api.ErrBad},
		{realloc(3776, 8), api.ErrBad},
		{realloc(4016, 8), api.ErrBad},
		{realloc(3872, largest), api.ErrOwner},
		{realloc(3920, 8), api.ErrOwner},
		{realloc(3808, largest), api.ErrSize},
		{realloc(3808, 457), api.ErrNoMem},
		{free(0), api.ErrBad},
		{free(3809), api.ErrBad},
		{free(4016), api.ErrBad},
		{free(4512), api.ErrBad},
		{free(largest), api.ErrBad},
		{free(3872), api.ErrOwner},
		{free(3968), api.ErrThere},
		{write(3840, 9, 1), api.ErrBad},
		{write(3872, 9, 1), api.ErrOwner},
		{write(3808, 3, 1), api.ErrArg},
		{write(3808, 1<<61, 1), api.ErrArg},
		{write(3920, 1, 1), api.ErrArg},
		{read(3840, 9), api.ErrBad},
		{read(3872, 9), api.ErrOwner},
		{read(3808, 3), api.ErrArg},
		{read(3808, largest), api.ErrArg},
		{publish(4016), api.ErrBad},
		{publish(3872), api.ErrOwner},
		{publish(3920), api.ErrOwner},
		{publish(3968), api.ErrOwner},
		{give(4016, 8), api.ErrBad},
		{give(3872, 8), api.ErrOwner},
		{give(3920, 2), api.ErrOwner},
		{give(3808, 8), api.ErrArg},
		{give(3808, -1), api.ErrArg},
		{give(3808, 1<<32+1), api.ErrArg},
		{give(3808, 2), api.ErrNone},
		{construct("", largest), api.ErrName},
		{construct("sixteen letters!", 8), api.ErrName},
		{construct(strings.Repeat("b", 257), 8), api.ErrName},
		{construct("anchor", largest), api.ErrThere},
		{construct("bow", largest), api.ErrSize},
		{construct("bow", 457), api.ErrNoMem},
		{find(""), api.ErrName},
		{find("sixteen letters!"), api.ErrName},
		{find("bow"), api.ErrNone},
		{destroy(""), api.ErrName},
		{destroy("sixteen letters!"), api.ErrName},
		{destroy("a\x00"), api.ErrNone},
		{destroy("bow"), api.ErrNone},
		{grow(0), api.ErrArg},
		{grow(32), api.ErrArg},
		{grow(56), api.ErrArg},
		{grow(largest), api.ErrArg},
		{grow(336), api.ErrNoMem},
		{grow(largest - 15), api.ErrNoMem},
		{detach(), api.ErrBusy},
		{attach(), api.ErrThere},
	} {
		p.does(t, 0, x.op, failed(x.want))
	}
}

// P15.1: an operation that only reads has no words.
func TestReads(t *testing.T) {
	p := blocks(t)
	p.does(t, 0, write(3808, 2, 7), api.Res{})
	p.does(t, 1, write(3968, 0, largest), api.Res{})
	for _, x := range []struct {
		c    int
		op   api.Op
		want api.Res
	}{
		{0, read(3808, 2), api.Res{V: 7}},
		{0, read(3808, 0), api.Res{}},
		{0, read(3968, 0), api.Res{V: largest}},
		{1, read(3872, 0), api.Res{}},
		{7, find("anchor"), at(3968)},
	} {
		got := p.plans(t, x.c, x.op, x.want)
		if len(got.Pre)+len(got.Log)+len(got.Tree) > 0 {
			t.Errorf("%+v: the words %+v", x.op, got.Plan)
		}
	}
}

// P15.1, P15.2: a client that comes, or goes, is one word; whoever isn't live may come, whatever his State is.
func TestAttach(t *testing.T) {
	p := paired(t, 4000, 4000)
	one := func(c int, op api.Op, w api.Put) {
		t.Helper()
		got := p.plans(t, c, op, api.Res{})
		if !slices.Equal(got.Log, []api.Put{w}) || len(got.Pre)+len(got.Tree) > 0 {
			t.Errorf("%d, %+v: the words %+v", c, op, got.Plan)
		}
	}
	for c := range clients {
		state := 64 + 416*uint64(c)
		p.does(t, c, detach(), failed(api.ErrClient))
		one(c, attach(), api.Put{Off: state, V: 1})
		p.does(t, c, attach(), failed(api.ErrThere))
		one(c, detach(), api.Put{Off: state, V: 0})
		for _, v := range []uint64{2, 3, 1<<32 + 1, largest} {
			p.s.Store(state, v)
			p.does(t, c, alloc(8), failed(api.ErrClient))
			p.does(t, c, detach(), failed(api.ErrClient))
			one(c, attach(), api.Put{Off: state, V: 1})
			one(c, detach(), api.Put{Off: state, V: 0})
		}
	}
}

// P15.1: a client that died isn't live: nothing is given to it.
func TestGiveDead(t *testing.T) {
	p := blocks(t)
	for _, state := range []uint64{0, 2, 3} {
		at, _ := client.Word(2, api.State)
		p.s.Store(at, state)
		p.does(t, 0, give(3808, 2), failed(api.ErrNone))
	}
	p.does(t, 2, attach(), api.Res{})
	p.does(t, 0, give(3808, 2), api.Res{})
}

// P15.1 to P15.3: a word that is written is what counts, also as what it was; I is the last one, and the first one behind it.
func TestWrite(t *testing.T) {
	p := blocks(t)
	for _, v := range []uint64{0, 9, 9, largest} {
		for i := range uint64(3) {
			got := p.plans(t, 0, write(3808, i, v), api.Res{})
			if !slices.Equal(got.Log, []api.Put{{Off: 3808 + 8*i, V: v}}) || len(got.Pre)+len(got.Tree) > 0 {
				t.Errorf("written: %+v", got.Plan)
			}
			p.does(t, 0, read(3808, i), api.Res{V: v})
		}
	}
	p.does(t, 7, write(3920, 0, 5), api.Res{})
	p.does(t, 1, read(3920, 0), api.Res{V: 5})
	p.does(t, 0, alloc(0), at(4016))
	p.does(t, 0, write(4016, 0, 5), failed(api.ErrArg))
	p.does(t, 0, read(4016, 0), failed(api.ErrArg))
}

// dirty lets all words be other ones that are idle.
func (p *pair) dirty() {
	v := p.view()
	for off := uint64(heap); off < p.s.Size(); off += 8 {
		if v.idle(off) {
			p.s.Store(off, off*0x9E3779B97F4A7C15)
		}
	}
}

// P15.1 to P15.3: of what is taken, tags, Len and the list count, but where nobody has read.
func TestTake(t *testing.T) {
	p := with(t, 4480, 4480, []int{0, 1})
	p.dirty()
	got := p.plans(t, 0, alloc(9), at(3808)) // 64 bytes; 640 are left behind
	got.log(api.Put{Off: 3776, V: 1<<32 + 65}, api.Put{Off: 3784, V: 9}, api.Put{Off: 72, V: 3776}, api.Put{Off: 4472, V: 640})
	got.pre(api.Put{Off: 3832, V: 1<<32 + 65}, api.Put{Off: 3808}, api.Put{Off: 3816}, api.Put{Off: 3840, V: 640}, api.Put{Off: 3848}, api.Put{Off: 3856})
	got.tree(api.Put{Off: 32, V: 3840})
	p.dirty()
	got = p.plans(t, 1, aligned(8, 128), at(3968)) // of the block at 3840 96 bytes stay free ahead, 496 behind
	got.log(api.Put{Off: 3840, V: 96}, api.Put{Off: 488, V: 3936}, api.Put{Off: 4472, V: 496})
	got.pre(api.Put{Off: 3928, V: 96}, api.Put{Off: 3936, V: 2<<32 + 49}, api.Put{Off: 3944, V: 8}, api.Put{Off: 3968}, api.Put{Off: 3976, V: 2<<32 + 49}, api.Put{Off: 3984, V: 496})
	p.dirty()
	got = p.plans(t, 0, calloc(7, 8), at(3872)) // 96 bytes: nothing is left
	got.log(api.Put{Off: 3840, V: 1<<32 + 97}, api.Put{Off: 3848, V: 56}, api.Put{Off: 3856, V: 3776}, api.Put{Off: 72, V: 3840}, api.Put{Off: 3800, V: 3840}, api.Put{Off: 3928, V: 1<<32 + 97})
	got.pre(api.Put{Off: 3864}, api.Put{Off: 3872}, api.Put{Off: 3880}, api.Put{Off: 3920})
	p.dirty()
	got = p.plans(t, 1, alloc(424), at(4016)) // 464 bytes: 32 are left, too few for a block
	got.log(api.Put{Off: 3984, V: 2<<32 + 497}, api.Put{Off: 4472, V: 2<<32 + 497}, api.Put{Off: 3992, V: 424}, api.Put{Off: 488, V: 3984}, api.Put{Off: 3960, V: 3984})
	got.tree(api.Put{Off: 32, V: 0})
	p.does(t, 0, alloc(0), failed(api.ErrNoMem))
}

// P15.1 to P15.3: a multiple that leaves bytes ahead, and none behind; and one that leaves none.
func TestAligned(t *testing.T) {
	p := with(t, 4000, 4000, []int{3})
	p.dirty()
	got := p.plans(t, 3, aligned(24, 128), at(3968))
	got.log(api.Put{Off: 3776, V: 160}, api.Put{Off: 3992, V: 4<<32 + 65}, api.Put{Off: 1320, V: 3936})
	got.pre(api.Put{Off: 3928, V: 160}, api.Put{Off: 3936, V: 4<<32 + 65}, api.Put{Off: 3944, V: 24}, api.Put{Off: 3984})
	p.dirty()
	got = p.plans(t, 3, aligned(120, 32), at(3808))
	got.log(api.Put{Off: 3776, V: 4<<32 + 161}, api.Put{Off: 3784, V: 120}, api.Put{Off: 3928, V: 4<<32 + 161}, api.Put{Off: 1320, V: 3776}, api.Put{Off: 3960, V: 3776})
	got.tree(api.Put{Off: 32, V: 0})
}

// P15.1 to P15.3: the largest heap is one block, and is cut to the least one, and another one moves to where it was.
func TestLargest(t *testing.T) {
	p := with(t, 1<<20, 1<<20, []int{0})
	p.dirty()
	p.does(t, 0, alloc(1<<20-3776-39), failed(api.ErrNoMem))
	p.does(t, 0, alloc(1<<20-3776-40), at(3808))
	p.does(t, 0, write(3808, 130594, 3), api.Res{}) // its last word
	p.does(t, 0, write(3808, 130595, 3), failed(api.ErrArg))
	p.dirty()
	p.does(t, 0, realloc(3808, 8), at(3808))
	p.does(t, 0, alloc(8), at(3856))
	p.does(t, 0, free(3808), api.Res{})
	p.dirty()
	p.does(t, 0, realloc(3856, 1<<19), at(3904))
	p.does(t, 0, free(3904), api.Res{})
}

// P15.1: 0 bytes are taken, too, and have no words.
func TestNothing(t *testing.T) {
	p := with(t, 4480, 4480, []int{5})
	p.dirty()
	p.does(t, 5, alloc(0), at(3808))
	p.does(t, 5, calloc(0, largest), at(3856))
	p.does(t, 5, calloc(largest, 0), at(3904))
	p.does(t, 5, construct("none", 0), at(3952))
	p.does(t, 5, realloc(3808, 8), at(3808))
	p.does(t, 5, realloc(3808, 0), at(3808))
}

// P15.1 to P15.3: a block that stays where it is, with fewer bytes, and with more, one that is cut, and one that moves.
func TestRealloc(t *testing.T) {
	p := with(t, 4480, 4480, []int{0}, alloc(100), alloc(8), alloc(8))
	for i := range uint64(13) {
		p.does(t, 0, write(3808, i, 100+i), api.Res{})
	}
	p.dirty()
	p.plans(t, 0, realloc(3808, 80), at(3808)).log(api.Put{Off: 3784, V: 80}) // 128 of 144 bytes: too few would be cut off
	p.dirty()
	got := p.plans(t, 0, realloc(3808, 104), at(3808))
	got.log(api.Put{Off: 3784, V: 104})
	got.pre(api.Put{Off: 3888}, api.Put{Off: 3896}, api.Put{Off: 3904})
	p.does(t, 0, read(3808, 9), api.Res{V: 109})
	p.does(t, 0, read(3808, 10), api.Res{})
	p.does(t, 0, realloc(3808, 104), at(3808))
	p.dirty()
	got = p.plans(t, 0, realloc(3808, 24), at(3808)) // 64 of 144 bytes: the payload had the first words of what is cut off
	got.log(api.Put{Off: 3776, V: 1<<32 + 65}, api.Put{Off: 3784, V: 24}, api.Put{Off: 3832, V: 1<<32 + 65}, api.Put{Off: 3840, V: 80}, api.Put{Off: 3912, V: 80})
	p.dirty()
	got = p.plans(t, 0, realloc(3808, 200), at(4048)) // what it leaves is one block with what is free behind it
	got.log(api.Put{Off: 3776, V: 144}, api.Put{Off: 3912, V: 144}, api.Put{Off: 72, V: 4016}, api.Put{Off: 4016, V: 1<<32 + 241}, api.Put{Off: 4024, V: 200})
	got.log(api.Put{Off: 4032, V: 3968}, api.Put{Off: 3992, V: 4016}, api.Put{Off: 3936, V: 0}, api.Put{Off: 4472, V: 224})
	got.pre(api.Put{Off: 4048, V: 100}, api.Put{Off: 4056, V: 101}, api.Put{Off: 4064, V: 102}, api.Put{Off: 4072}, api.Put{Off: 4240}, api.Put{Off: 4248, V: 1<<32 + 241}, api.Put{Off: 4256, V: 224})
	p.does(t, 0, read(4048, 2), api.Res{V: 102})
	p.does(t, 0, read(4048, 3), api.Res{})
	p.does(t, 0, realloc(4048, 400), failed(api.ErrNoMem)) // also if it would have room with what is free behind it
}

// six are blocks of the client 0, each of 48 bytes, from 3776 on, but those that are gone; behind the last one, at 4016, 416 bytes are free.
func six(t *testing.T, gone ...uint64) *pair {
	t.Helper()
	p := with(t, 4480, 4480, []int{0}, alloc(8), alloc(8), alloc(8), alloc(8), alloc(8), alloc(8))
	for _, off := range gone {
		p.does(t, 0, free(off+front), api.Res{})
	}
	p.dirty()
	return p
}

// P15.1 to P15.3: what is freed is one block with none, with either, and with both of its neighbours; it is out of its list.
func TestFree(t *testing.T) {
	got := six(t).plans(t, 0, free(3904), api.Res{})
	got.log(api.Put{Off: 3872, V: 48}, api.Put{Off: 3912, V: 48}, api.Put{Off: 3936, V: 3824}, api.Put{Off: 3848, V: 3920})
	got = six(t, 3824).plans(t, 0, free(3904), api.Res{})
	got.log(api.Put{Off: 3824, V: 96}, api.Put{Off: 3912, V: 96}, api.Put{Off: 3936, V: 3776}, api.Put{Off: 3800, V: 3920})
	got = six(t, 3920).plans(t, 0, free(3904), api.Res{})
	got.log(api.Put{Off: 3872, V: 96}, api.Put{Off: 3960, V: 96}, api.Put{Off: 3984, V: 3824}, api.Put{Off: 3848, V: 3968})
	got = six(t, 3824, 3920).plans(t, 0, free(3904), api.Res{})
	got.log(api.Put{Off: 3824, V: 144}, api.Put{Off: 3960, V: 144}, api.Put{Off: 3984, V: 3776}, api.Put{Off: 3800, V: 3968})
	got = six(t).plans(t, 0, free(4048), api.Res{}) // the first one of its list
	got.log(api.Put{Off: 4016, V: 464}, api.Put{Off: 4472, V: 464}, api.Put{Off: 72, V: 3968}, api.Put{Off: 3992, V: 0})
	got = six(t).plans(t, 0, free(3808), api.Res{}) // its last one
	got.log(api.Put{Off: 3776, V: 48}, api.Put{Off: 3816, V: 48}, api.Put{Off: 3840, V: 0})
}

// P15.1: everybody may free what was published, also who never had it; all freed, the heap is one block.
func TestFreeAll(t *testing.T) {
	p := six(t)
	p.does(t, 1, attach(), api.Res{})
	p.does(t, 0, publish(3904), api.Res{})
	p.does(t, 1, free(3904), api.Res{})
	for _, off := range []uint64{3952, 3808, 4048, 3856, 4000} {
		p.does(t, 0, free(off), api.Res{})
	}
	p.does(t, 0, detach(), api.Res{})
	p.does(t, 1, alloc(664), at(3808))
}

// P15.1 to P15.3: what is published is in no list any more, whether it was the first one, a middle one, or the last one.
func TestPublish(t *testing.T) {
	got := six(t).plans(t, 0, publish(3904), api.Res{})
	got.log(api.Put{Off: 3872, V: 49}, api.Put{Off: 3912, V: 49}, api.Put{Off: 3936, V: 3824}, api.Put{Off: 3848, V: 3920})
	got = six(t).plans(t, 0, publish(4048), api.Res{})
	got.log(api.Put{Off: 4016, V: 49}, api.Put{Off: 72, V: 3968}, api.Put{Off: 3992, V: 0})
	got = six(t).plans(t, 0, publish(3808), api.Res{})
	got.log(api.Put{Off: 3776, V: 49}, api.Put{Off: 3840, V: 0})
}

// P15.1 to P15.3: what is given is the first one of a list, also of one's own.
func TestGive(t *testing.T) {
	p := six(t)
	p.does(t, 7, attach(), api.Res{})
	got := p.plans(t, 0, give(3904, 7), api.Res{})
	got.log(api.Put{Off: 3872, V: 8<<32 + 49}, api.Put{Off: 3912, V: 8<<32 + 49}, api.Put{Off: 3936, V: 3824}, api.Put{Off: 3848, V: 3920}, api.Put{Off: 2984, V: 3872}, api.Put{Off: 3888, V: 0}, api.Put{Off: 3896, V: 0})
	got = p.plans(t, 0, give(4048, 7), api.Res{})
	got.log(api.Put{Off: 4016, V: 8<<32 + 49}, api.Put{Off: 72, V: 3968}, api.Put{Off: 2984, V: 4016}, api.Put{Off: 4032, V: 3872}, api.Put{Off: 3896, V: 4016})
	p.does(t, 0, read(3904, 0), failed(api.ErrOwner))
	got = p.plans(t, 7, give(3904, 7), api.Res{}) // its last one
	got.log(api.Put{Off: 2984, V: 3872}, api.Put{Off: 3888, V: 4016}, api.Put{Off: 4040, V: 3872}, api.Put{Off: 4032, V: 0})
	p.does(t, 7, give(3904, 7), api.Res{}) // its first one
	p.does(t, 7, give(3904, 0), api.Res{})
	p.does(t, 7, give(4048, 7), api.Res{}) // its only one
	p.does(t, 0, give(3856, 0), api.Res{})
}

// P15.1 to P15.3: the first, a middle and the sixteenth name come and go; the others stay.
func TestNames(t *testing.T) {
	p := with(t, 5600, 5600, []int{2})
	name := func(i int) string { return strings.Repeat("x", i%15) + string(rune('a'+i)) }
	for i := range 16 {
		p.dirty()
		got := p.plans(t, 2, construct(name(i), 8), at(3808+48*uint64(i)))
		n := 0
		for _, w := range got.Log {
			if w.Off >= 3392 && w.Off < heap {
				n++
			}
		}
		if n != 3 {
			t.Errorf("%q: %d words of a slot in Log", name(i), n)
		}
	}
	p.does(t, 2, construct("more", largest), failed(api.ErrFull))
	p.does(t, 2, construct(name(3), largest), failed(api.ErrThere))
	for _, x := range []struct {
		i   int
		off uint64
	}{{0, 4576}, {7, 4576}, {15, 4528}} { // the last one's block is one with what is free behind it
		i, off := x.i, x.off
		p.does(t, 2, destroy(name(i)), api.Res{})
		p.does(t, 2, destroy(name(i)), failed(api.ErrNone))
		p.does(t, 2, find(name(i)), failed(api.ErrNone))
		p.does(t, 2, construct("again"+strconv.Itoa(i), 1000), at(off))
		p.does(t, 2, construct(name(i), 8), failed(api.ErrFull))
		p.does(t, 2, destroy("again"+strconv.Itoa(i)), api.Res{})
		p.does(t, 2, construct(name(i), 8), at(3808+48*uint64(i)))
	}
	for i := range 16 {
		p.does(t, 2, find(name(i)), at(3808+48*uint64(i)))
		p.does(t, 2, free(3808+48*uint64(i)), failed(api.ErrThere))
		p.does(t, 2, destroy(name(i)), api.Res{})
	}
}

// P15.1 to P15.3: the heap ends farther, behind a free block and behind a used one: what stands there counts by where it ends.
func TestGrow(t *testing.T) {
	p := with(t, 4480, 4800, []int{0})
	p.dirty()
	got := p.plans(t, 0, grow(48), api.Res{})
	got.log(api.Put{Off: 16, V: 4528}, api.Put{Off: 40, V: head.Sum(4528)}, api.Put{Off: 3776, V: 752})
	got.pre(api.Put{Off: 4520, V: 752})
	p.does(t, 0, alloc(712), at(3808))
	p.dirty()
	got = p.plans(t, 0, grow(272), api.Res{})
	got.log(api.Put{Off: 16, V: 4800}, api.Put{Off: 40, V: head.Sum(4800)})
	got.pre(api.Put{Off: 4528, V: 272}, api.Put{Off: 4536}, api.Put{Off: 4544}, api.Put{Off: 4792, V: 272})
	got.tree(api.Put{Off: 32, V: 4528})
	p.does(t, 0, grow(48), failed(api.ErrNoMem))
	p.does(t, 0, alloc(232), at(4560))
}

// P15.1: what is told is the caller's own, and is the same, asked again.
func TestOwn(t *testing.T) {
	p := with(t, 4480, 4480, []int{0})
	first, again := plan.Make(p.s, 0, alloc(8)), plan.Make(p.s, 0, alloc(8))
	for _, l := range [][]api.Put{first.Pre, first.Log, first.Tree} {
		clear(l)
		_ = append(l, api.Put{Off: 1})
	}
	third := plan.Make(p.s, 0, alloc(8))
	if !slices.Equal(again.Pre, third.Pre) || !slices.Equal(again.Log, third.Log) || !slices.Equal(again.Tree, third.Tree) {
		t.Errorf("asked again: %+v, and not %+v", third, again)
	}
	p.does(t, 0, alloc(8), at(3808))
}

// No segment has no live clients, and no words.
func TestNoSegment(t *testing.T) {
	for kind := -1; kind <= 16; kind++ {
		for c := -1; c <= 8; c++ {
			op := api.Op{Kind: kind, N: 48, A: 16, Off: 3808, Name: "anchor"}
			p := plan.Make(nil, c, op)
			if len(p.Pre)+len(p.Log)+len(p.Tree) > 0 || plan.Run(nil, c, op) != p.Res {
				t.Errorf("of no segment, %d, %+v: %+v", c, op, p)
			}
		}
	}
}

// Cut of what isn't there.
func TestCutNothing(t *testing.T) {
	for _, x := range []*tx.Tx{nil, tx.New(nil), tx.New(six(t).s)} {
		if p := plan.Cut(x); p.Res != (api.Res{}) || len(p.Pre)+len(p.Log)+len(p.Tree) > 0 {
			t.Errorf("of nothing: %+v", p)
		}
	}
}

// ranges are offsets of words, from each first one up to a last one.
func ranges(ends ...uint64) []uint64 {
	var l []uint64
	for i := 0; i < len(ends); i += 2 {
		for off := ends[i]; off <= ends[i+1]; off += 8 {
			l = append(l, off)
		}
	}
	return l
}

func offsets(l []api.Put) []uint64 {
	var offs []uint64
	for _, w := range l {
		offs = append(offs, w.Off)
	}
	return offs
}

// half is a segment with a used block of 144 bytes at 3776, of which 80 are the client's, and 560 free ones behind it.
func half(t *testing.T) *seg.Seg {
	t.Helper()
	p := with(t, 4480, 4800, []int{0}, alloc(100), realloc(3808, 80))
	p.dirty()
	return p.s
}

// P15.2: all words, thought of as what they are, but one: each stands where it belongs, in the turn in which they were thought of.
func TestCutAll(t *testing.T) {
	s := half(t)
	pre := ranges(3888, 3904, 3944, 4464, 4480, 4792)
	trees := ranges(32, 32, 3928, 3936)
	logged := ranges(0, 24, 40, 3880, 3912, 3920, 4472, 4472)
	for _, down := range []bool{false, true} {
		x := tx.New(s)
		for off := uint64(0); off < 4800; off += 8 {
			at := off
			if down {
				at = 4792 - off
			}
			x.Store(at, x.Load(at))
		}
		x.Store(3808, 77) // as it was thought of last, where it was first
		got := cuts(t, x)
		for _, w := range [][2][]uint64{{offsets(got.Pre), pre}, {offsets(got.Log), logged}, {offsets(got.Tree), trees}} {
			want := slices.Clone(w[1])
			if down {
				slices.Reverse(want)
			}
			if !slices.Equal(w[0], want) {
				t.Errorf("down %t: the words at %v, and not at %v", down, w[0], want)
			}
		}
		if !slices.Contains(got.Log, api.Put{Off: 3808, V: 77}) {
			t.Errorf("down %t: what was thought of last isn't in %v", down, got.Log)
		}
	}
}

// P15.2: idle is what is idle in the segment; sons are those of blocks that are free as it is thought of.
func TestCutThought(t *testing.T) {
	s := half(t)
	x := tx.New(s)
	release.Free(x, 3808) // 3776 is free then, and 3920 is no block any more
	for _, off := range []uint64{3784, 3792, 3800, 3808, 3880, 3888, 3904, 3912, 3920, 3928, 3936, 3944, 4464} {
		x.Store(off, x.Load(off))
	}
	got := cuts(t, x)
	for _, off := range []uint64{3888, 3904, 3944, 4464} {
		got := offsets(got.Pre)
		if !slices.Contains(got, off) {
			t.Errorf("freed: %d isn't in Pre, which is %v", off, got)
		}
	}
	for _, off := range []uint64{3784, 3792} {
		if got := offsets(got.Tree); !slices.Contains(got, off) {
			t.Errorf("freed: %d isn't in Tree, which is %v", off, got)
		}
	}
	for _, off := range []uint64{72, 3776, 3800, 3808, 3880, 3912, 3920, 3928, 3936, 4472} {
		if got := offsets(got.Log); !slices.Contains(got, off) {
			t.Errorf("freed: %d isn't in Log, which is %v", off, got)
		}
	}
}

// P15.2: a free block that is used as it is thought of has no sons; one that is free only as it is thought of has them where nobody reads.
func TestCutTaken(t *testing.T) {
	x := tx.New(half(t))
	if off, err := carve.Take(x, 8, 8, 16); off != 3952 || err != api.OK {
		t.Fatalf("Take: %d, %d", off, err)
	}
	for _, off := range []uint64{3928, 3936, 3944, 3952, 3968, 3976, 3984, 3992} {
		x.Store(off, x.Load(off))
	}
	got := planned{t, api.Op{}, cuts(t, x)}
	got.log(api.Put{Off: 3920, V: 8<<32 + 49}, api.Put{Off: 3928, V: 8}, api.Put{Off: 3936}, api.Put{Off: 2984, V: 3920}, api.Put{Off: 4472, V: 512})
	got.pre(api.Put{Off: 3944}, api.Put{Off: 3952}, api.Put{Off: 3960, V: 8<<32 + 49}, api.Put{Off: 3968, V: 512}, api.Put{Off: 3976}, api.Put{Off: 3984}, api.Put{Off: 3992, V: x.Old(3992)})
	got.tree(api.Put{Off: 32, V: 3968})
}

// P15.2: a heap that is thought to end farther: what stands behind its old end is idle.
func TestCutGrown(t *testing.T) {
	x := tx.New(half(t))
	if err := resize.Grow(x, 320); err != api.OK {
		t.Fatalf("Grow: %d", err)
	}
	x.Store(4472, 5)
	x.Store(4480, 6)
	got := planned{t, api.Op{}, cuts(t, x)}
	got.log(api.Put{Off: 16, V: 4800}, api.Put{Off: 40, V: head.Sum(4800)}, api.Put{Off: 3920, V: 880}, api.Put{Off: 4472, V: 5})
	got.pre(api.Put{Off: 4480, V: 6}, api.Put{Off: 4792, V: 880})
}

// P15.2: several operations that are thought of one behind the other are cut as one; what is told is the caller's own.
func TestCutSeveral(t *testing.T) {
	p := six(t)
	x := tx.New(p.s)
	release.Free(x, 3856)
	release.Free(x, 3952)
	carve.Take(x, 1, 100, 256)
	resize.Resize(x, 3808, 60)
	dir.Put(x, "anchor", 3904)
	first := cuts(t, x)
	clear(first.Pre)
	clear(first.Log)
	clear(first.Tree)
	again := cuts(t, x)
	o := stored(p.s, again.Pre, again.Log, again.Tree)
	x.Apply()
	if l := seg.Diff(o, p.s); len(l) > 0 {
		t.Errorf("several: words at %v aren't as they were thought of", l)
	}
}
