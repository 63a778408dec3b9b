package model_test

import (
	"cmp"
	"math"
	"slices"
	"strconv"
	"strings"
	"testing"

	"carrack/api"
	"carrack/model"
)

const largest = 1<<64 - 1

// What the document says, as numbers: also package api is asked.
const (
	heap  = 3776
	least = 48
	front = 32
	most  = 1 << 20
	slots = 16
)

func alloc(n uint64) api.Op               { return api.Op{Kind: 1, N: n} }
func aligned(n, a uint64) api.Op          { return api.Op{Kind: 2, N: n, A: a} }
func calloc(n, a uint64) api.Op           { return api.Op{Kind: 3, N: n, A: a} }
func realloc(off, n uint64) api.Op        { return api.Op{Kind: 4, Off: off, N: n} }
func free(off uint64) api.Op              { return api.Op{Kind: 5, Off: off} }
func write(off, i, v uint64) api.Op       { return api.Op{Kind: 6, Off: off, I: i, V: v} }
func read(off, i uint64) api.Op           { return api.Op{Kind: 7, Off: off, I: i} }
func construct(s string, n uint64) api.Op { return api.Op{Kind: 8, Name: s, N: n} }
func find(s string) api.Op                { return api.Op{Kind: 9, Name: s} }
func destroy(s string) api.Op             { return api.Op{Kind: 10, Name: s} }
func publish(off uint64) api.Op           { return api.Op{Kind: 11, Off: off} }
func give(off uint64, to int) api.Op      { return api.Op{Kind: 12, Off: off, To: to} }
func grow(n uint64) api.Op                { return api.Op{Kind: 13, N: n} }
func detach() api.Op                      { return api.Op{Kind: 14} }
func attach() api.Op                      { return api.Op{Kind: 15} }

// done, at, says and fails are what is told.
func done() api.Res               { return api.Res{} }
func at(payload uint64) api.Res   { return api.Res{Off: payload} }
func says(v uint64) api.Res       { return api.Res{V: v} }
func fails(err api.Errno) api.Res { return api.Res{Err: err} }

// view is all that a state tells.
type view struct {
	size    uint64
	blocks  []model.Block
	entries []model.Entry
	live    []int
}

func look(m *model.State) view { return view{m.Size(), m.Blocks(), m.Entries(), m.Live()} }

func equal(a, b model.Block) bool {
	return a.Off == b.Off && a.Size == b.Size && a.Used == b.Used && a.Owner == b.Owner && a.Len == b.Len && slices.Equal(a.Data, b.Data)
}

// same asks whether all of a view is as it should be.
func same(t *testing.T, what string, got, want view) {
	t.Helper()
	if got.size != want.size {
		t.Errorf("%s: Size: %d, not %d", what, got.size, want.size)
	}
	if !slices.EqualFunc(got.blocks, want.blocks, equal) {
		t.Errorf("%s: Blocks: %+v, not %+v", what, got.blocks, want.blocks)
	}
	if !slices.Equal(got.entries, want.entries) {
		t.Errorf("%s: Entries: %+v, not %+v", what, got.entries, want.entries)
	}
	if !slices.Equal(got.live, want.live) {
		t.Errorf("%s: Live: %v, not %v", what, got.live, want.live)
	}
}

// spare is a free block, used a used one, whose first words are so; where they stand is told by laid.
func spare(size uint64) model.Block { return model.Block{Size: size} }

func used(size uint64, owner int, n uint64, words ...uint64) model.Block {
	data := make([]uint64, (n+7)/8)
	copy(data, words)
	return model.Block{Size: size, Used: true, Owner: owner, Len: n, Data: data}
}

// laid lets each block begin where the one ahead of it ends.
func laid(l ...model.Block) []model.Block {
	off := uint64(heap)
	for i := range l {
		l[i].Off = off
		off += l[i].Size
	}
	return l
}

// stands asks for all blocks, as they stand.
func stands(t *testing.T, what string, m *model.State, l ...model.Block) {
	t.Helper()
	got, want := m.Blocks(), laid(l...)
	if !slices.EqualFunc(got, want, equal) {
		t.Errorf("%s: Blocks: %+v, not %+v", what, got, want)
	}
}

// sound asks for what holds in each state, as the chapters say it.
func sound(t *testing.T, what string, v view) {
	t.Helper()
	end, last := uint64(heap), true
	owners := map[int]bool{0: true}
	for _, c := range v.live {
		owners[c+1] = true
	}
	open := map[uint64]bool{} // the payloads for which a name may stand
	for _, b := range v.blocks {
		switch {
		case b.Off != end, b.Size < least, b.Size%16 != 0:
			t.Errorf("%s: no block can be there: %+v", what, b)
		case !b.Used && (!last || b.Owner != 0 || b.Len != 0 || len(b.Data) != 0):
			t.Errorf("%s: no free block can be so: %+v", what, b)
		case b.Used && (b.Size < b.Len+40 || b.Size >= max(b.Len, 8)+55+least || uint64(len(b.Data)) != (b.Len+7)/8 || !owners[b.Owner]):
			t.Errorf("%s: no used block can be so: %+v", what, b)
		}
		if b.Used && b.Owner == 0 {
			open[b.Off+front] = true
		}
		end, last = end+b.Size, b.Used
	}
	if v.size != end {
		t.Errorf("%s: the blocks end at %d, the heap at %d", what, end, v.size)
	}
	for _, e := range v.entries {
		if !open[e.Off] || len(e.Name) < 1 || len(e.Name) > 15 {
			t.Errorf("%s: no name can be so: %+v", what, e)
		}
		delete(open, e.Off)
	}
	if !slices.IsSortedFunc(v.entries, func(a, b model.Entry) int { return cmp.Compare(a.Name, b.Name) }) || len(v.entries) > slots {
		t.Errorf("%s: Entries: %+v", what, v.entries)
	}
	if !slices.IsSorted(v.live) {
		t.Errorf("%s: Live: %v", what, v.live)
	}
}

// stay asks for each block that must be as it was: also P14.4.
func stay(t *testing.T, what string, was, now view, must func(owner int) bool) {
	t.Helper()
	for _, b := range was.blocks {
		if b.Used && must(b.Owner) && !slices.ContainsFunc(now.blocks, func(x model.Block) bool { return equal(b, x) }) {
			t.Errorf("%s: the block isn't as it was: %+v", what, b)
		}
	}
}

// does asks what Do tells, and, with an error, and where an operation only reads, that nothing is changed; else for no change of another client's block.
func does(t *testing.T, m *model.State, c int, op api.Op, want api.Res) {
	t.Helper()
	what := "Do(" + strconv.Itoa(c) + ", kind " + strconv.Itoa(op.Kind) + ")"
	was := look(m)
	if got := m.Do(c, op); got != want {
		t.Errorf("%s: %+v: %+v, not %+v", what, op, got, want)
	}
	now := look(m)
	sound(t, what, now)
	if want.Err != api.OK || op.Kind == 7 || op.Kind == 9 {
		same(t, what, now, was)
	} else {
		stay(t, what, was, now, func(owner int) bool { return owner != 0 && owner != c+1 })
	}
}

// dies lets a client die: what is another one's, or everybody's, stays, and nothing of its own is left.
func dies(t *testing.T, m *model.State, c int) {
	t.Helper()
	what := "Kill(" + strconv.Itoa(c) + ")"
	was := look(m)
	m.Kill(c)
	now := look(m)
	sound(t, what, now) // also that each owner is live
	stay(t, what, was, now, func(owner int) bool { return owner != c+1 })
	live := slices.DeleteFunc(was.live, func(x int) bool { return x == c })
	same(t, what, now, view{was.size, now.blocks, was.entries, live})
}

// with is a state of so many bytes, in which some clients are live.
func with(t *testing.T, size, all uint64, clients ...int) *model.State {
	t.Helper()
	m := model.New(size, all)
	if m == nil {
		t.Fatalf("New(%d, %d) is nil", size, all)
	}
	for _, c := range clients {
		does(t, m, c, attach(), done())
	}
	return m
}

// P14.1
func TestNew(t *testing.T) {
	for _, x := range []struct {
		size, all uint64
		ok        bool
	}{
		{3824, 3824, true}, {3824, 3832, true}, {3824, 4800, true}, {3824, most, true}, {4000, 4000, true}, {4000, 4008, true}, {4480, 4800, true},
		{most, most, true}, {most - 16, most - 16, true}, {most - 16, most - 8, true}, {most - 16, most, true},
		{3808, 3808, false}, {3808, 3824, false}, {3808, 4800, false}, {3776, 4800, false}, {3792, 4800, false}, {16, 4800, false}, {0, 4800, false}, {0, 0, false},
		{3832, 4800, false}, {3825, 4800, false}, {3823, 4800, false}, {4001, 4800, false}, {4008, 4800, false}, {4015, 4800, false}, {4002, 4800, false}, {4004, 4800, false},
		{4480, 4000, false}, {4000, 3992, false}, {4000, 3984, false}, {3840, 3824, false}, {3840, 3832, false}, {4000, 0, false}, {4000, 8, false},
		{most, most + 8, false}, {3824, most + 8, false}, {4000, most + 16, false}, {most + 16, most + 16, false}, {most + 16, most, false}, {4000, most + 1, false}, {2 * most, 2 * most, false},
		{4000, 4001, false}, {4000, 4004, false}, {4000, 4007, false}, {4000, 4009, false}, {4000, 4012, false}, {4000, 4796, false},
		{4000, largest, false}, {4000, largest - 7, false}, {largest - 15, largest - 7, false}, {largest - 15, 4800, false}, {4000, 1 << 32, false}, {1<<32 + 4000, 4800, false}, {4000, 1<<32 + 4800, false}, {1 << 63, 1 << 63, false},
	} {
		made(t, x.size, x.all, x.ok)
	}
	for size := uint64(3760); size < 3900; size++ {
		for all := uint64(3760); all < 3900; all++ {
			made(t, size, all, size%16 == 0 && size > 3808 && all%8 == 0 && all >= size)
		}
	}
	for size := uint64(most - 40); size < most+40; size++ {
		for all := uint64(most - 40); all < most+40; all++ {
			made(t, size, all, size%16 == 0 && all%8 == 0 && all >= size && all < most+1)
		}
	}
}

// made asks what New tells: nothing, or one free block.
func made(t *testing.T, size, all uint64, ok bool) {
	t.Helper()
	m := model.New(size, all)
	if (m != nil) != ok {
		t.Errorf("New(%d, %d): %v, not %v", size, all, m != nil, ok)
	}
	if m != nil {
		same(t, "New", look(m), view{size, laid(spare(size - heap)), nil, nil})
	}
}

// P14.1: what is told is the caller's own, and the next state has nothing of the last one.
func TestWhatIsToldIsTheCallers(t *testing.T) {
	m := with(t, 4480, 4800, 0, 2)
	does(t, m, 0, alloc(24), at(3808))
	does(t, m, 0, write(3808, 0, 11), done())
	does(t, m, 0, write(3808, 2, 13), done())
	does(t, m, 2, construct("a", 16), at(3872))
	does(t, m, 2, construct("b", 0), at(3936))
	want := view{4480, laid(used(64, 1, 24, 11, 0, 13), used(64, 0, 16), used(48, 0, 0), spare(528)), []model.Entry{{Name: "a", Off: 3872}, {Name: "b", Off: 3936}}, []int{0, 2}}
	same(t, "told", look(m), want)
	l := m.Blocks()
	for i := range l {
		for k := range l[i].Data {
			l[i].Data[k] = 99
		}
		l[i].Data = append(l[i].Data, 1, 2, 3)
		l[i].Off, l[i].Size, l[i].Used, l[i].Owner, l[i].Len = 1, 2, !l[i].Used, 8, 3
	}
	same(t, "blocks changed", look(m), want)
	e := m.Entries()
	e[0], e[1] = model.Entry{Name: "x", Off: 1}, model.Entry{}
	live := m.Live()
	live[0], live[1] = 5, 6
	same(t, "names and clients changed", look(m), want)
	// Two answers share nothing.
	one, two := m.Blocks(), m.Blocks()
	one[0].Data[0] = 77
	one[1].Data = append(one[1].Data[:0], 78)
	if two[0].Data[0] != 11 || two[1].Data[0] != 0 {
		t.Errorf("two answers share words: %+v", two)
	}
	// What was told stays, whatever is done then.
	does(t, m, 0, write(3808, 0, 12), done())
	does(t, m, 0, free(3808), done())
	does(t, m, 2, destroy("a"), done())
	if two[0].Data[0] != 11 || two[0].Size != 64 || two[1].Size != 64 || len(two) != 4 {
		t.Errorf("what was told is changed: %+v", two)
	}
	if x := model.New(4480, 4800); len(x.Live()) != 0 || len(x.Entries()) != 0 || len(x.Blocks()) != 1 {
		t.Errorf("another state: %+v", look(x))
	}
	same(t, "the first state", look(m), view{4480, laid(spare(128), used(48, 0, 0), spare(528)), []model.Entry{{Name: "b", Off: 3936}}, []int{0, 2}})
}

// P14.1: bytewise, rising, whatever turn they came in.
func TestEntries(t *testing.T) {
	rising := []string{"\x00", "\x00\x00", "\x00a", "A", "Z", "a", "a\x00", "aa", "aaaaaaaaaaaaaaa", "ab", "b", "ba", "z", "\x7f", "\x80", "\xff"}
	if !slices.IsSortedFunc(rising, func(a, b string) int { return slices.Compare([]byte(a), []byte(b)) }) || len(rising) != slots {
		t.Fatal("these aren't sixteen that rise")
	}
	for step := 1; step < 17; step += 2 {
		for from := range slots {
			m := with(t, 4800, 4800, 3)
			offs := map[string]uint64{}
			for i := range slots {
				name := rising[(from+i*step)%slots]
				offs[name] = heap + front + least*uint64(i)
				does(t, m, 3, construct(name, 8), at(offs[name]))
			}
			var want []model.Entry
			for _, name := range rising {
				want = append(want, model.Entry{Name: name, Off: offs[name]})
			}
			if got := m.Entries(); !slices.Equal(got, want) {
				t.Errorf("from %d, by %d: %+v, not %+v", from, step, got, want)
			}
			does(t, m, 3, destroy(rising[from]), done())
			want = slices.Delete(want, from, from+1)
			if got := m.Entries(); !slices.Equal(got, want) {
				t.Errorf("without %q: %+v, not %+v", rising[from], got, want)
			}
		}
	}
}

// P14.1: rising, whatever turn they came in.
func TestLive(t *testing.T) {
	m := with(t, 3824, 3824)
	now := map[int]bool{}
	for i, c := range []int{5, 7, 0, 3, 5, 6, 1, 0, 2, 4, 7, 3, 5, 0, 7, 1, 2, 3, 4, 5, 6} {
		if now[c] && i%2 == 0 {
			dies(t, m, c)
		} else if now[c] {
			does(t, m, c, detach(), done())
		} else {
			does(t, m, c, attach(), done())
		}
		now[c] = !now[c]
		var want []int
		for c := range 8 {
			if now[c] {
				want = append(want, c)
			}
		}
		if got := m.Live(); !slices.Equal(got, want) {
			t.Errorf("Live: %v, not %v", got, want)
		}
	}
}

// each are operations of each Kind that would be done by a client 0 that has a block at 3808, of 24 bytes, with a name "n" there, and some room.
func each() []api.Op {
	return []api.Op{
		alloc(8), aligned(8, 64), calloc(2, 4), realloc(3808, 100), free(3808), write(3808, 2, 5), read(3808, 1),
		construct("new", 8), find("n"), destroy("n"), publish(3808), give(3808, 0), grow(48), detach(), attach(),
	}
}

// wrong are operations of each Kind in which all is wrong that can be.
func wrong() []api.Op {
	long := strings.Repeat("x", 16)
	var l []api.Op
	for kind := 1; kind <= 15; kind++ {
		l = append(l,
			api.Op{Kind: kind, N: largest, A: largest, Off: largest, I: largest, V: largest, To: -1, Name: long},
			api.Op{Kind: kind, N: 7, A: 24, Off: 1, To: 8},
			api.Op{Kind: kind, N: largest, Off: 3808, I: largest, To: 8, Name: "n"},
		)
	}
	return l
}

// ready is a state in which each of these operations would be done.
func ready(t *testing.T) *model.State {
	t.Helper()
	m := with(t, 4480, 4800, 0)
	does(t, m, 0, alloc(24), at(3808))
	does(t, m, 0, construct("n", 8), at(3872))
	return m
}

// P14.2: each Kind that there is, and no other one.
func TestKinds(t *testing.T) {
	for i, op := range each() {
		m := ready(t)
		if op.Kind != i+1 {
			t.Fatalf("kind %d at %d", op.Kind, i)
		}
		switch err := m.Do(0, op).Err; {
		case op.Kind == api.Detach && err == api.ErrBusy, op.Kind == api.Attach && err == api.ErrThere:
		case err != api.OK:
			t.Errorf("%+v: %d", op, err)
		}
	}
	for _, kind := range []int{0, 16, 17, -1, -15, 31, 255, 256, 257, 1<<16 + 1, 1<<32 + 1, 1<<32 + 15, math.MaxInt, math.MinInt, math.MinInt + 1} {
		for _, c := range []int{0, 1, -1, 7, 8} {
			m := ready(t)
			for _, op := range append(each(), wrong()...) {
				op.Kind = kind
				does(t, m, c, op, fails(api.ErrArg))
			}
		}
	}
}

// P14.2: each client that there is, and no other one.
func TestClients(t *testing.T) {
	for c := range 8 {
		m := with(t, 4480, 4800, c)
		does(t, m, c, alloc(8), at(3808))
		stands(t, "taken", m, used(48, c+1, 8), spare(656))
	}
	for _, c := range []int{-1, 8, 9, -8, 16, 255, 256, 1 << 32, 1<<32 + 1, math.MaxInt, math.MinInt, math.MinInt + 1} {
		m := ready(t)
		for _, op := range append(each(), wrong()...) {
			does(t, m, c, op, fails(api.ErrArg))
		}
	}
}

// P14.2: who isn't live can't do anything, but attach.
func TestNotLive(t *testing.T) {
	for _, way := range []string{"never", "detached", "dead"} {
		for c := 1; c < 8; c++ {
			m := ready(t)
			if way != "never" {
				does(t, m, c, attach(), done())
			}
			switch way {
			case "detached":
				does(t, m, c, detach(), done())
			case "dead":
				does(t, m, c, alloc(8), at(3920))
				dies(t, m, c)
			}
			for _, op := range append(each(), wrong()...) {
				if op.Kind != api.Attach {
					does(t, m, c, op, fails(api.ErrClient))
				}
			}
			does(t, m, c, attach(), done())
			does(t, m, c, alloc(8), at(3920))
		}
	}
}

// P14.2: only Kind, and c, are asked of those that attach and detach.
func TestAttachAndDetach(t *testing.T) {
	m := with(t, 4000, 4000)
	for _, op := range wrong() {
		if op.Kind != api.Attach {
			continue
		}
		does(t, m, 7, op, done())
		if !slices.Equal(m.Live(), []int{7}) {
			t.Errorf("Live: %v", m.Live())
		}
		does(t, m, 7, op, fails(api.ErrThere))
		op.Kind = api.Detach
		does(t, m, 7, op, done())
		if len(m.Live()) != 0 {
			t.Errorf("Live: %v", m.Live())
		}
		does(t, m, 7, op, fails(api.ErrClient))
	}
	does(t, m, 7, attach(), done())
	does(t, m, 6, attach(), done())
	does(t, m, 7, attach(), fails(api.ErrThere))
	does(t, m, 7, alloc(8), at(3808))
	does(t, m, 6, alloc(8), at(3856))
	does(t, m, 7, attach(), fails(api.ErrThere))
	does(t, m, 7, detach(), fails(api.ErrBusy))
	does(t, m, 6, detach(), fails(api.ErrBusy))
	does(t, m, 7, free(3808), done())
	does(t, m, 7, detach(), done()) // the other one's block is none of its own
	stands(t, "detached", m, spare(48), used(48, 7, 8), spare(128))
	does(t, m, 6, publish(3856), done())
	does(t, m, 6, construct("n", 8), at(3808)) // nor is what is everybody's
	does(t, m, 6, detach(), done())
	stands(t, "both are", m, used(48, 0, 8), used(48, 0, 8), spare(128))
	does(t, m, 6, attach(), done())
	does(t, m, 7, attach(), done())
	does(t, m, 7, alloc(0), at(3904)) // one without bytes is one
	does(t, m, 7, detach(), fails(api.ErrBusy))
	does(t, m, 7, give(3904, 6), done())
	does(t, m, 7, detach(), done())
	does(t, m, 6, detach(), fails(api.ErrBusy))
}
