package audit_test

import (
	"slices"
	"strings"
	"testing"

	"carrack/api"
	"carrack/audit"
	"carrack/client"
	"carrack/dir"
	"carrack/head"
	"carrack/ledger"
	"carrack/model"
	"carrack/seg"
	"carrack/tag"
	"carrack/tree"
	"carrack/tx"
)

// part is a block that is laid: whose it is (-1: it is free), how large it is, and how many bytes it has.
type part struct {
	owner     int
	size, len uint64
}

const free = -1

// laid is a segment in which these blocks stand, and 320 bytes behind them. Whoever has one is live, and has them in the turn in which they stand.
func laid(t *testing.T, parts ...part) *seg.Seg {
	t.Helper()
	end := uint64(heap)
	for _, p := range parts {
		end += p.size
	}
	s := seg.New(end + 320)
	if err := head.Format(s, end); err != api.OK {
		t.Fatalf("Format: %d", err)
	}
	x := tx.New(s)
	for i := len(parts) - 1; i >= 0; i-- {
		p := parts[i]
		end -= p.size
		g := tag.Tag{Size: p.size}
		if p.owner != free {
			g = tag.Tag{Size: p.size, Used: true, Owner: p.owner}
			x.Store(end+8, p.len)
		}
		if err := tag.Write(x, end, g); err != api.OK {
			t.Fatalf("%+v: %d", p, err)
		}
		if p.owner > 0 {
			client.Attach(x, p.owner-1)
			ledger.Link(x, p.owner-1, end)
		}
	}
	plant(x)
	x.Apply()
	return s
}

// plant builds the tree of the free blocks as they are thought of.
func plant(x *tx.Tx) {
	var l []uint64
	for off := uint64(heap); off < head.Size(x); {
		g, err := tag.Read(x, off)
		if err != api.OK {
			return
		}
		if !g.Used {
			l = append(l, off)
		}
		off += g.Size
	}
	tree.Build(x, l)
}

// Where the blocks of harbour stand.
const (
	mine0  = 3776 // 24 bytes of the client 0
	free0  = 3840
	mine1  = 3888 // none of the client 1
	nameA  = 3936 // 9 bytes that "a" stands for, and 16 that are over
	mine00 = 4016 // 8 bytes of the client 0
	free1  = 4064
	nameAB = 4160 // 8 bytes that "ab" stands for
	public = 4208 // 8 bytes of everybody's
	dead2  = 4256 // 16 bytes of the client 2, that died
	free2  = 4320
	ends   = 4480
)

// harbour is a segment that is right, with all that may stand in one; the clients 0, 1 and 7 are live.
func harbour(t *testing.T) *seg.Seg {
	t.Helper()
	s := laid(t, part{1, 64, 24}, part{free, 48, 0}, part{2, 48, 0}, part{0, 80, 9}, part{1, 48, 8}, part{free, 96, 0}, part{0, 48, 8}, part{0, 48, 8}, part{3, 64, 16}, part{free, 160, 0})
	x := tx.New(s)
	client.Attach(x, 7)
	client.Kill(x, 2)
	dir.Put(x, "ab", nameAB+front)
	dir.Put(x, "a", nameA+front)
	for i, off := range []uint64{mine0, mine0 + 8, mine0 + 16, nameA, nameA + 8, mine00, nameAB, public, dead2, dead2 + 8} {
		x.Store(off+front, uint64(i)*mixer)
	}
	x.Apply()
	return s
}

// moored is what harbour stands for.
func moored() audit.View {
	word := func(i uint64) uint64 { return i * mixer }
	return audit.View{
		Size: ends,
		Blocks: []model.Block{
			{Off: mine0, Size: 64, Used: true, Owner: 1, Len: 24, Data: []uint64{word(0), word(1), word(2)}},
			{Off: free0, Size: 48},
			{Off: mine1, Size: 48, Used: true, Owner: 2},
			{Off: nameA, Size: 80, Used: true, Len: 9, Data: []uint64{word(3), word(4)}},
			{Off: mine00, Size: 48, Used: true, Owner: 1, Len: 8, Data: []uint64{word(5)}},
			{Off: free1, Size: 96},
			{Off: nameAB, Size: 48, Used: true, Len: 8, Data: []uint64{word(6)}},
			{Off: public, Size: 48, Used: true, Len: 8, Data: []uint64{word(7)}},
			{Off: dead2, Size: 64, Used: true, Owner: 3, Len: 16, Data: []uint64{word(8), word(9)}},
			{Off: free2, Size: 160},
		},
		Entries: []model.Entry{{Name: "a", Off: nameA + front}, {Name: "ab", Off: nameAB + front}},
		Live:    []int{0, 1, 7},
	}
}

// change is what is done to a segment that is right.
type change struct {
	what string
	do   func(x *tx.Tx)
}

// changed is a segment in which something is done.
func changed(s *seg.Seg, c change) *seg.Seg {
	o := s.Copy()
	x := tx.New(o)
	c.do(x)
	x.Apply()
	return o
}

// wrongs holds that each of some changes makes a segment wrong, rights that none does.
func wrongs(t *testing.T, s *seg.Seg, l ...change) {
	t.Helper()
	told(t, s, api.ErrForm, l)
}

func rights(t *testing.T, s *seg.Seg, l ...change) {
	t.Helper()
	told(t, s, api.OK, l)
}

func told(t *testing.T, s *seg.Seg, want api.Errno, l []change) {
	t.Helper()
	if _, err := looked(t, "as it was", s); err != api.OK {
		t.Fatalf("as it was: %d", err)
	}
	for _, c := range l {
		if _, err := looked(t, c.what, changed(s, c)); err != want {
			t.Errorf("%s: %d, and not %d", c.what, err, want)
		}
	}
}

// store is a word that is another one.
func store(what string, off, v uint64) change {
	return change{what, func(x *tx.Tx) { x.Store(off, v) }}
}

// record is where a word of a client's stands.
func record(c int, what uint64) uint64 { return uint64(64+416*c) + what }

// P16.1: what is told of a segment that is right, part by part.
func TestLook(t *testing.T) {
	v, err := audit.Look(harbour(t))
	if want := moored(); err != api.OK || !same(v, want) {
		t.Fatalf("stands for %+v, with the error %d, and not for %+v", v, err, want)
	}
	for _, b := range v.Blocks {
		if !b.Used && (len(b.Data) > 0 || b.Len != 0 || b.Owner != 0) {
			t.Errorf("free, but %+v", b)
		}
	}
	s := seg.New(4000)
	head.Format(s, 4000)
	v, err = looked(t, "formatted", s)
	if want := (audit.View{Size: 4000, Blocks: []model.Block{{Off: heap, Size: 224}}}); err != api.OK || !same(v, want) {
		t.Errorf("formatted: %+v, with the error %d", v, err)
	}
	v, _ = looked(t, "all used", laid(t, part{0, 48, 8}, part{8, 64, 24}))
	if len(v.Blocks) != 2 || v.Blocks[1].Owner != 8 || !slices.Equal(v.Live, []int{7}) {
		t.Errorf("all used: %+v", v)
	}
}

// P16.1: words are as many as Len bytes take, the last one maybe in part; what stands behind them isn't told.
func TestData(t *testing.T) {
	for _, owner := range []int{0, 1, 8} {
		for n := range uint64(90) {
			s := laid(t, part{owner, 144, n}, part{free, 48, 0})
			for off := uint64(heap + front); off < heap+136; off += 8 {
				s.Store(off, off*mixer)
			}
			v, err := looked(t, "a block", s)
			if err != api.OK || v.Blocks[0].Len != n || len(v.Blocks[0].Data) != int(n+7)/8 {
				t.Fatalf("%d bytes of the owner %d: %+v, with the error %d", n, owner, v.Blocks[0], err)
			}
			for i, w := range v.Blocks[0].Data {
				if off := heap + front + 8*uint64(i); w != off*mixer {
					t.Fatalf("%d bytes: the word %d is %d", n, i, w)
				}
			}
		}
	}
}

// P16.1: names are told bytewise, however their slots stand.
func TestNames(t *testing.T) {
	l := []string{"\x00", "\x00\x00", "A", "a", "a\x00", "aa", "aaaaaaaaaaaaaaa", "ab", "b", "fifteen letters", "\x7f", "\x80", "\xc3\xa9", "\xff", "\xff\x00", "\xff\xff"}
	var parts []part
	for range l {
		parts = append(parts, part{0, 48, 8})
	}
	for turn := range l {
		s := laid(t, parts...)
		x := tx.New(s)
		for i := range l {
			n := (turn + 7*i) % len(l)
			if err := dir.Put(x, l[n], heap+48*uint64(n)+front); err != api.OK {
				t.Fatalf("%q: %d", l[n], err)
			}
		}
		x.Apply()
		v, err := looked(t, "sixteen names", s)
		if err != api.OK || len(v.Entries) != len(l) {
			t.Fatalf("%+v, with the error %d", v.Entries, err)
		}
		for i, e := range v.Entries {
			if e.Name != l[i] || e.Off != heap+48*uint64(i)+front {
				t.Errorf("the name %d is %q at %d, and not %q", i, e.Name, e.Off, l[i])
			}
		}
	}
}

// P16.1: those that are Live, rising, and none that is Dead, or isn't there.
func TestLive(t *testing.T) {
	s := laid(t, part{free, 48, 0})
	for states := range 6561 {
		var want []int
		for c, n := 0, states; c < clients; c, n = c+1, n/3 {
			s.Store(record(c, api.State), uint64(n%3))
			if n%3 == 1 {
				want = append(want, c)
			}
		}
		if v, err := audit.Look(s); err != api.OK || !slices.Equal(v.Live, want) {
			t.Fatalf("%v are live, and not %v, with the error %d", v.Live, want, err)
		}
	}
}

// P16.1: segments that aren't there, or aren't formatted, and each word of the head otherwise.
func TestHead(t *testing.T) {
	if _, err := looked(t, "nil", nil); err != api.ErrForm {
		t.Errorf("nil: %d", err)
	}
	for _, size := range []uint64{8, 16, 24, 64, 3776, 3784, 3816, 3824, 4000, api.MaxSize} {
		if _, err := looked(t, "not formatted", seg.New(size)); err != api.ErrForm {
			t.Errorf("%d bytes, not formatted: %d", size, err)
		}
	}
	s := harbour(t)
	for _, off := range []uint64{api.Magic, api.Version, api.Size, api.Sum, api.Root} {
		v, _ := s.Load(off)
		for _, w := range []uint64{0, 1, 2, 16, v + 1, v - 1, v + 16, v - 16, v ^ 1<<63, v ^ 1<<32, ^v, largest, mine0} {
			if w != v {
				wrongs(t, s, store("a word of the head", off, w))
			}
		}
	}
	wrongs(t, s,
		change{"the heap ends earlier", func(x *tx.Tx) { head.Resize(x, ends-16) }},
		change{"the heap ends later", func(x *tx.Tx) { head.Resize(x, ends+16) }},
		change{"it ends at 3824", func(x *tx.Tx) { head.Resize(x, 3824) }},
		change{"it ends behind the segment", func(x *tx.Tx) { head.Resize(x, ends+336) }},
		change{"it ends ahead of the last block", func(x *tx.Tx) { head.Resize(x, free2) }},
		change{"it ends at 0", func(x *tx.Tx) { head.Resize(x, 0) }})
	rights(t, s,
		change{"it ends ahead of the last block, that isn't in the tree", func(x *tx.Tx) { head.Resize(x, free2); plant(x) }},
		store("the lock is somebody's", api.Lock, 3),
		store("the lock is nobody's", api.Lock, largest))
}

// P16.1: what stands for nothing is asked of nobody: logs, what is over, what is free, and what is behind the heap.
func TestIdle(t *testing.T) {
	s := harbour(t)
	for c := range clients {
		for what := uint64(16); what < api.Record; what += 8 {
			s.Store(record(c, what), largest-what)
		}
	}
	for _, off := range []uint64{mine1 + front, nameA + front + 16, nameA + front + 32, free1 + 24, free1 + 80, free2 + 24, ends, ends + 8, ends + 312} {
		s.Store(off, off|1)
	}
	for _, off := range []uint64{nameA, nameAB, public} { // nobody's list
		s.Store(off+16, mine0)
		s.Store(off+24, off)
	}
	if v, err := looked(t, "scribbled over", s); err != api.OK || !same(v, moored()) {
		t.Errorf("stands for %+v, with the error %d", v, err)
	}
}

// P16.1: blocks that aren't just the heap.
func TestBlocks(t *testing.T) {
	s := harbour(t)
	wrongs(t, s,
		store("no tag", free1, 0),
		store("no tag, not again", free1+88, 0),
		store("another one again", free1+88, 97),
		store("a smaller one", free1, 48),
		store("one that isn't a block's", free1, 40),
		store("nobody's owner", mine1, 9<<32|49),
		store("a free one with an owner", free1, 1<<32|96),
		change{"it ends behind the heap", func(x *tx.Tx) { x.Store(free2, 176); x.Store(free2+168, 176) }},
		change{"it ends ahead of it", func(x *tx.Tx) { tag.Write(x, free2, tag.Tag{Size: 144}) }},
		store("more bytes than it has", mine00+8, 9),
		store("bytes that are too many to be told", mine00+8, largest),
		store("a word behind its tag", mine0+8, 25))
	rights(t, s,
		store("fewer bytes", mine0+8, 7),
		store("none", mine00+8, 0),
		store("all that there are", nameA+8, 40))
	for _, l := range [][]part{
		{{free, 48, 0}, {free, 48, 0}},
		{{free, 64, 0}, {free, 48, 0}, {0, 48, 8}},
		{{0, 48, 8}, {free, 48, 0}, {free, 96, 0}},
		{{1, 48, 8}, {free, 48, 0}, {free, 96, 0}, {2, 48, 8}, {free, 48, 0}},
		{{free, 48, 0}, {0, 48, 8}, {free, 48, 0}, {free, 48, 0}, {free, 48, 0}},
	} {
		if _, err := looked(t, "beside each other", laid(t, l...)); err != api.ErrForm {
			t.Errorf("two free ones beside each other, of %+v: %d", l, err)
		}
	}
}

// P16.1: a tree that isn't that of just the free blocks.
func TestTree(t *testing.T) {
	s := harbour(t)
	x := tx.New(s)
	leaf := slices.IndexFunc([]uint64{free0, free1, free2}, func(off uint64) bool { return x.Load(off+8)|x.Load(off+16) == 0 })
	lowest := []uint64{free0, free1, free2}[leaf]
	for _, off := range []uint64{free0, free1, free2} {
		wrongs(t, s,
			change{"it lacks one", func(x *tx.Tx) { tree.Delete(x, off) }},
			change{"it has just one", func(x *tx.Tx) { tree.Build(x, []uint64{off}) }},
			change{"another one is the root", func(x *tx.Tx) { x.Store(api.Root, off); x.Store(off+8, x.Load(off+8)+16) }},
			store("another left son", off+8, off),
			store("another right son", off+16, off),
			store("a left son that is nobody's", off+8, 8),
			store("a right son that is far away", off+16, largest-7),
			change{"sons that stand elsewhere", func(x *tx.Tx) {
				l, r := x.Load(off+8), x.Load(off+16)
				x.Store(off+8, r+16)
				x.Store(off+16, l)
			}})
	}
	wrongs(t, s,
		change{"it has none", func(x *tx.Tx) { tree.Build(x, nil) }},
		change{"it has one twice, to the left", func(x *tx.Tx) { x.Store(lowest+8, head.Root(x)) }},
		change{"it has one twice, to the right", func(x *tx.Tx) { x.Store(lowest+16, head.Root(x)) }},
		change{"it has a used one", func(x *tx.Tx) { tree.Insert(x, mine1) }},
		change{"it has one of everybody's", func(x *tx.Tx) { tree.Build(x, []uint64{free0, free1, free2, public}); x.Store(public+8, 0) }})
	all := laid(t, part{0, 48, 0})
	wrongs(t, all, store("a used one is the root", api.Root, heap))
	one := laid(t, part{0, 48, 0}, part{free, 48, 0})
	wrongs(t, one,
		store("a used one is the root", api.Root, heap),
		store("nobody is the root", api.Root, 0),
		store("a used one is a left son", heap+48+8, heap),
		store("a used one is a right son", heap+48+16, heap),
		store("it is its own left son", heap+48+8, heap+48),
		store("it is its own right son", heap+48+16, heap+48))
}

// P16.1: lists that aren't just their clients' blocks, each once.
func TestLists(t *testing.T) {
	s := harbour(t)
	first := func(c int, off uint64) func(x *tx.Tx) { return func(x *tx.Tx) { client.Point(x, c, off) } }
	own := func(off uint64, owner int) func(x *tx.Tx) {
		return func(x *tx.Tx) {
			g, _ := tag.Read(x, off)
			g.Owner = owner
			tag.Write(x, off, g)
		}
	}
	wrongs(t, s,
		change{"it lacks the first one", func(x *tx.Tx) { ledger.Unlink(x, 0, mine0) }},
		change{"it lacks the last one", func(x *tx.Tx) { ledger.Unlink(x, 0, mine00) }},
		change{"it lacks the only one", func(x *tx.Tx) { ledger.Unlink(x, 1, mine1) }},
		change{"it lacks that of one who died", func(x *tx.Tx) { ledger.Unlink(x, 2, dead2) }},
		change{"it has another one's, and all of its own", func(x *tx.Tx) { ledger.Link(x, 0, mine1) }},
		change{"it has another one's, and none of its own", first(7, mine1)},
		change{"it has another one's in place of its own", func(x *tx.Tx) { client.Point(x, 1, dead2); client.Point(x, 2, mine1) }},
		change{"it has one of everybody's", func(x *tx.Tx) { ledger.Link(x, 0, public) }},
		change{"it has one of everybody's alone", first(7, public)},
		change{"its block is another one's", own(mine1, 8)},
		change{"its block is everybody's", own(mine1, 0)},
		change{"everybody's block is its own", own(public, 1)},
		change{"it has what is no block", first(7, ends)},
		change{"it has what is in a block", first(7, mine1+8)},
		change{"it has what is in the head", first(7, 48)},
		change{"it has what is far away", first(7, largest-7)},
		change{"it has one twice", func(x *tx.Tx) { x.Store(mine00+16, mine0) }},
		change{"it has one twice, from both sides", func(x *tx.Tx) { x.Store(mine00+16, mine0); x.Store(mine0+24, mine00) }},
		change{"the only one comes back to itself", func(x *tx.Tx) { x.Store(mine1+16, mine1) }},
		change{"the only one comes back to itself, from both sides", func(x *tx.Tx) { x.Store(mine1+16, mine1); x.Store(mine1+24, mine1) }},
		store("the first one has one ahead of it", mine0+24, mine00),
		store("the last one has nobody ahead of it", mine00+24, 0),
		store("the last one has another one ahead of it", mine00+24, mine1),
		store("the first one has nobody behind it", mine0+16, 0),
		store("the last one has another one behind it", mine00+16, mine1))
	rights(t, s,
		change{"it stands in another turn", func(x *tx.Tx) { ledger.Unlink(x, 0, mine00); ledger.Link(x, 0, mine00) }},
		change{"its block is another one's, whose list has it", func(x *tx.Tx) { ledger.Unlink(x, 1, mine1); ledger.Link(x, 7, mine1); own(mine1, 8)(x) }},
		change{"its block is everybody's, and isn't in its list", func(x *tx.Tx) { ledger.Unlink(x, 0, mine0); own(mine0, 0)(x) }})
	one := laid(t, part{0, 48, 8}, part{free, 64, 0}, part{1, 48, 8})
	for c := 1; c < clients; c++ { // a tree of one block has no sons, so it looks like a list's only one
		wrongs(t, one, change{"it has a free one", func(x *tx.Tx) { client.Attach(x, c); client.Point(x, c, heap+48) }})
	}
	wrongs(t, one, change{"it has a free one, too", func(x *tx.Tx) { ledger.Link(x, 0, heap+48) }})
}

// P16.1: each client's blocks are its own, whichever it is.
func TestOwners(t *testing.T) {
	var parts []part
	for owner := range 9 {
		parts = append(parts, part{owner, 48, 8})
	}
	s := laid(t, parts...)
	rights(t, s)
	for c := range clients {
		off := heap + 48*uint64(c+1)
		wrongs(t, s,
			change{"it has no list", func(x *tx.Tx) { client.Point(x, c, 0) }},
			change{"it has everybody's, too", func(x *tx.Tx) { ledger.Link(x, c, heap) }},
			change{"it has the next one's", func(x *tx.Tx) {
				client.Point(x, c, heap+48*uint64((c+1)%clients+1))
				client.Point(x, (c+1)%clients, off)
			}},
			change{"it is Nobody", func(x *tx.Tx) { client.Clear(x, c) }},
			store("its State is none", record(c, api.State), 3))
		rights(t, s, change{"it is Dead", func(x *tx.Tx) { client.Kill(x, c) }})
	}
}

// P16.1: each State that there is, and those that there aren't.
func TestStates(t *testing.T) {
	s := harbour(t)
	for c := range clients {
		for _, state := range []uint64{3, 4, 8, 255, 1 << 32, 1<<32 + 1, 1<<63 + 2, largest - 1, largest} {
			wrongs(t, s, store("a State that is none", record(c, api.State), state))
		}
		has := slices.Contains([]int{0, 1, 2}, c)
		for state := range uint64(3) {
			one := store("another State", record(c, api.State), state)
			if state == 0 && has {
				wrongs(t, s, one)
			} else {
				rights(t, s, one)
			}
		}
		if !has {
			wrongs(t, s, change{"Nobody with a list", func(x *tx.Tx) { client.Clear(x, c); client.Point(x, c, mine1) }})
		}
	}
}

// slotAt is where a word of a slot stands.
func slotAt(slot, i uint64) uint64 { return names + 24*(slot%slots) + 8*i }

// put lets a name stand for a payload, stand one that stood already.
func put(name string, payload uint64) change {
	return change{name + " is put", func(x *tx.Tx) { dir.Put(x, name, payload) }}
}

func stand(name string, payload uint64) change {
	return change{name + " stands for another one", func(x *tx.Tx) {
		was, _ := dir.Find(x, name)
		for slot := range uint64(slots) {
			if x.Load(slotAt(slot, 2)) == was {
				x.Store(slotAt(slot, 2), payload)
			}
		}
	}}
}

// P16.1: payloads that names may stand for, and those that they may not.
func TestSlots(t *testing.T) {
	s := harbour(t)
	for _, payload := range []uint64{
		2, 3, 16, 31, 32, 33, 64, heap, public, public + 24, public + 33, public + 40, public + 48, ends, ends + front, ends + 320, 1 << 32, largest - 31, largest, // none
		free0 + front, free1 + front, free2 + front, // free ones'
		mine0 + front, mine1 + front, mine00 + front, dead2 + front, // clients' own
	} {
		wrongs(t, s, put("b", payload), put("fifteen letters", payload), stand("a", payload), stand("ab", payload))
	}
	for _, payload := range []uint64{nameA + front, nameAB + front} { // those that another one stands for
		wrongs(t, s, put("b", payload), put("fifteen letters", payload))
	}
	wrongs(t, s, stand("a", nameAB+front), stand("ab", nameA+front))
	rights(t, s, stand("a", 0), stand("a", 1), stand("ab", 1), stand("a", public+front), stand("ab", public+front))
	for _, name := range []string{"b", "A", "aa", "\x00", "fifteen letters"} {
		rights(t, s, put(name, public+front))
		v, _ := audit.Look(changed(s, put(name, public+front)))
		if len(v.Entries) != 3 || !slices.Contains(v.Entries, model.Entry{Name: name, Off: public + front}) {
			t.Errorf("%q is put: %+v", name, v.Entries)
		}
	}
	rights(t, s,
		change{"a is dropped", func(x *tx.Tx) { dir.Drop(x, "a") }},
		change{"all are dropped", func(x *tx.Tx) { dir.Drop(x, "a"); dir.Drop(x, "ab") }},
		change{"a is dropped, and its block is another one's", func(x *tx.Tx) {
			dir.Drop(x, "a")
			tag.Write(x, nameA, tag.Tag{Size: 80, Used: true, Owner: 8})
			ledger.Link(x, 7, nameA)
		}})
}

// P16.1: slots whose words are no name's, with each payload.
func TestNoNames(t *testing.T) {
	s := laid(t, part{0, 48, 8}, part{0, 48, 8})
	for slot := range uint64(slots) {
		for _, w := range [][2]uint64{{0, 0}, {16, 0}, {255, 0}, {0x6100, 0}, {0x626101, 0}, {0x6101, 1}, {0x0f, 1 << 63}, {0x6108, 0x100}, {largest, largest}, {0, 1}} {
			words := func(payload uint64) change {
				return change{"no name", func(x *tx.Tx) {
					x.Store(slotAt(slot, 0), w[0])
					x.Store(slotAt(slot, 1), w[1])
					x.Store(slotAt(slot, 2), payload)
				}}
			}
			rights(t, s, words(0), words(1))
			if w != [2]uint64{0x0f, 1 << 63} { // a name of fifteen bytes, most of which are 0
				wrongs(t, s, words(heap+front), words(heap+48+front), words(2), words(largest))
			}
		}
	}
}

// P16.1: names that stand by another slot, or by none.
func TestFound(t *testing.T) {
	s := laid(t, part{0, 48, 8}, part{0, 48, 8}, part{0, 48, 8})
	const one, two = heap + front, heap + 48 + front
	for _, name := range []string{"a", "b", "anchor", "\x00", "fifteen letters"} {
		w := uint64(len(name))
		for i, b := range []byte(name) {
			if i < 7 {
				w |= uint64(b) << (8 * (i + 1))
			}
		}
		var second uint64
		for i := 7; i < len(name); i++ {
			second |= uint64(name[i]) << (8 * (i - 7))
		}
		lay := func(x *tx.Tx, places, payload uint64) { // so many places behind the first slot of its way
			slot := hash(name) + places
			x.Store(slotAt(slot, 0), w)
			x.Store(slotAt(slot, 1), second)
			x.Store(slotAt(slot, 2), payload)
		}
		bar := func(x *tx.Tx, places, payload uint64) { x.Store(slotAt(hash(name)+places, 2), payload) }
		rights(t, s,
			change{"it stands in its first slot", func(x *tx.Tx) { lay(x, 0, one) }},
			change{"forgotten ones stand ahead of it", func(x *tx.Tx) { bar(x, 0, 1); bar(x, 1, 1); lay(x, 2, one) }},
			change{"all are forgotten ahead of it", func(x *tx.Tx) {
				for i := range uint64(slots) {
					lay(x, i, 1)
				}
				lay(x, 15, two)
			}},
			change{"it stood elsewhere", func(x *tx.Tx) { lay(x, 0, 1); lay(x, 1, two); lay(x, 2, 1); lay(x, 5, 0) }})
		for i := uint64(1); i < slots; i++ {
			wrongs(t, s,
				change{"it stands behind an empty one", func(x *tx.Tx) { lay(x, i, one) }},
				change{"it stands twice, with two payloads", func(x *tx.Tx) {
					for k := range i {
						bar(x, k, 1)
					}
					lay(x, 0, one)
					lay(x, i, two)
				}},
				change{"it stands twice, with one payload", func(x *tx.Tx) {
					for k := range i {
						bar(x, k, 1)
					}
					lay(x, 0, one)
					lay(x, i, one)
				}},
				change{"it stands twice, once behind an empty one", func(x *tx.Tx) { lay(x, 0, one); lay(x, i, two) }})
		}
	}
	wrongs(t, s,
		change{"two names with one payload", func(x *tx.Tx) { dir.Put(x, "a", one); dir.Put(x, "b", one) }},
		change{"two of three with one payload", func(x *tx.Tx) { dir.Put(x, "a", one); dir.Put(x, "b", two); dir.Put(x, "c", one) }})
	rights(t, s, change{"two names", func(x *tx.Tx) { dir.Put(x, "a", one); dir.Put(x, "b", two) }})
}

// P1: segments of any words.
func TestAnyWords(t *testing.T) {
	p := picks(5)
	for range 400 {
		s := seg.New(8 + 8*uint64(p.below(600)))
		for off := uint64(0); off < s.Size(); off += 8 {
			s.Store(off, p.next()>>(8*p.below(8)))
		}
		if _, err := looked(t, "any words", s); err != api.ErrForm {
			t.Fatalf("any words: %d", err)
		}
	}
	s := laid(t, part{1, 48, 8}, part{free, api.MaxSize - heap - 48 - 320, 0})
	wrongs(t, s, // lists that don't end, in as large a segment as there is
		change{"it comes back", func(x *tx.Tx) { x.Store(heap+16, heap) }},
		change{"each client's comes back", func(x *tx.Tx) {
			x.Store(heap+16, heap)
			for c := range clients {
				client.Kill(x, c)
				client.Point(x, c, heap)
			}
		}},
		store("it goes through all words", heap+16, heap+80))
}

// R3: what is told is the caller's own.
func TestOwn(t *testing.T) {
	s := harbour(t)
	m := model.New(4480, 4800)
	for _, op := range []api.Op{{Kind: api.Attach}, {Kind: api.Alloc, N: 24}, {Kind: api.Construct, Name: "n", N: 16}, {Kind: api.Alloc, N: 8}} {
		m.Do(1, op)
	}
	look := func() audit.View { v, _ := audit.Look(s); return v }
	of := func() audit.View { return audit.Of(m) }
	for i, tell := range []func() audit.View{look, of} {
		v, again := tell(), tell()
		for k := range v.Blocks { // no two of its lists share what is behind them
			_ = append(v.Blocks[k].Data, 99)
		}
		if !same(v, again) {
			t.Errorf("%d: its words share something: %+v", i, v)
		}
		for k := range v.Blocks {
			for n := range v.Blocks[k].Data {
				v.Blocks[k].Data[n]++
			}
			v.Blocks[k].Off++
		}
		for k := range v.Entries {
			v.Entries[k] = model.Entry{}
		}
		for k := range v.Live {
			v.Live[k]++
		}
		if !same(again, tell()) {
			t.Errorf("%d: what was told is changed: %+v", i, again)
		}
	}
	if v, err := looked(t, "behind that", s); err != api.OK || !same(v, moored()) {
		t.Errorf("the segment stands for %+v, with the error %d", v, err)
	}
	v := look()
	s.Store(mine0+front, 77)
	s.Store(record(7, api.State), 0)
	if !same(v, moored()) {
		t.Errorf("what was told follows the segment: %+v", v)
	}
	v = of()
	was := of()
	m.Do(1, api.Op{Kind: api.Write, Off: 3808, V: 5})
	m.Do(1, api.Op{Kind: api.Destroy, Name: "n"})
	if !same(v, was) {
		t.Errorf("what was told follows the state: %+v", v)
	}
}

// P16.2: a model's state.
func TestOf(t *testing.T) {
	if v := audit.Of(nil); v.Size != 0 || len(v.Blocks)+len(v.Entries)+len(v.Live) != 0 {
		t.Errorf("of nil: %+v", v)
	}
	m := model.New(4480, 4800)
	if v, want := audit.Of(m), (audit.View{Size: 4480, Blocks: []model.Block{{Off: heap, Size: 704}}}); !same(v, want) {
		t.Errorf("new: %+v, and not %+v", v, want)
	}
	for _, x := range []struct {
		c  int
		op api.Op
	}{
		{5, api.Op{Kind: api.Attach}},
		{1, api.Op{Kind: api.Attach}},
		{1, api.Op{Kind: api.Alloc, N: 9}},
		{5, api.Op{Kind: api.Construct, Name: "b", N: 8}},
		{5, api.Op{Kind: api.Construct, Name: "ab", N: 0}},
		{1, api.Op{Kind: api.Write, Off: 3808, I: 1, V: 7}},
		{5, api.Op{Kind: api.Grow, N: 64}},
	} {
		if r := m.Do(x.c, x.op); r.Err != api.OK {
			t.Fatalf("%+v: %+v", x, r)
		}
	}
	want := audit.View{
		Size: 4544,
		Blocks: []model.Block{
			{Off: 3776, Size: 64, Used: true, Owner: 2, Len: 9, Data: []uint64{0, 7}},
			{Off: 3840, Size: 48, Used: true, Len: 8, Data: []uint64{0}},
			{Off: 3888, Size: 48, Used: true},
			{Off: 3936, Size: 608},
		},
		Entries: []model.Entry{{Name: "ab", Off: 3920}, {Name: "b", Off: 3872}},
		Live:    []int{1, 5},
	}
	if v := audit.Of(m); !same(v, want) {
		t.Errorf("%+v, and not %+v", v, want)
	}
	m.Kill(5)
	want.Live = []int{1}
	if v := audit.Of(m); !same(v, want) {
		t.Errorf("behind a death: %+v, and not %+v", v, want)
	}
}

// P16.2: whatever one thing is otherwise.
func TestSame(t *testing.T) {
	for i, f := range []func(v *audit.View){
		func(v *audit.View) { v.Size++ },
		func(v *audit.View) { v.Size = 0 },
		func(v *audit.View) { v.Size ^= 1 << 63 },
		func(v *audit.View) { v.Blocks[0].Off++ },
		func(v *audit.View) { v.Blocks[9].Off ^= 1 << 40 },
		func(v *audit.View) { v.Blocks[0].Size += 16 },
		func(v *audit.View) { v.Blocks[9].Size-- },
		func(v *audit.View) { v.Blocks[0].Used = false },
		func(v *audit.View) { v.Blocks[9].Used = true },
		func(v *audit.View) { v.Blocks[0].Owner = 2 },
		func(v *audit.View) { v.Blocks[9].Owner = -1 },
		func(v *audit.View) { v.Blocks[0].Len-- },
		func(v *audit.View) { v.Blocks[9].Len = 1 },
		func(v *audit.View) { v.Blocks[0].Data[0]++ },
		func(v *audit.View) { v.Blocks[0].Data[2] = 0 },
		func(v *audit.View) { v.Blocks[0].Data = v.Blocks[0].Data[:2] },
		func(v *audit.View) { v.Blocks[0].Data = nil },
		func(v *audit.View) { v.Blocks[9].Data = []uint64{0} },
		func(v *audit.View) { v.Blocks = v.Blocks[:9] },
		func(v *audit.View) { v.Blocks = v.Blocks[1:] },
		func(v *audit.View) { v.Blocks = nil },
		func(v *audit.View) { v.Blocks = append(v.Blocks, model.Block{}) },
		func(v *audit.View) { v.Blocks[0], v.Blocks[1] = v.Blocks[1], v.Blocks[0] },
		func(v *audit.View) { v.Entries[0].Name = "b" },
		func(v *audit.View) { v.Entries[1].Name = "AB" },
		func(v *audit.View) { v.Entries[1].Name = strings.Repeat("ab", 2) },
		func(v *audit.View) { v.Entries[0].Off++ },
		func(v *audit.View) { v.Entries[1].Off = 0 },
		func(v *audit.View) { v.Entries[0], v.Entries[1] = v.Entries[1], v.Entries[0] },
		func(v *audit.View) { v.Entries = v.Entries[:1] },
		func(v *audit.View) { v.Entries = v.Entries[1:] },
		func(v *audit.View) { v.Entries = nil },
		func(v *audit.View) { v.Entries = append(v.Entries, model.Entry{}) },
		func(v *audit.View) { v.Live[0] = 2 },
		func(v *audit.View) { v.Live[2] = 6 },
		func(v *audit.View) { v.Live = v.Live[:2] },
		func(v *audit.View) { v.Live = v.Live[1:] },
		func(v *audit.View) { v.Live = nil },
		func(v *audit.View) { v.Live = append(v.Live, 0) },
		func(v *audit.View) { *v = audit.View{} },
	} {
		a, b := moored(), moored()
		if !audit.Same(a, b) || !audit.Same(a, a) {
			t.Fatalf("the same aren't")
		}
		f(&b)
		was := moored()
		f(&was)
		if audit.Same(a, b) || audit.Same(b, a) {
			t.Errorf("%d: %+v and %+v are the same", i, a, b)
		}
		if !same(a, moored()) || !same(b, was) {
			t.Errorf("%d: what was handed in is changed", i)
		}
	}
}

// P16.2, R2: nil and empty are the same.
func TestSameEmpty(t *testing.T) {
	empty := audit.View{Blocks: []model.Block{}, Entries: []model.Entry{}, Live: []int{}}
	if !audit.Same(audit.View{}, empty) || !audit.Same(empty, audit.View{}) || !audit.Same(empty, audit.Of(nil)) {
		t.Errorf("nil and empty are unlike")
	}
	a, b := moored(), moored()
	a.Blocks[1].Data, b.Blocks[1].Data = nil, []uint64{}
	a.Blocks[0].Data, b.Blocks[0].Data = []uint64{}, nil
	if !audit.Same(a, b) || !audit.Same(b, a) {
		t.Errorf("blocks without words are unlike")
	}
}
