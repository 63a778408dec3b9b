package plan_test

import (
	"cmp"
	"slices"
	"testing"

	"carrack/api"
	"carrack/client"
	"carrack/dir"
	"carrack/head"
	"carrack/ledger"
	"carrack/model"
	"carrack/phys"
	"carrack/plan"
	"carrack/seg"
	"carrack/tree"
	"carrack/tx"
)

// Where words stand, and how many there may be, as the document says it.
const (
	heap    = 3776
	front   = 32
	root    = 32
	logs    = 24
	clients = 8
	largest = 1<<64 - 1
)

// view is a state, with each client's blocks, the last one that came first.
type view struct {
	size    uint64
	blocks  []model.Block
	entries []model.Entry
	live    []int
	lists   [clients][]uint64
}

func sameBlock(a, b model.Block) bool {
	return a.Off == b.Off && a.Size == b.Size && a.Used == b.Used && a.Owner == b.Owner && a.Len == b.Len && slices.Equal(a.Data, b.Data)
}

func sameView(a, b view) bool {
	for c := range clients {
		if !slices.Equal(a.lists[c], b.lists[c]) {
			return false
		}
	}
	return a.size == b.size && slices.EqualFunc(a.blocks, b.blocks, sameBlock) && slices.Equal(a.entries, b.entries) && slices.Equal(a.live, b.live)
}

// frees are the offsets of the free blocks.
func (v view) frees() []uint64 {
	var l []uint64
	for _, b := range v.blocks {
		if !b.Used {
			l = append(l, b.Off)
		}
	}
	return l
}

// idle tells whether a word is, in a segment that stands for the state.
func (v view) idle(off uint64) bool {
	for _, b := range v.blocks {
		if off < b.Off || off >= b.Off+b.Size {
			continue
		}
		from := b.Off + 24
		if b.Used {
			from = b.Off + 32 + (b.Len+7)/8*8
		}
		return off >= from && off != b.Off+b.Size-8
	}
	return off >= v.size
}

// isTree tells whether a word is the head's Root, or a son of a free block.
func (v view) isTree(off uint64) bool {
	return off == root || slices.ContainsFunc(v.blocks, func(b model.Block) bool {
		return !b.Used && (off == b.Off+8 || off == b.Off+16)
	})
}

// stands is the state for which a segment stands, thought the one for which it would, if what is thought of were so; both fail, if that is none.
func stands(t *testing.T, what string, s *seg.Seg) view {
	t.Helper()
	return thought(t, what, tx.New(s))
}

func thought(t *testing.T, what string, x *tx.Tx) view {
	t.Helper()
	l, err := phys.Walk(x)
	if err != api.OK || !phys.Merged(l) {
		t.Fatalf("%s: its blocks are %v, with the error %d", what, l, err)
	}
	v := view{size: head.Size(x), live: client.All(x, 1)}
	for _, b := range l {
		m := model.Block{Off: b.Off, Size: b.Tag.Size, Used: b.Tag.Used, Owner: b.Tag.Owner, Len: b.Len}
		for i := range (b.Len + 7) / 8 {
			m.Data = append(m.Data, x.Load(b.Off+front+8*i))
		}
		v.blocks = append(v.blocks, m)
	}
	if !tree.Check(x, v.frees()) {
		t.Fatalf("%s: its tree isn't that of %v", what, v.frees())
	}
	for c := range clients {
		v.lists[c] = ledger.List(x, c)
		if !ledger.Check(x, c, v.lists[c]) {
			t.Fatalf("%s: the client %d's list isn't right", what, c)
		}
	}
	for _, e := range dir.All(x) {
		if off, ok := dir.Find(x, e.Name); off != e.Off || !ok {
			t.Fatalf("%s: %q isn't found", what, e.Name)
		}
		v.entries = append(v.entries, model.Entry{Name: e.Name, Off: e.Off})
	}
	slices.SortFunc(v.entries, func(a, b model.Entry) int { return cmp.Compare(a.Name, b.Name) })
	return v
}

// pair is a segment, a state for which it stands, and each client's blocks, which the state doesn't tell.
type pair struct {
	s     *seg.Seg
	m     *model.State
	lists [clients][]uint64
}

func paired(t *testing.T, size, all uint64) *pair {
	t.Helper()
	p := &pair{s: seg.New(all), m: model.New(size, all)}
	if err := head.Format(p.s, size); err != api.OK {
		t.Fatalf("Format of %d bytes at %d: %d", all, size, err)
	}
	return p
}

// with is one with some clients that are live, in which some operations of the first one are done.
func with(t *testing.T, size, all uint64, live []int, ops ...api.Op) *pair {
	t.Helper()
	p := paired(t, size, all)
	for _, c := range live {
		p.does(t, c, api.Op{Kind: api.Attach}, api.Res{})
	}
	for _, op := range ops {
		if r := p.do(t, live[0], op); r.Err != api.OK {
			t.Fatalf("%+v: %+v", op, r)
		}
	}
	return p
}

// view is the state, as it should be.
func (p *pair) view() view {
	return view{size: p.m.Size(), blocks: p.m.Blocks(), entries: p.m.Entries(), live: p.m.Live(), lists: p.lists}
}

// turns lets the lists be as they are behind what an operation told.
func (p *pair) turns(c int, op api.Op, r api.Res) {
	without := func(payload uint64) {
		for c := range clients {
			p.lists[c] = slices.DeleteFunc(slices.Clone(p.lists[c]), func(off uint64) bool { return off+front == payload })
		}
	}
	first := func(c int, payload uint64) { p.lists[c] = slices.Insert(slices.Clone(p.lists[c]), 0, payload-front) }
	switch {
	case r.Err != api.OK:
	case op.Kind == api.Alloc || op.Kind == api.Aligned || op.Kind == api.Calloc:
		first(c, r.Off)
	case op.Kind == api.Realloc && r.Off != op.Off:
		without(op.Off)
		first(c, r.Off)
	case op.Kind == api.Free || op.Kind == api.Publish:
		without(op.Off)
	case op.Kind == api.Give:
		without(op.Off)
		first(op.To, op.Off)
	}
}

// do does an operation in both, and holds all that is promised of its plan.
func (p *pair) do(t *testing.T, c int, op api.Op) api.Res {
	t.Helper()
	before, was := p.view(), p.s.Copy()
	got := plan.Make(p.s, c, op)
	if l := seg.Diff(p.s, was); len(l) > 0 {
		t.Fatalf("Make of %d, %+v: words at %v aren't as they were", c, op, l)
	}
	want := p.m.Do(c, op)
	p.turns(c, op, want)
	after := p.view()
	if got.Res != want {
		t.Fatalf("Make of %d, %+v: %+v, and not %+v", c, op, got.Res, want)
	}
	if len(got.Log) > logs {
		t.Fatalf("Make of %d, %+v: %d words in Log", c, op, len(got.Log))
	}
	if none := len(got.Pre) == 0 && len(got.Tree) == 0; !none && len(got.Log) == 0 || want.Err != api.OK && (!none || len(got.Log) > 0) {
		t.Fatalf("Make of %d, %+v: the words %+v", c, op, got)
	}
	parts(t, op, got, before, after)
	partly(t, "some of Pre", p.s, got, before)
	all := stored(p.s, got.Pre, got.Log, got.Tree)
	if v := stands(t, "all words", all); !sameView(v, after) {
		t.Fatalf("%d, %+v: stands for %+v, and not for %+v", c, op, v, after)
	}
	rebuilt(t, op, p.s, got, after, all)
	if r := plan.Run(p.s, c, op); r != want {
		t.Fatalf("Run of %d, %+v: %+v, and not %+v", c, op, r, want)
	}
	if l := seg.Diff(p.s, all); len(l) > 0 {
		t.Fatalf("Run of %d, %+v: words at %v aren't those of Make", c, op, l)
	}
	return want
}

// does does an operation, that should tell something.
func (p *pair) does(t *testing.T, c int, op api.Op, want api.Res) {
	t.Helper()
	if got := p.do(t, c, op); got != want {
		t.Errorf("%d, %+v: %+v, and not %+v", c, op, got, want)
	}
}

// stored is a copy of a segment in which words are stored, in turn.
func stored(s *seg.Seg, parts ...[]api.Put) *seg.Seg {
	o := s.Copy()
	for _, l := range parts {
		for _, w := range l {
			o.Store(w.Off, w.V)
		}
	}
	return o
}

// parts holds that each word stands in the part that it belongs to, and just once.
func parts(t *testing.T, of any, p plan.Plan, before, after view) {
	t.Helper()
	seen := map[uint64]int{}
	for i, l := range [][]api.Put{p.Pre, p.Log, p.Tree} {
		for _, w := range l {
			want := 1
			if before.idle(w.Off) {
				want = 0
			} else if after.isTree(w.Off) {
				want = 2
			}
			if i != want {
				t.Fatalf("%+v: the word at %d stands in the part %d, and not in %d", of, w.Off, i, want)
			}
			if seen[w.Off]++; seen[w.Off] > 1 {
				t.Fatalf("%+v: the word at %d stands there twice", of, w.Off)
			}
		}
	}
}

// partly holds that parts of Pre, also all of it, leave the state as it was.
func partly(t *testing.T, what string, s *seg.Seg, p plan.Plan, before view) {
	t.Helper()
	n := len(p.Pre)
	for _, l := range [][]api.Put{p.Pre, p.Pre[:n/2], p.Pre[n/2:], p.Pre[:n/3], p.Pre[min(n, 1):]} {
		if len(l) == 0 {
			continue
		}
		if v := stands(t, what, stored(s, l)); !sameView(v, before) {
			t.Fatalf("%s: %v of %v stored, it stands for %+v, and not for %+v", what, l, p.Pre, v, before)
		}
	}
}

// rebuilt holds that Pre and Log, and then the tree of all free blocks, make what all words do.
func rebuilt(t *testing.T, op api.Op, s *seg.Seg, p plan.Plan, after view, all *seg.Seg) {
	t.Helper()
	o := stored(s, p.Pre, p.Log)
	x := tx.New(o)
	tree.Build(x, after.frees())
	x.Apply()
	if l := seg.Diff(o, all); len(l) > 0 {
		t.Fatalf("%+v: the tree built, words at %v aren't as they should be", op, l)
	}
}
