package audit_test

import (
	"slices"
	"testing"

	"carrack/api"
	"carrack/audit"
	"carrack/model"
	"carrack/seg"
)

// Where words stand, and how many there may be, as the document says it.
const (
	names   = 3392
	heap    = 3776
	front   = 32
	clients = 8
	slots   = 16
	largest = 1<<64 - 1

	magic = 0x6361727261636b31
	mixer = 0x9E3779B97F4A7C15
)

// plain reads a segment's words one by one, as the document says them, without the layers below.
type plain struct{ *seg.Seg }

func (p plain) at(off uint64) uint64 {
	v, _ := p.Load(off) // 0, where there is none
	return v
}

// view is what a segment stands for, if it is right.
func (p plain) view() (audit.View, bool) {
	l, ok := p.blocks()
	if !ok || !p.merged(l) || !p.treeOf(l) || !p.lists(l) {
		return audit.View{}, false
	}
	e, ok := p.entries(l)
	if !ok {
		return audit.View{}, false
	}
	v := audit.View{Size: p.at(16), Blocks: l, Entries: e}
	for c := range uint64(clients) {
		if p.at(64+416*c) == 1 {
			v.Live = append(v.Live, int(c))
		}
	}
	return v, true
}

func (p plain) head() bool {
	size := p.at(16)
	return p.at(0) == magic && p.at(8) == 1 && p.at(40) == (magic^size)*mixer && size%16 == 0 && size >= 3824 && size <= p.Size()
}

// blocks are the heap's, if they are just it.
func (p plain) blocks() ([]model.Block, bool) {
	if !p.head() {
		return nil, false
	}
	var l []model.Block
	off, end := uint64(heap), p.at(16)
	for off != end {
		w := p.at(off)
		b := model.Block{Off: off, Size: w & 0x1ffff0, Used: w&1 == 1, Owner: int(w >> 32 & 15)}
		if b.Used && b.Owner <= 8 {
			b.Len = p.at(off + 8)
		}
		again := b.Size | uint64(b.Owner)<<32
		if b.Used {
			again |= 1
		}
		if w != again || b.Owner > 8 || !b.Used && b.Owner > 0 || b.Size < 48 || b.Size > 1<<20 || b.Size > end-off || p.at(off+b.Size-8) != w {
			return nil, false
		}
		if b.Used && (b.Len > b.Size || (max(b.Len, 8)+40+15)/16*16 > b.Size) {
			return nil, false
		}
		for i := range (b.Len + 7) / 8 {
			b.Data = append(b.Data, p.at(off+front+8*i))
		}
		l = append(l, b)
		off += b.Size
	}
	return l, true
}

func (p plain) merged(l []model.Block) bool {
	for i := range l {
		if i > 0 && !l[i].Used && !l[i-1].Used {
			return false
		}
	}
	return true
}

// treeOf tells whether the tree is that of just the free ones.
func (p plain) treeOf(l []model.Block) bool {
	var frees []model.Block
	for _, b := range l {
		if !b.Used {
			frees = append(frees, b)
		}
	}
	return p.below(p.at(32), frees)
}

// below tells whether a block is the root of the tree of some blocks, whose words are as they should be.
func (p plain) below(root uint64, l []model.Block) bool {
	if len(l) == 0 {
		return root == 0
	}
	top := slices.MaxFunc(l, func(a, b model.Block) int {
		if a.Off*mixer < b.Off*mixer {
			return -1
		}
		return 1
	})
	var left, right []model.Block
	for _, b := range l {
		switch {
		case b.Size < top.Size || b.Size == top.Size && b.Off < top.Off:
			left = append(left, b)
		case b.Off != top.Off:
			right = append(right, b)
		}
	}
	return root == top.Off && p.below(p.at(root+8), left) && p.below(p.at(root+16), right)
}

// lists tells whether each client's list is its blocks, and its State one that may be.
func (p plain) lists(l []model.Block) bool {
	owned := map[uint64]int{}
	for _, b := range l {
		if b.Used && b.Owner > 0 {
			owned[b.Off] = b.Owner
		}
	}
	for c := range clients {
		record := uint64(64 + 416*c)
		state, ahead := p.at(record), uint64(0)
		if state > 2 || state == 0 && p.at(record+8) != 0 {
			return false
		}
		for off := p.at(record + 8); off != 0; ahead, off = off, p.at(off+16) {
			if owned[off] != c+1 || p.at(off+24) != ahead {
				return false
			}
			delete(owned, off) // so that no one comes again
		}
	}
	return len(owned) == 0
}

// name is what a slot's two words are.
func (p plain) name(slot uint64) (string, bool) {
	l, err := p.Bytes(names+24*slot, 16)
	if err != api.OK || l[0] == 0 || l[0] > 15 {
		return "", false
	}
	for _, b := range l[1+l[0]:] {
		if b != 0 {
			return "", false
		}
	}
	return string(l[1 : 1+l[0]]), true
}

func (p plain) payload(slot uint64) uint64 { return p.at(names + 24*slot + 16) }

// find is the payload of the slot in which a name stands.
func (p plain) find(name string) uint64 {
	for i := range uint64(slots) {
		slot := (hash(name) + i) % slots
		if p.payload(slot) == 0 {
			break
		}
		if is, ok := p.name(slot); ok && is == name && p.payload(slot) > 1 {
			return p.payload(slot)
		}
	}
	return 0
}

// entries are the names, if all slots are as they should be.
func (p plain) entries(l []model.Block) ([]model.Entry, bool) {
	free := map[uint64]int{} // everybody's, for whom no name stands yet
	for _, b := range l {
		if b.Used && b.Owner == 0 {
			free[b.Off+front] = 1
		}
	}
	var e []model.Entry
	for slot := range uint64(slots) {
		payload := p.payload(slot)
		if payload < 2 {
			continue
		}
		name, ok := p.name(slot)
		if !ok || free[payload] == 0 || p.find(name) != payload {
			return nil, false
		}
		delete(free, payload)
		e = append(e, model.Entry{Name: name, Off: payload})
	}
	slices.SortFunc(e, func(a, b model.Entry) int { return slices.Compare([]byte(a.Name), []byte(b.Name)) })
	return e, true
}

func hash(name string) uint64 {
	h := uint64(14695981039346656037)
	for _, b := range []byte(name) {
		h = (h ^ uint64(b)) * 1099511628211
	}
	return h
}

// same is what Same should tell.
func same(a, b audit.View) bool {
	if a.Size != b.Size || len(a.Blocks) != len(b.Blocks) || !slices.Equal(a.Entries, b.Entries) || !slices.Equal(a.Live, b.Live) {
		return false
	}
	for i, x := range a.Blocks {
		y := b.Blocks[i]
		if x.Off != y.Off || x.Size != y.Size || x.Used != y.Used || x.Owner != y.Owner || x.Len != y.Len || !slices.Equal(x.Data, y.Data) {
			return false
		}
	}
	return true
}

// looked is what is told of a segment: Audit and Look are held against each other, and against the document's words; the segment stays as it is.
func looked(t *testing.T, what string, s *seg.Seg) (audit.View, api.Errno) {
	t.Helper()
	was := s.Copy()
	e := audit.Audit(s)
	v, err := audit.Look(s)
	if l := seg.Diff(s, was); len(l) > 0 {
		t.Fatalf("%s: words at %v aren't as they were", what, l)
	}
	want, ok := plain{s}.view()
	wantErr := api.ErrForm
	if ok {
		wantErr = api.OK
	}
	if e != wantErr || err != wantErr {
		t.Fatalf("%s: Audit tells %d, and Look %d, and not %d", what, e, err, wantErr)
	}
	if !same(v, want) || audit.Same(v, want) != true {
		t.Fatalf("%s: stands for %+v, and not for %+v", what, v, want)
	}
	return v, err
}
