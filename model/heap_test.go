package model_test

import (
	"cmp"
	"math/bits"
	"slices"
	"strconv"
	"testing"

	"carrack/api"
	"carrack/carve"
	"carrack/client"
	"carrack/dir"
	"carrack/head"
	"carrack/ledger"
	"carrack/model"
	"carrack/phys"
	"carrack/release"
	"carrack/resize"
	"carrack/seg"
	"carrack/tag"
	"carrack/tx"
)

// twin is a segment that should stand for the state that a model is in: what the chapters 8 to 13 do is done with it.
type twin struct{ x *tx.Tx }

func twinned(t *testing.T, size, all uint64) twin {
	t.Helper()
	s := seg.New(all)
	if err := head.Format(s, size); err != api.OK {
		t.Fatalf("Format of %d bytes at %d: %d", all, size, err)
	}
	for off := uint64(heap + 24); off < size-8; off += 8 { // what is taken isn't 0 by itself
		s.Store(off, off*3)
	}
	return twin{tx.New(s)}
}

func told(off uint64, err api.Errno) api.Res { return api.Res{Err: err, Off: off} }

// do does an operation, as the chapter 14 says it.
func (w twin) do(c int, op api.Op) api.Res {
	if op.Kind < api.Alloc || op.Kind > api.Attach || c < 0 || c > 7 {
		return fails(api.ErrArg)
	}
	if op.Kind == api.Attach {
		return fails(client.Attach(w.x, c))
	}
	if client.State(w.x, c) != client.Live {
		return fails(api.ErrClient)
	}
	switch op.Kind {
	case api.Detach:
		return fails(client.Detach(w.x, c))
	case api.Grow:
		return fails(resize.Grow(w.x, op.N))
	case api.Alloc:
		return told(carve.Take(w.x, c+1, op.N, 16))
	case api.Aligned:
		return told(carve.Take(w.x, c+1, op.N, op.A))
	case api.Calloc:
		high, n := bits.Mul64(op.N, op.A)
		if high > 0 {
			return fails(api.ErrSize)
		}
		return told(carve.Take(w.x, c+1, n, 16))
	case api.Construct, api.Find, api.Destroy:
		return w.named(op)
	}
	b, ok := phys.Find(w.x, op.Off)
	if !ok {
		return fails(api.ErrBad)
	}
	open := op.Kind == api.Free || op.Kind == api.Write || op.Kind == api.Read
	if b.Tag.Owner != c+1 && !(open && b.Tag.Owner == 0) {
		return fails(api.ErrOwner)
	}
	return w.owned(c, b, op)
}

// named does what is done with names.
func (w twin) named(op api.Op) api.Res {
	if op.Kind == api.Construct {
		if err := dir.Room(w.x, op.Name); err != api.OK {
			return fails(err)
		}
		off, err := carve.Take(w.x, 0, op.N, 16)
		if err == api.OK {
			err = dir.Put(w.x, op.Name, off)
		}
		return told(off, err)
	}
	if n := len(op.Name); n < 1 || n > 15 {
		return fails(api.ErrName)
	}
	off, ok := dir.Find(w.x, op.Name)
	switch {
	case !ok:
		return fails(api.ErrNone)
	case op.Kind == api.Find:
		return at(off)
	}
	dir.Drop(w.x, op.Name)
	return fails(release.Free(w.x, off))
}

// owned does what is done with a block that may be asked for.
func (w twin) owned(c int, b phys.Block, op api.Op) api.Res {
	switch op.Kind {
	case api.Realloc:
		return told(resize.Resize(w.x, op.Off, op.N))
	case api.Free:
		if dir.Named(w.x, op.Off) {
			return fails(api.ErrThere)
		}
		return fails(release.Free(w.x, op.Off))
	case api.Publish:
		ledger.Unlink(w.x, c, b.Off)
		b.Tag.Owner = 0
		return fails(tag.Write(w.x, b.Off, b.Tag))
	case api.Give:
		if op.To < 0 || op.To > 7 {
			return fails(api.ErrArg)
		}
		if client.State(w.x, op.To) != client.Live {
			return fails(api.ErrNone)
		}
		ledger.Unlink(w.x, c, b.Off)
		ledger.Link(w.x, op.To, b.Off)
		b.Tag.Owner = op.To + 1
		return fails(tag.Write(w.x, b.Off, b.Tag))
	}
	if op.I >= (b.Len+7)/8 {
		return fails(api.ErrArg)
	}
	if op.Kind == api.Read {
		return says(w.x.Load(op.Off + 8*op.I))
	}
	w.x.Store(op.Off+8*op.I, op.V)
	return done()
}

// kill lets a client die, and frees its blocks one by one.
func (w twin) kill(c int) {
	if c < 0 || c > 7 {
		return
	}
	for _, off := range ledger.List(w.x, c) {
		release.Free(w.x, off+front)
	}
	client.Clear(w.x, c)
}

// look is the state for which the segment stands.
func (w twin) look(t *testing.T) view {
	t.Helper()
	l, err := phys.Walk(w.x)
	if err != api.OK {
		t.Fatalf("Walk: %d", err)
	}
	v := view{size: head.Size(w.x), live: client.All(w.x, client.Live)}
	for _, b := range l {
		x := model.Block{Off: b.Off, Size: b.Tag.Size, Used: b.Tag.Used, Owner: b.Tag.Owner, Len: b.Len}
		for i := range (b.Len + 7) / 8 {
			x.Data = append(x.Data, w.x.Load(b.Off+front+8*i))
		}
		v.blocks = append(v.blocks, x)
	}
	for _, e := range dir.All(w.x) {
		v.entries = append(v.entries, model.Entry{Name: e.Name, Off: e.Off})
	}
	slices.SortFunc(v.entries, func(a, b model.Entry) int { return cmp.Compare(a.Name, b.Name) })
	return v
}

// picks are numbers that hang on where they begin alone.
type picks uint64

func (p *picks) next() uint64 {
	*p += 0x9E3779B97F4A7C15
	n := uint64(*p)
	n = (n ^ n>>30) * 0xBF58476D1CE4E5B9
	n = (n ^ n>>27) * 0x94D049BB133111EB
	return n ^ n>>31
}

// below is a number below n, of picked by it one of a list.
func (p *picks) below(n int) int { return int(p.next() % uint64(n)) }

func picked[T any](p *picks, l ...T) T { return l[p.below(len(l))] }

// bytes are how many are asked for: mostly few.
func (p *picks) bytes() uint64 {
	switch p.below(20) {
	case 0:
		return picked[uint64](p, largest, largest-54, largest-55, 1<<32, most, 700, 1<<63)
	case 1, 2, 3:
		return uint64(p.below(500))
	}
	return uint64(p.below(90))
}

// payload is mostly one of a used block.
func (p *picks) payload(v view) uint64 {
	var l []uint64
	for _, b := range v.blocks {
		if b.Used || p.below(8) == 0 {
			l = append(l, b.Off+front)
		}
	}
	if len(l) == 0 || p.below(30) == 0 {
		return picked[uint64](p, 0, heap, heap+front, heap+8*uint64(p.below(99)), largest, v.size, v.size+front)
	}
	return picked(p, l...)
}

// op is an operation that could be done, or nearly.
func (p *picks) op(v view, kinds []int) api.Op {
	op := api.Op{Kind: picked(p, kinds...), N: p.bytes(), Off: p.payload(v), V: p.next(), To: p.below(4)}
	op.I = uint64(p.below(6))
	op.Name = "n" + strconv.Itoa(p.below(19))
	switch op.Kind {
	case api.Aligned:
		op.A = picked[uint64](p, 16, 16, 32, 32, 64, 64, 128, 256, 1024, 4096, 8, 24, 0)
	case api.Calloc:
		op.N, op.A = picked[uint64](p, op.N, op.N, op.N, 1<<32), picked[uint64](p, 0, 1, 1, 2, 3, 8, 1<<32, largest)
	case api.Grow:
		op.N = picked[uint64](p, 48, 48, 64, 80, 112, 16, 0, 56, 1024, largest-15)
	}
	if p.below(40) == 0 {
		op.To = picked(p, -1, 8, 7, 1<<32)
		op.Name = picked(p, noNames()...)
		op.I = picked[uint64](p, largest, 1<<61, 99)
	}
	return op
}

// client is mostly one that is live.
func (p *picks) client(v view) int {
	if len(v.live) == 0 || p.below(12) == 0 {
		return p.below(10) - 1
	}
	return picked(p, v.live...)
}

// P14.2, P14.3: what is told, and what is so then, is what the layers below make of a segment, whatever is done; P14.4, by does and dies.
func TestTwins(t *testing.T) {
	often := [][]int{
		{api.Alloc, api.Free, api.Write},
		{api.Aligned, api.Aligned, api.Realloc, api.Free, api.Free},
		{api.Alloc, api.Realloc, api.Realloc, api.Write, api.Free},
		{api.Construct, api.Construct, api.Construct, api.Construct, api.Construct, api.Destroy, api.Find},
		{api.Alloc, api.Calloc, api.Publish, api.Give, api.Give, api.Free, api.Free},
		{api.Aligned, api.Grow, api.Alloc, api.Free, api.Free},
	}
	for seed := range 360 {
		p := picks(seed * 1000003)
		size := picked[uint64](&p, 3824, 4000, 4480, 5200, 6400)
		all := size + picked[uint64](&p, 0, 8, 48, 320, 1024)
		m, w := with(t, size, all), twinned(t, size, all)
		for range 200 {
			v := look(m)
			c := p.client(v)
			switch {
			case p.below(60) == 0:
				w.kill(c)
				dies(t, m, c)
			case len(v.live) < 3 && p.below(4) == 0:
				does(t, m, c, attach(), w.do(c, attach()))
			default:
				kinds := often[seed%len(often)]
				if p.below(3) == 0 {
					kinds = []int{1, 2, 3, 4, 5, 6, 7, 8, 9, 10, 11, 12, 13, 14, 15}
				}
				op := p.op(v, kinds)
				does(t, m, c, op, w.do(c, op))
			}
			same(t, "twins", look(m), w.look(t))
			if t.Failed() {
				t.Fatalf("in the run %d", seed)
			}
		}
	}
}
