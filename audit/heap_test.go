package audit_test

import (
	"slices"
	"strconv"
	"testing"

	"carrack/api"
	"carrack/audit"
	"carrack/client"
	"carrack/head"
	"carrack/ledger"
	"carrack/model"
	"carrack/plan"
	"carrack/release"
	"carrack/seg"
	"carrack/tx"
)

// picks are numbers that hang on where they begin alone.
type picks uint64

func (p *picks) next() uint64 {
	*p += 0x9E3779B97F4A7C15
	n := uint64(*p)
	n = (n ^ n>>30) * 0xBF58476D1CE4E5B9
	n = (n ^ n>>27) * 0x94D049BB133111EB
	return n ^ n>>31
}

// below is a number below n, of picked by it one of a list.
func (p *picks) below(n int) int { return int(p.next() % uint64(n)) }

func picked[T any](p *picks, l ...T) T { return l[p.below(len(l))] }

// op is an operation that could be done, or nearly.
func (p *picks) op(v audit.View, kinds []int) api.Op {
	op := api.Op{Kind: picked(p, kinds...), N: uint64(p.below(90)), V: p.next(), I: uint64(p.below(6)), To: p.below(4), Name: "n" + strconv.Itoa(p.below(19))}
	if b := picked(p, v.Blocks...); b.Used || p.below(8) == 0 {
		op.Off = b.Off + front
	}
	switch op.Kind {
	case api.Aligned:
		op.A = picked[uint64](p, 16, 32, 64, 128, 256, 8)
	case api.Calloc:
		op.A = picked[uint64](p, 0, 1, 2, 3, 1<<63)
	case api.Grow:
		op.N = picked[uint64](p, 48, 64, 80, 16, 56, 4096)
	}
	return op
}

// dies lets a client die, whose blocks are freed one by one: till then the segment is right, too.
func dies(t *testing.T, s *seg.Seg, m *model.State, c int) {
	t.Helper()
	step := func(do func(x *tx.Tx)) {
		t.Helper()
		x := tx.New(s)
		do(x)
		x.Apply()
		if v, err := looked(t, "amid a death", s); err != api.OK || slices.Contains(v.Live, c) {
			t.Fatalf("amid the client %d's death: %+v, with the error %d", c, v, err)
		}
	}
	m.Kill(c)
	step(func(x *tx.Tx) { client.Kill(x, c) })
	for _, off := range ledger.List(tx.New(s), c) {
		step(func(x *tx.Tx) { release.Free(x, off+front) })
	}
	step(func(x *tx.Tx) { client.Clear(x, c) })
}

// broken is a copy of a segment in which a few words are others, that could stand there.
func (p *picks) broken(s *seg.Seg, v audit.View) *seg.Seg {
	o := s.Copy()
	places := []uint64{0, 8, 16, 32, 40}
	words := []uint64{0, 1, 2, 3, 8, 48, v.Size, largest, p.next()}
	for c := range clients {
		places = append(places, record(c, api.State), record(c, api.Head))
	}
	for slot := range uint64(slots) {
		places = append(places, slotAt(slot, 0), slotAt(slot, 1), slotAt(slot, 2))
	}
	for _, b := range v.Blocks {
		places = append(places, b.Off, b.Off+8, b.Off+16, b.Off+24, b.Off+b.Size-8)
		words = append(words, b.Off, b.Off+front, b.Size)
	}
	for range 1 + p.below(2) {
		off := picked(p, places...)
		if p.below(3) == 0 {
			w, _ := o.Load(picked(p, places...)) // what stands elsewhere
			o.Store(off, w)
		} else {
			o.Store(off, picked(p, words...))
		}
	}
	return o
}

// P16.3: whatever clients do, and whoever dies; and P16.1, whatever words are others then.
func TestHeaps(t *testing.T) {
	often := [][]int{
		{api.Alloc, api.Free, api.Write},
		{api.Aligned, api.Aligned, api.Realloc, api.Free, api.Free},
		{api.Construct, api.Construct, api.Construct, api.Destroy, api.Find},
		{api.Alloc, api.Calloc, api.Publish, api.Give, api.Give, api.Free, api.Free},
		{1, 2, 3, 4, 5, 6, 7, 8, 9, 10, 11, 12, 13, 14, 15},
	}
	var rights, wrongs int
	for seed := range 60 {
		p := picks(seed * 1000003)
		size := picked[uint64](&p, 3824, 4000, 4480, 5200, 6400)
		s, m := seg.New(size+320), model.New(size, size+320)
		head.Format(s, size)
		for range 150 {
			v := audit.Of(m)
			c := p.below(4)
			switch {
			case p.below(60) == 0:
				dies(t, s, m, c)
			case !slices.Contains(v.Live, c) && p.below(3) > 0:
				done(t, s, m, c, api.Op{Kind: api.Attach})
			default:
				done(t, s, m, c, p.op(v, picked(&p, often[seed%len(often)], often[4])))
			}
			for range 4 {
				if _, err := looked(t, "words that are others", p.broken(s, v)); err == api.OK {
					rights++
				} else {
					wrongs++
				}
			}
		}
	}
	if rights < 1000 || wrongs < 1000 { // or nothing is held here
		t.Errorf("%d of them are right, and %d aren't", rights, wrongs)
	}
}

// done does an operation in both: the segment is right behind it, and stands for what the model says.
func done(t *testing.T, s *seg.Seg, m *model.State, c int, op api.Op) {
	t.Helper()
	if a, b := plan.Run(s, c, op), m.Do(c, op); a != b {
		t.Fatalf("%d, %+v: %+v, and not %+v", c, op, a, b)
	}
	v, err := looked(t, "behind an operation", s)
	if err != api.OK || !same(v, audit.Of(m)) || !audit.Same(v, audit.Of(m)) {
		t.Fatalf("behind %+v of %d: stands for %+v, with the error %d, and not for %+v", op, c, v, err, audit.Of(m))
	}
}
