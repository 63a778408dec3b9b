package plan_test

import (
	"slices"
	"strconv"
	"testing"

	"carrack/api"
	"carrack/client"
	"carrack/ledger"
	"carrack/plan"
	"carrack/release"
	"carrack/tx"
)

// picks are numbers that hang on where they begin alone.
type picks uint64

func (p *picks) next() uint64 {
	*p += 0x9E3779B97F4A7C15
	n := uint64(*p)
	n = (n ^ n>>30) * 0xBF58476D1CE4E5B9
	n = (n ^ n>>27) * 0x94D049BB133111EB
	return n ^ n>>31
}

// below is a number below n, of picked by it one of a list.
func (p *picks) below(n int) int { return int(p.next() % uint64(n)) }

func picked[T any](p *picks, l ...T) T { return l[p.below(len(l))] }

// bytes are how many are asked for: mostly few.
func (p *picks) bytes() uint64 {
	switch p.below(20) {
	case 0:
		return picked[uint64](p, largest, largest-54, largest-55, 1<<32, 1<<20, 700, 1<<63)
	case 1, 2, 3:
		return uint64(p.below(500))
	}
	return uint64(p.below(90))
}

// payload is mostly one of a used block.
func (p *picks) payload(v view) uint64 {
	var l []uint64
	for _, b := range v.blocks {
		if b.Used || p.below(8) == 0 {
			l = append(l, b.Off+front)
		}
	}
	if len(l) == 0 || p.below(30) == 0 {
		return picked[uint64](p, 0, heap, heap+front, heap+8*uint64(p.below(99)), largest, v.size, v.size+front)
	}
	return picked(p, l...)
}

// op is an operation that could be done, or nearly.
func (p *picks) op(v view, kinds []int) api.Op {
	op := api.Op{Kind: picked(p, kinds...), N: p.bytes(), Off: p.payload(v), V: p.next(), To: p.below(4)}
	op.I = uint64(p.below(6))
	op.Name = "n" + strconv.Itoa(p.below(19))
	switch op.Kind {
	case api.Aligned:
		op.A = picked[uint64](p, 16, 16, 32, 32, 64, 64, 128, 256, 1024, 4096, 8, 24, 0)
	case api.Calloc:
		op.N, op.A = picked[uint64](p, op.N, op.N, op.N, 1<<32), picked[uint64](p, 0, 1, 1, 2, 3, 8, 1<<32, largest)
	case api.Grow:
		op.N = picked[uint64](p, 48, 48, 64, 80, 112, 16, 0, 56, 1024, largest-15)
	}
	if p.below(40) == 0 {
		op.To = picked(p, -1, 8, 7, 1<<32)
		op.Name = picked(p, "", "sixteen letters!", "\x00", "fifteen letters")
		op.I = picked[uint64](p, largest, 1<<61, 99)
	}
	return op
}

// client is mostly one that is live.
func (p *picks) client(v view) int {
	if len(v.live) == 0 || p.below(12) == 0 {
		return p.below(10) - 1
	}
	return picked(p, v.live...)
}

// scribble stores words that mean nothing to a state: those that are idle, those that clients' logs have, the lock, and the State of who isn't live.
func (p *picks) scribble(a *pair, v view) {
	like := append(v.frees(), 0, 1, 48, v.size, largest, p.next())
	for off := uint64(heap); off < a.s.Size(); off += 8 {
		if v.idle(off) && p.below(3) == 0 {
			a.s.Store(off, picked(p, like...))
		}
	}
	for c := range clients {
		if !slices.Contains(v.live, c) {
			at, _ := client.Word(c, api.State)
			a.s.Store(at, picked[uint64](p, 0, 2, 3, 1<<32+1))
		}
		for what := uint64(api.Count); what < api.Record; what += 8 {
			at, _ := client.Word(c, what)
			a.s.Store(at, p.next())
		}
	}
	a.s.Store(api.Lock, uint64(p.below(12)))
}

// dies lets a client die: its blocks are freed one by one, each as it is planned.
func (p *picks) dies(t *testing.T, a *pair, c int) {
	t.Helper()
	if c >= 0 && c < clients {
		for _, off := range a.lists[c] {
			x := tx.New(a.s)
			release.Free(x, off+front)
			got := cuts(t, x)
			if len(got.Log) > logs {
				t.Fatalf("freed for a dead client: %d words in Log", len(got.Log))
			}
			a.s = stored(a.s, got.Pre, got.Log, got.Tree)
		}
		a.lists[c] = nil
		at, _ := client.Word(c, api.State)
		a.s.Store(at, picked[uint64](p, 0, 2))
		if l := ledger.List(tx.New(a.s), c); len(l) > 0 {
			t.Fatalf("a dead client's blocks are %v", l)
		}
	}
	a.m.Kill(c)
	if v := stands(t, "behind a death", a.s); !sameView(v, a.view()) {
		t.Fatalf("behind a death: %+v, and not %+v", v, a.view())
	}
}

// cuts tells Cut's plan of what is thought of, of which all is held that is promised.
func cuts(t *testing.T, x *tx.Tx) plan.Plan {
	t.Helper()
	puts, before, after := x.Puts(), thought(t, "as it is", x.Bare()), thought(t, "as it is thought of", x)
	got := plan.Cut(x)
	if got.Res != (api.Res{}) {
		t.Fatalf("Cut: %+v is told", got.Res)
	}
	parts(t, "Cut", got, before, after)
	inTurn(t, puts, got.Pre)
	inTurn(t, puts, got.Log)
	inTurn(t, puts, got.Tree)
	if n := len(got.Pre) + len(got.Log) + len(got.Tree); n != len(puts) {
		t.Fatalf("Cut: %d words of %d", n, len(puts))
	}
	if !slices.Equal(x.Puts(), puts) || !sameView(thought(t, "behind Cut", x.Bare()), before) {
		t.Fatalf("Cut: the Tx, or its segment, isn't as it was")
	}
	return got
}

// inTurn holds that some words are among others, in the same turn.
func inTurn(t *testing.T, all, some []api.Put) {
	t.Helper()
	i := 0
	for _, w := range all {
		if i < len(some) && some[i] == w {
			i++
		}
	}
	if i < len(some) {
		t.Fatalf("Cut: %v isn't of %v, in turn", some, all)
	}
}

// P15.1 to P15.3, of whatever is done one behind the other, and of what is freed for who died.
func TestHeaps(t *testing.T) {
	often := [][]int{
		{api.Alloc, api.Free, api.Write},
		{api.Aligned, api.Aligned, api.Realloc, api.Free, api.Free},
		{api.Alloc, api.Realloc, api.Realloc, api.Write, api.Free},
		{api.Construct, api.Construct, api.Construct, api.Construct, api.Construct, api.Construct, api.Construct, api.Construct, api.Destroy, api.Find},
		{api.Alloc, api.Calloc, api.Publish, api.Give, api.Give, api.Free, api.Free},
		{api.Aligned, api.Grow, api.Alloc, api.Free, api.Free},
	}
	for seed := range 240 {
		p := picks(seed * 1000003)
		size := picked[uint64](&p, 3824, 4000, 4480, 5200, 6400, 8000, 8000, 9600)
		a := paired(t, size, size+picked[uint64](&p, 0, 8, 48, 320, 1024))
		for range 200 {
			v := a.view()
			if p.below(4) == 0 {
				p.scribble(a, v)
			}
			c := p.client(v)
			switch {
			case p.below(80) == 0:
				p.dies(t, a, c)
			case len(v.live) < 3 && p.below(4) == 0:
				a.do(t, p.below(4), api.Op{Kind: api.Attach})
			default:
				kinds := often[seed%len(often)]
				if p.below(5) == 0 {
					kinds = []int{0, 1, 2, 3, 4, 5, 6, 7, 8, 9, 10, 11, 12, 13, 14, 15, 16}
				}
				a.do(t, c, p.op(v, kinds))
			}
			if t.Failed() {
				t.Fatalf("in the run %d", seed)
			}
		}
	}
}
