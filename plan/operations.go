package plan

import (
	"slices"

	"carrack/api"
	"carrack/carve"
	"carrack/client"
	"carrack/dir"
	"carrack/ledger"
	"carrack/phys"
	"carrack/release"
	"carrack/resize"
	"carrack/tag"
	"carrack/tx"
	"carrack/word"
)

const (
	grain     = 16 // payloads begin on a multiple of it, if no other one is asked for
	everybody = 0  // the owner of what is no client's own
)

// operation is what is thought of, when a client that may ask for it does, and what it is told.
type operation func(t *tx.Tx, c int, op api.Op) api.Res

// operations are all, each by its Kind; they are asked of clients that are live, but attach.
func operations() [api.Attach + 1]operation {
	return [...]operation{
		api.Alloc:     alloc,
		api.Aligned:   aligned,
		api.Calloc:    calloc,
		api.Realloc:   realloc,
		api.Free:      free,
		api.Write:     write,
		api.Read:      read,
		api.Construct: construct,
		api.Find:      find,
		api.Destroy:   destroy,
		api.Publish:   publish,
		api.Give:      give,
		api.Grow:      grow,
		api.Detach:    detach,
		api.Attach:    attach,
	}
}

// do thinks of what a client's operation stores.
func do(t *tx.Tx, c int, op api.Op) api.Res {
	if op.Kind < api.Alloc || op.Kind > api.Attach || !isClient(c) {
		return failed(api.ErrArg)
	}
	if op.Kind != api.Attach && !isLive(t, c) {
		return failed(api.ErrClient)
	}
	return operations()[op.Kind](t, c, op)
}

func alloc(t *tx.Tx, c int, op api.Op) api.Res { return placed(carve.Take(t, owner(c), op.N, grain)) }

func aligned(t *tx.Tx, c int, op api.Op) api.Res { return placed(carve.Take(t, owner(c), op.N, op.A)) }

func calloc(t *tx.Tx, c int, op api.Op) api.Res {
	n, ok := word.Mul(op.N, op.A)
	if !ok {
		return failed(api.ErrSize)
	}
	return placed(carve.Take(t, owner(c), n, grain)) // whose words are 0 always
}

func realloc(t *tx.Tx, c int, op api.Op) api.Res {
	if _, err := used(t, op.Off, owner(c)); err != api.OK {
		return failed(err)
	}
	return placed(resize.Resize(t, op.Off, op.N))
}

func free(t *tx.Tx, c int, op api.Op) api.Res {
	_, err := used(t, op.Off, everybody, owner(c))
	switch {
	case err != api.OK:
		return failed(err)
	case dir.Named(t, op.Off):
		return failed(api.ErrThere)
	}
	return failed(release.Free(t, op.Off))
}

func write(t *tx.Tx, c int, op api.Op) api.Res {
	off, err := wordOf(t, c, op)
	if err != api.OK {
		return failed(err)
	}
	t.Store(off, op.V)
	return api.Res{}
}

func read(t *tx.Tx, c int, op api.Op) api.Res {
	off, err := wordOf(t, c, op)
	if err != api.OK {
		return failed(err)
	}
	return api.Res{V: t.Load(off)}
}

func construct(t *tx.Tx, _ int, op api.Op) api.Res {
	if err := dir.Room(t, op.Name); err != api.OK {
		return failed(err)
	}
	payload, err := carve.Take(t, everybody, op.N, grain)
	if err != api.OK {
		return failed(err)
	}
	return placed(payload, dir.Put(t, op.Name, payload))
}

func find(t *tx.Tx, _ int, op api.Op) api.Res { return placed(named(t, op.Name)) }

func destroy(t *tx.Tx, _ int, op api.Op) api.Res {
	payload, err := named(t, op.Name)
	if err != api.OK {
		return failed(err)
	}
	dir.Drop(t, op.Name)
	return failed(release.Free(t, payload))
}

func publish(t *tx.Tx, c int, op api.Op) api.Res {
	b, err := used(t, op.Off, owner(c))
	if err != api.OK {
		return failed(err)
	}
	ledger.Unlink(t, c, b.Off)
	return failed(own(t, b, everybody))
}

func give(t *tx.Tx, c int, op api.Op) api.Res {
	b, err := used(t, op.Off, owner(c))
	switch {
	case err != api.OK:
		return failed(err)
	case !isClient(op.To):
		return failed(api.ErrArg)
	case !isLive(t, op.To):
		return failed(api.ErrNone)
	}
	ledger.Unlink(t, c, b.Off)
	ledger.Link(t, op.To, b.Off) // also of what is To's already: it comes first then
	return failed(own(t, b, owner(op.To)))
}

func grow(t *tx.Tx, _ int, op api.Op) api.Res { return failed(resize.Grow(t, op.N)) }

func detach(t *tx.Tx, c int, _ api.Op) api.Res { return failed(client.Detach(t, c)) }

func attach(t *tx.Tx, c int, _ api.Op) api.Res {
	if !isLive(t, c) {
		client.Clear(t, c) // a state has no dead ones: whoever isn't live may come
	}
	return failed(client.Attach(t, c))
}

// owner is a client, as one who owns blocks.
func owner(c int) int { return c + 1 }

// failed is what is told of an error alone, also of none, placed of a payload.
func failed(err api.Errno) api.Res { return api.Res{Err: err} }

func placed(payload uint64, err api.Errno) api.Res { return api.Res{Err: err, Off: payload} }

// isClient tells whether there is a client of that number, isLive whether it is there now.
func isClient(c int) bool {
	_, ok := client.Word(c, api.State)
	return ok
}

func isLive(t *tx.Tx, c int) bool { return client.State(t, c) == client.Live }

// used is the used block of a payload, if it is one of some owners'.
func used(t *tx.Tx, payload uint64, owners ...int) (phys.Block, api.Errno) {
	b, ok := phys.Find(t, payload)
	switch {
	case !ok:
		return phys.Block{}, api.ErrBad
	case !slices.Contains(owners, b.Tag.Owner):
		return phys.Block{}, api.ErrOwner
	}
	return b, api.OK
}

// wordOf is where the word stands that an operation writes, or reads.
func wordOf(t *tx.Tx, c int, op api.Op) (uint64, api.Errno) {
	b, err := used(t, op.Off, everybody, owner(c))
	switch {
	case err != api.OK:
		return 0, err
	case op.I >= word.Words(b.Len):
		return 0, api.ErrArg
	}
	return op.Off + wide*op.I, api.OK
}

// named is the payload that a name stands for.
func named(t *tx.Tx, name string) (uint64, api.Errno) {
	if _, ok := word.Pack(name); !ok {
		return 0, api.ErrName
	}
	payload, ok := dir.Find(t, name)
	if !ok {
		return 0, api.ErrNone
	}
	return payload, api.OK
}

// own lets a block be another owner's.
func own(t *tx.Tx, b phys.Block, owner int) api.Errno {
	b.Tag.Owner = owner
	return tag.Write(t, b.Off, b.Tag)
}
