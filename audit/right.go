package audit

import (
	"slices"

	"carrack/api"
	"carrack/client"
	"carrack/dir"
	"carrack/ledger"
	"carrack/phys"
	"carrack/tree"
	"carrack/tx"
	"carrack/word"
)

const (
	everybody = 0 // the owner of what is no client's own

	secondAt  = 8  // from a slot's begin to its name's second word
	payloadAt = 16 // and to the payload that it stands for
	forgotten = 1  // the greatest one that is no payload: 0 is an empty slot's
)

// right are the blocks of a segment that is right. Whether its head is, phys.Walk asks ahead of them.
func right(t *tx.Tx) ([]phys.Block, api.Errno) {
	l, err := phys.Walk(t)
	if err != api.OK {
		return nil, err
	}
	if !phys.Merged(l) || !tree.Check(t, begins(l, isFree)) || !clientsRight(t, l) || !namesRight(t, l) {
		return nil, api.ErrForm
	}
	return l, api.OK
}

// begins are the offsets of the blocks that are chosen, rising.
func begins(l []phys.Block, chosen func(phys.Block) bool) []uint64 {
	var offs []uint64
	for _, b := range l {
		if chosen(b) {
			offs = append(offs, b.Off)
		}
	}
	return offs
}

// isFree chooses free blocks, usedBy an owner's: a free one's owner is 0, too, but it isn't everybody's.
func isFree(b phys.Block) bool { return !b.Tag.Used }

func usedBy(owner int) func(phys.Block) bool {
	return func(b phys.Block) bool { return b.Tag.Used && b.Tag.Owner == owner }
}

// clientsRight tells whether each client's list is its blocks, and its State one that a client with these may have.
func clientsRight(t *tx.Tx, l []phys.Block) bool {
	for c := range api.Clients {
		own := begins(l, usedBy(c+1))
		if !listIs(t, c, own) || !stateMay(client.State(t, c), len(own)) {
			return false
		}
	}
	return true
}

// listIs tells whether a client's list is right, and is just some blocks, in any turn.
func listIs(t *tx.Tx, c int, own []uint64) bool {
	l := ledger.List(t, c)
	if !ledger.Check(t, c, l) { // nor is it of one that comes back to itself
		return false
	}
	slices.Sort(l)
	return slices.Equal(l, own)
}

// stateMay tells whether a client of so many blocks may be in a State: also one that died has blocks till they are freed.
func stateMay(state uint64, blocks int) bool {
	switch state {
	case client.Nobody:
		return blocks == 0
	case client.Live, client.Dead:
		return true
	}
	return false
}

// namesRight tells whether each slot that stands for a payload has a name that is found there, and everybody's block that no other one stands for.
func namesRight(t *tx.Tx, l []phys.Block) bool {
	public := begins(l, usedBy(everybody))
	seen := map[uint64]struct{}{}
	for number := range uint64(api.Slots) {
		off := api.Names + api.Slot*number
		payload := t.Load(off + payloadAt)
		if payload <= forgotten {
			continue
		}
		_, again := seen[payload]
		// Of a payload that is less than Front the difference is above each offset.
		if again || !found(t, off, payload) || !slices.Contains(public, payload-api.Front) {
			return false
		}
		seen[payload] = struct{}{}
	}
	return true
}

// found tells whether a slot's words are a name's that stands for that payload: it may stand by another slot of its way.
func found(t *tx.Tx, off, payload uint64) bool {
	name, ok := word.Name([2]uint64{t.Load(off), t.Load(off + secondAt)})
	at, there := dir.Find(t, name)
	return ok && there && at == payload
}
