package plan

import (
	"cmp"
	"slices"

	"carrack/api"
	"carrack/head"
	"carrack/phys"
	"carrack/tx"
	"carrack/word"
)

const (
	wide = 8 // bytes of a word

	leftAt  = 8  // from a free block's begin to its left son
	rightAt = 16 // and to its right one
	bareAt  = 24 // and to what is left of it, but for its last word, which is its tag's
)

// idleIn asks of an offset whether nobody reads the word that is there, as it is.
func idleIn(t *tx.Tx) func(off uint64) bool {
	end := head.Size(t)
	l, _ := phys.Walk(t) // a segment that stands for a state has blocks
	return func(off uint64) bool {
		if off >= end {
			return true
		}
		b, ok := around(l, off)
		return ok && off >= idleFrom(b) && off < b.Off+b.Tag.Size-wide
	}
}

// around is the block in which a word stands; the words ahead of the heap stand in none.
func around(l []phys.Block, off uint64) (phys.Block, bool) {
	i, ok := slices.BinarySearchFunc(l, off, func(b phys.Block, off uint64) int { return cmp.Compare(b.Off, off) })
	if !ok {
		i--
	}
	if i < 0 {
		return phys.Block{}, false
	}
	return l[i], true
}

// idleFrom is where a block's idle words begin.
func idleFrom(b phys.Block) uint64 {
	if !b.Tag.Used {
		return b.Off + bareAt
	}
	return b.Off + api.Front + wide*word.Words(b.Len)
}

// linksOf are the words of the tree, as it is thought of: the head's Root, and both sons of each free block.
func linksOf(t *tx.Tx) map[uint64]struct{} {
	links := map[uint64]struct{}{api.Root: {}}
	l, _ := phys.Walk(t) // what is thought of makes it stand for a state
	for _, b := range l {
		if !b.Tag.Used {
			links[b.Off+leftAt] = struct{}{}
			links[b.Off+rightAt] = struct{}{}
		}
	}
	return links
}
