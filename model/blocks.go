package model

import (
	"cmp"
	"math/bits"
	"slices"

	"carrack/api"
	"carrack/word"
)

const (
	coarsest  = 4096 // no multiple above it is asked for
	everybody = 0    // an owner, as a free block's is
)

// owner is a client as an owner.
func owner(c int) int { return c + 1 }

// spare is a block as a free one.
func spare(b Block) Block { return Block{Off: b.Off, Size: b.Size} }

// place is where the used block of a payload stands among all.
func (s *State) place(payload uint64) (int, bool) {
	i, ok := slices.BinarySearchFunc(s.blocks, payload, func(b Block, payload uint64) int {
		return cmp.Compare(b.Off+api.Front, payload)
	})
	return i, ok && s.blocks[i].Used
}

// used is the place of a payload's block, that must be one of some owners'.
func (s *State) used(payload uint64, owners ...int) (int, api.Errno) {
	i, ok := s.place(payload)
	switch {
	case !ok:
		return 0, api.ErrBad
	case !slices.Contains(owners, s.blocks[i].Owner):
		return 0, api.ErrOwner
	}
	return i, api.OK
}

// take takes n bytes for an owner, on a multiple of a, and tells their payload.
func (s *State) take(owner int, n, a uint64) api.Res {
	if a < grain || a > coarsest || bits.OnesCount64(a) != 1 {
		return failed(api.ErrArg)
	}
	need, ok := word.Need(n)
	if !ok {
		return failed(api.ErrSize)
	}
	i, ahead, ok := s.fit(need, a)
	if !ok {
		return failed(api.ErrNoMem)
	}
	if ahead > 0 {
		s.split(i, ahead)
		i++
	}
	s.blocks[i].Used, s.blocks[i].Owner = true, owner
	s.fill(i, n)
	s.cut(i, need)
	return api.Res{Off: s.blocks[i].Off + api.Front}
}

// fit is the place of a smallest free block that has room for need bytes, whose payload begins on a multiple of a, and how many bytes stay free ahead of them.
func (s *State) fit(need, a uint64) (place int, ahead uint64, ok bool) {
	for i, b := range s.blocks {
		if b.Used || b.Size < need || ok && b.Size >= s.blocks[place].Size { // of those of one size it is the first one
			continue
		}
		if bytes := pad(b.Off, a); bytes <= b.Size-need {
			place, ahead, ok = i, bytes, true
		}
	}
	return place, ahead, ok
}

// pad is how many bytes at a free block's begin stay free, for the payload to begin on a multiple of a: none, or a block.
func pad(off, a uint64) uint64 {
	payload := off + api.Front
	if payload%a == 0 {
		return 0
	}
	begin, _ := word.Up(payload+api.MinBlock, a) // not too large, as no heap is so large
	return begin - payload
}

// fill gives a used block n bytes, of which those words that it has stay; all others are 0.
func (s *State) fill(i int, n uint64) {
	b := &s.blocks[i]
	data := make([]uint64, word.Words(n))
	copy(data, b.Data)
	b.Len, b.Data = n, data
}

// cut leaves a used block as many bytes as it needs; too few for a block stay its own.
func (s *State) cut(i int, need uint64) {
	if s.blocks[i].Size-need >= api.MinBlock {
		s.split(i, need)
	}
}

// split leaves a block so many bytes; the others are a free one behind it.
func (s *State) split(i int, size uint64) {
	b := &s.blocks[i]
	rest := Block{Off: b.Off + size, Size: b.Size - size}
	b.Size = size
	s.blocks = slices.Insert(s.blocks, i+1, rest)
}

// move takes n bytes for a block's owner, lets them have the words that the block has, and frees it.
func (s *State) move(i int, n uint64) api.Res {
	old := s.blocks[i]
	res := s.take(old.Owner, n, grain)
	if res.Err != api.OK {
		return res
	}
	to, _ := s.place(res.Off)
	copy(s.blocks[to].Data, old.Data)
	from, _ := s.place(old.Off + api.Front) // what was taken ahead of it may have moved it
	s.release(from)
	return res
}

// release makes a used block free.
func (s *State) release(i int) {
	s.blocks[i] = spare(s.blocks[i])
	s.merge()
}

// merge makes free blocks that stand beside each other one.
func (s *State) merge() {
	l := s.blocks[:0]
	for _, b := range s.blocks {
		if last := len(l) - 1; last >= 0 && !l[last].Used && !b.Used {
			l[last].Size += b.Size
		} else {
			l = append(l, b)
		}
	}
	clear(s.blocks[len(l):]) // or the words of blocks that stood there would be kept
	s.blocks = l
}
