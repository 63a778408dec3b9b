package model

import (
	"slices"

	"carrack/api"
	"carrack/word"
)

// operations are all, each by its Kind; they are asked of clients that are live, but attach.
func operations() [api.Attach + 1]func(*State, int, api.Op) api.Res {
	return [...]func(*State, int, api.Op) api.Res{
		api.Alloc:     (*State).alloc,
		api.Aligned:   (*State).aligned,
		api.Calloc:    (*State).calloc,
		api.Realloc:   (*State).realloc,
		api.Free:      (*State).free,
		api.Write:     (*State).write,
		api.Read:      (*State).read,
		api.Construct: (*State).construct,
		api.Find:      (*State).find,
		api.Destroy:   (*State).destroy,
		api.Publish:   (*State).publish,
		api.Give:      (*State).give,
		api.Grow:      (*State).grow,
		api.Detach:    (*State).detach,
		api.Attach:    (*State).attach,
	}
}

func (s *State) alloc(c int, op api.Op) api.Res { return s.take(owner(c), op.N, grain) }

func (s *State) aligned(c int, op api.Op) api.Res { return s.take(owner(c), op.N, op.A) }

func (s *State) calloc(c int, op api.Op) api.Res {
	n, ok := word.Mul(op.N, op.A)
	if !ok {
		return failed(api.ErrSize)
	}
	return s.take(owner(c), n, grain)
}

func (s *State) realloc(c int, op api.Op) api.Res {
	i, err := s.used(op.Off, owner(c))
	if err != api.OK {
		return failed(err)
	}
	need, ok := word.Need(op.N)
	if !ok {
		return failed(api.ErrSize)
	}
	if need > s.blocks[i].Size {
		return s.move(i, op.N)
	}
	s.fill(i, op.N)
	s.cut(i, need)
	s.merge() // what is cut off may stand ahead of a free one
	return api.Res{Off: op.Off}
}

func (s *State) free(c int, op api.Op) api.Res {
	i, err := s.used(op.Off, everybody, owner(c))
	if err != api.OK {
		return failed(err)
	}
	for _, payload := range s.names {
		if payload == op.Off {
			return failed(api.ErrThere)
		}
	}
	s.release(i)
	return api.Res{}
}

func (s *State) write(c int, op api.Op) api.Res {
	w, err := s.wordOf(c, op)
	if err != api.OK {
		return failed(err)
	}
	*w = op.V
	return api.Res{}
}

func (s *State) read(c int, op api.Op) api.Res {
	w, err := s.wordOf(c, op)
	if err != api.OK {
		return failed(err)
	}
	return api.Res{V: *w}
}

func (s *State) construct(_ int, op api.Op) api.Res {
	_, err := s.named(op.Name)
	switch {
	case err == api.OK:
		return failed(api.ErrThere)
	case err != api.ErrNone:
		return failed(err)
	case len(s.names) >= api.Slots:
		return failed(api.ErrFull)
	}
	res := s.take(everybody, op.N, grain)
	if res.Err == api.OK {
		s.names[op.Name] = res.Off
	}
	return res
}

func (s *State) find(_ int, op api.Op) api.Res {
	payload, err := s.named(op.Name)
	return api.Res{Err: err, Off: payload}
}

func (s *State) destroy(_ int, op api.Op) api.Res {
	payload, err := s.named(op.Name)
	if err != api.OK {
		return failed(err)
	}
	delete(s.names, op.Name)
	i, _ := s.place(payload) // it stands, as no block that a name stands for is freed
	s.release(i)
	return api.Res{}
}

func (s *State) publish(c int, op api.Op) api.Res {
	i, err := s.used(op.Off, owner(c))
	if err != api.OK {
		return failed(err)
	}
	s.blocks[i].Owner = everybody
	return api.Res{}
}

func (s *State) give(c int, op api.Op) api.Res {
	i, err := s.used(op.Off, owner(c))
	switch {
	case err != api.OK:
		return failed(err)
	case !isClient(op.To):
		return failed(api.ErrArg)
	case !s.live[op.To]:
		return failed(api.ErrNone)
	}
	s.blocks[i].Owner = owner(op.To)
	return api.Res{}
}

func (s *State) grow(_ int, op api.Op) api.Res {
	if op.N%grain != 0 || op.N < api.MinBlock {
		return failed(api.ErrArg)
	}
	end := s.Size()
	if size, ok := word.Add(end, op.N); !ok || size > s.all {
		return failed(api.ErrNoMem)
	}
	s.blocks = append(s.blocks, Block{Off: end, Size: op.N})
	s.merge()
	return api.Res{}
}

func (s *State) detach(c int, _ api.Op) api.Res {
	if slices.ContainsFunc(s.blocks, func(b Block) bool { return b.Owner == owner(c) }) {
		return failed(api.ErrBusy)
	}
	s.live[c] = false
	return api.Res{}
}

func (s *State) attach(c int, _ api.Op) api.Res {
	if s.live[c] {
		return failed(api.ErrThere)
	}
	s.live[c] = true
	return api.Res{}
}

// wordOf is the word that an operation writes, or reads.
func (s *State) wordOf(c int, op api.Op) (*uint64, api.Errno) {
	i, err := s.used(op.Off, everybody, owner(c))
	if err != api.OK {
		return nil, err
	}
	data := s.blocks[i].Data
	if op.I >= uint64(len(data)) {
		return nil, api.ErrArg
	}
	return &data[op.I], api.OK
}

// named is the payload that a name stands for.
func (s *State) named(name string) (uint64, api.Errno) {
	if _, ok := word.Pack(name); !ok {
		return 0, api.ErrName
	}
	payload, ok := s.names[name]
	if !ok {
		return 0, api.ErrNone
	}
	return payload, api.OK
}
