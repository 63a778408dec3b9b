package dir_test

import (
	"cmp"
	"slices"
	"strconv"
	"strings"
	"testing"

	"carrack/api"
	"carrack/dir"
	"carrack/head"
	"carrack/seg"
	"carrack/tx"
)

const largest = 1<<64 - 1

// What the document says, as numbers: also package api is asked.
const (
	begin = 3392 // the first slot
	wide  = 24   // bytes of each
	slots = 16
	heap  = 3776 // behind the last one

	all = 4800 // bytes of most segments here
	end = 4480 // where their heaps end
)

// at is where a slot begins.
func at(i int) uint64 { return begin + wide*uint64(i) }

// mixed is a number that hangs on n alone, with unlike bytes.
func mixed(n uint64) uint64 {
	n = (n + 1) * 0x9E3779B97F4A7C15
	n = (n ^ n>>31) * 0xBF58476D1CE4E5B9
	return n ^ n>>29
}

// first is the slot where a name's way begins.
func first(name string) int {
	h := uint64(14695981039346656037)
	for _, b := range []byte(name) {
		h = (h ^ uint64(b)) * 1099511628211
	}
	return int(h % 16)
}

// words are a name's two words.
func words(name string) [2]uint64 {
	b := make([]byte, 16)
	b[0] = byte(len(name))
	copy(b[1:], name)
	var w [2]uint64
	for i := range b {
		w[i/8] += uint64(b[i]) << (i % 8 * 8)
	}
	return w
}

// named are so many names whose way begins at a slot.
func named(slot, n int) []string {
	var l []string
	for i := 0; len(l) < n; i++ {
		if name := "n" + strconv.Itoa(i); first(name) == slot {
			l = append(l, name)
		}
	}
	return l
}

// letters are the names a, b, c .., as many as there are slots, and one more.
func letters() []string { return strings.Split("abcdefghijklmnopq", "") }

// wrong are no names.
func wrong() []string {
	return []string{
		"", strings.Repeat("a", 16), strings.Repeat("\x00", 16), strings.Repeat("\xff", 16), "abcdefghijklmnop",
		strings.Repeat("b", 17), strings.Repeat("c", 31), strings.Repeat("d", 255), strings.Repeat("e", 256), strings.Repeat("f", 257),
		strings.Repeat("g", 264), strings.Repeat("h", 1<<16+1), // the low bits of how many these are would do
	}
}

// edges are names that are just still names.
func edges() []string {
	return []string{
		"\x00", "\x01", "\xff", "a", "\x00\x00", "\xff\xff", "a\x00", "\x00a", "ab", "1234567", "12345678", "123456789",
		strings.Repeat("\x00", 14), strings.Repeat("\x00", 15), strings.Repeat("\xff", 14), strings.Repeat("\xff", 15),
		"abcdefghijklmno", "abcdefghijklmn", "abcdefghijklmn\x00", "\x00bcdefghijklmno", "abcdefg\xffhijklmn", "\xe4\xb8\x96", "\xe4\xb8",
	}
}

// formatted is a segment that must be one.
func formatted(t *testing.T) *seg.Seg {
	t.Helper()
	s := seg.New(all)
	if err := head.Format(s, end); err != api.OK {
		t.Fatalf("Format of %d bytes at %d: %d", all, end, err)
	}
	return s
}

// littered is a segment whose every word is another number.
func littered(t *testing.T, all uint64) *seg.Seg {
	t.Helper()
	s := seg.New(all)
	for off := uint64(0); off < all; off += 8 {
		lay(t, s, off, mixed(off)|1<<63)
	}
	return s
}

// lay stores a word in the segment itself.
func lay(t *testing.T, s *seg.Seg, off, v uint64) {
	t.Helper()
	if err := s.Store(off, v); err != api.OK {
		t.Fatalf("Store(%d) in a segment of %d bytes: %d", off, s.Size(), err)
	}
}

// puts asks for all words that are thought of, by their offsets.
func puts(t *testing.T, what string, x *tx.Tx, want ...api.Put) {
	t.Helper()
	got, want := x.Puts(), slices.Clone(want)
	for _, l := range [][]api.Put{got, want} {
		slices.SortFunc(l, func(a, b api.Put) int { return cmp.Compare(a.Off, b.Off) })
	}
	if !slices.Equal(got, want) {
		t.Errorf("%s: Puts: %v, not %v", what, got, want)
	}
}

// three are the words that Put of a name stores in a slot.
func three(i int, name string, payload uint64) []api.Put {
	w := words(name)
	return []api.Put{{Off: at(i), V: w[0]}, {Off: at(i) + 8, V: w[1]}, {Off: at(i) + 16, V: payload}}
}

// same asks whether the segment has the words that the other one has.
func same(t *testing.T, what string, s, want *seg.Seg) {
	t.Helper()
	if l := seg.Diff(s, want); len(l) > 0 {
		t.Errorf("%s: other words at %d", what, l)
	}
}

// rooms, puttings, finds, drops, tells and says ask what a call tells.
func rooms(t *testing.T, what string, x *tx.Tx, name string, want api.Errno) {
	t.Helper()
	if got := dir.Room(x, name); got != want {
		t.Errorf("%s: Room of %q: %d, not %d", what, name, got, want)
	}
}

func puttings(t *testing.T, what string, x *tx.Tx, name string, payload uint64, want api.Errno) {
	t.Helper()
	if got := dir.Put(x, name, payload); got != want {
		t.Errorf("%s: Put of %q, %d: %d, not %d", what, name, payload, got, want)
	}
}

// finds wants 0 where nothing should be found.
func finds(t *testing.T, what string, x *tx.Tx, name string, want uint64) {
	t.Helper()
	if got, ok := dir.Find(x, name); got != want || ok != (want != 0) {
		t.Errorf("%s: Find of %q: %d, %v, not %d", what, name, got, ok, want)
	}
}

func drops(t *testing.T, what string, x *tx.Tx, name string, want bool) {
	t.Helper()
	if got := dir.Drop(x, name); got != want {
		t.Errorf("%s: Drop of %q: %v, not %v", what, name, got, want)
	}
}

func tells(t *testing.T, what string, x *tx.Tx, want ...dir.Entry) {
	t.Helper()
	if got := dir.All(x); !slices.Equal(got, want) {
		t.Errorf("%s: All: %v, not %v", what, got, want)
	}
}

func says(t *testing.T, what string, x *tx.Tx, payload uint64, want bool) {
	t.Helper()
	if got := dir.Named(x, payload); got != want {
		t.Errorf("%s: Named of %d: %v, not %v", what, payload, got, want)
	}
}

// table is what the slots have, as the document says it, in plain lists.
type table [slots]struct {
	name    [2]uint64
	payload uint64
}

// way are the slots of a name's way.
func way(name string) []int {
	var l []int
	for i := first(name); len(l) < slots; i++ {
		l = append(l, i%slots)
	}
	return l
}

// standing is the slot in which a name stands, -1 without one.
func (d *table) standing(name string) int {
	ahead := way(name)
	for k, i := range ahead {
		if d[i].payload == 0 {
			ahead = ahead[:k]
			break
		}
	}
	for _, i := range ahead {
		if d[i].payload > 1 && d[i].name == words(name) {
			return i
		}
	}
	return -1
}

// open is the first slot of a name's way that is empty, or forgotten, -1 without one.
func (d *table) open(name string) int {
	for _, i := range way(name) {
		if d[i].payload == 0 || d[i].payload == 1 {
			return i
		}
	}
	return -1
}

// room is what Room should tell of a name of 1 to 15 bytes.
func (d *table) room(name string) api.Errno {
	switch {
	case d.standing(name) >= 0:
		return 7 // ErrThere
	case d.open(name) < 0:
		return 9 // ErrFull
	}
	return 0
}

// lay lays the slots in the segment itself.
func (d *table) lay(t *testing.T, s *seg.Seg) {
	t.Helper()
	for i, r := range d {
		lay(t, s, at(i), r.name[0])
		lay(t, s, at(i)+8, r.name[1])
		lay(t, s, at(i)+16, r.payload)
	}
}

// think thinks of the slots.
func (d *table) think(x *tx.Tx) {
	for i, r := range d {
		x.Store(at(i), r.name[0])
		x.Store(at(i)+8, r.name[1])
		x.Store(at(i)+16, r.payload)
	}
}

// puts are all words of the slots.
func (d *table) puts() []api.Put {
	var l []api.Put
	for i, r := range d {
		l = append(l, api.Put{Off: at(i), V: r.name[0]}, api.Put{Off: at(i) + 8, V: r.name[1]}, api.Put{Off: at(i) + 16, V: r.payload})
	}
	return l
}

// set is a slot with a name.
func (d *table) set(i int, name string, payload uint64) {
	d[i].name, d[i].payload = words(name), payload
}

// asked asks all of one name: what is told, and which words are stored; each call has its own Tx over s, whose slots are those of d.
func (d *table) asked(t *testing.T, what string, s *seg.Seg, name string) {
	t.Helper()
	was := s.Copy()
	i, want := d.standing(name), d.room(name)
	x := tx.New(s)
	rooms(t, what, x, name, want)
	if i >= 0 {
		finds(t, what, x, name, d[i].payload)
	} else {
		finds(t, what, x, name, 0)
	}
	puts(t, what, x)
	drops(t, what, x, name, i >= 0)
	if i >= 0 {
		puts(t, what, x, api.Put{Off: at(i) + 16, V: 1})
	} else {
		puts(t, what, x)
	}
	for _, payload := range []uint64{0, 1, 2, 3808, largest} {
		x := tx.New(s)
		if want == 0 && payload < 2 {
			puttings(t, what, x, name, payload, 1) // ErrArg
		} else {
			puttings(t, what, x, name, payload, want)
		}
		if want == 0 && payload > 1 {
			puts(t, what, x, three(d.open(name), name, payload)...)
		} else {
			puts(t, what, x)
		}
	}
	same(t, what, s, was)
}

// P13.1, P13.2, by hand
func TestByHand(t *testing.T) {
	s := formatted(t)
	was := s.Copy()
	x := tx.New(s)
	tells(t, "formatted", x)
	rooms(t, "formatted", x, "a", api.OK)
	finds(t, "formatted", x, "a", 0)
	drops(t, "formatted", x, "a", false)
	puttings(t, "a", x, "a", 3808, api.OK) // its way begins at the slot 12
	puts(t, "a", x, api.Put{Off: 3680, V: 0x6101}, api.Put{Off: 3688, V: 0}, api.Put{Off: 3696, V: 3808})
	finds(t, "a", x, "a", 3808)
	rooms(t, "a", x, "a", api.ErrThere)
	puttings(t, "a again", x, "a", 3856, api.ErrThere)
	says(t, "a", x, 3808, true)
	says(t, "a", x, 3856, false)
	puttings(t, "b", x, "b", 3856, api.OK)           // 5
	puttings(t, "anchor", x, "anchor", 3904, api.OK) // 4
	tells(t, "three", x, dir.Entry{Name: "anchor", Off: 3904}, dir.Entry{Name: "b", Off: 3856}, dir.Entry{Name: "a", Off: 3808})
	drops(t, "a", x, "a", true)
	drops(t, "a again", x, "a", false)
	finds(t, "a is dropped", x, "a", 0)
	finds(t, "a is dropped", x, "b", 3856)
	says(t, "a is dropped", x, 3808, false)
	tells(t, "a is dropped", x, dir.Entry{Name: "anchor", Off: 3904}, dir.Entry{Name: "b", Off: 3856})
	same(t, "not applied", s, was)
	x.Apply()
	tells(t, "applied", tx.New(s), dir.Entry{Name: "anchor", Off: 3904}, dir.Entry{Name: "b", Off: 3856})
	lay(t, was, 3680, 0x6101)
	lay(t, was, 3696, 1)
	for _, p := range append(three(5, "b", 3856), three(4, "anchor", 3904)...) {
		lay(t, was, p.Off, p.V)
	}
	same(t, "applied", s, was)
}

// The names' ways, by hand: each begins where the hash says.
func TestWaysByHand(t *testing.T) {
	for _, x := range []struct {
		name string
		slot int
		w    [2]uint64
	}{
		{"a", 12, [2]uint64{0x6101, 0}},
		{"b", 5, [2]uint64{0x6201, 0}},
		{"c", 2, [2]uint64{0x6301, 0}},
		{"\x00", 15, [2]uint64{1, 0}},
		{"foobar", 8, [2]uint64{0x7261626f6f6606, 0}},
	} {
		y := tx.New(formatted(t))
		puttings(t, "by hand", y, x.name, 4000, api.OK)
		puts(t, "by hand", y, api.Put{Off: begin + wide*uint64(x.slot), V: x.w[0]}, api.Put{Off: begin + wide*uint64(x.slot) + 8, V: x.w[1]}, api.Put{Off: begin + wide*uint64(x.slot) + 16, V: 4000})
	}
}

// P13.1: a name is of 1 to 15 bytes, any ones.
func TestNames(t *testing.T) {
	for _, name := range edges() {
		s := formatted(t)
		x := tx.New(s)
		for round := range uint64(2) {
			finds(t, "not put", x, name, 0)
			drops(t, "not put", x, name, false)
			rooms(t, "not put", x, name, api.OK)
			puttings(t, "put", x, name, 3808+round, api.OK)
			puts(t, "put", x, three(first(name), name, 3808+round)...)
			rooms(t, "put", x, name, api.ErrThere)
			finds(t, "put", x, name, 3808+round)
			tells(t, "put", x, dir.Entry{Name: name, Off: 3808 + round})
			for _, other := range edges() { // none of them is that one
				if other != name {
					finds(t, "another one", x, other, 0)
					rooms(t, "another one", x, other, api.OK)
					drops(t, "another one", x, other, false)
				}
			}
			drops(t, "put", x, name, true)
			tells(t, "dropped", x)
		}
		puts(t, "dropped", x, three(first(name), name, 1)...)
	}
}

// P13.1, P13.2: what is no name is ErrName, whatever else is so, and stands in no slot.
func TestNoNames(t *testing.T) {
	var full, bare table
	for i := range full {
		full.set(i, named(i, 1)[0], uint64(4000+16*i))
	}
	for i := range bare {
		bare[i].payload = 3808 // both words are 0, as those of no name would be
	}
	for _, d := range []*table{{}, &full, &bare} {
		s := formatted(t)
		d.lay(t, s)
		was := s.Copy()
		x := tx.New(s)
		for _, name := range wrong() {
			rooms(t, "no name", x, name, api.ErrName)
			for _, payload := range []uint64{0, 1, 2, 3808, largest} {
				puttings(t, "no name", x, name, payload, api.ErrName)
			}
			finds(t, "no name", x, name, 0)
			drops(t, "no name", x, name, false)
		}
		puts(t, "no name", x)
		same(t, "no name", s, was)
	}
}

// P13.2: also if its bytes, cut off or in part, would be the words of a slot.
func TestNoNamesInSlots(t *testing.T) {
	for _, name := range wrong() {
		var d table
		for i := range d {
			b := make([]byte, 16) // how many these are, modulo 256, and the first 15 of them
			b[0] = byte(len(name))
			copy(b[1:], name)
			for k := range b {
				d[i].name[k/8] += uint64(b[k]) << (k % 8 * 8)
			}
			d[i].payload = 3808
		}
		s := formatted(t)
		d.lay(t, s)
		x := tx.New(s)
		rooms(t, "cut off", x, name, api.ErrName)
		finds(t, "cut off", x, name, 0)
		drops(t, "cut off", x, name, false)
		puts(t, "cut off", x)
	}
}

// P13.1: payloads
func TestPayloads(t *testing.T) {
	for _, payload := range []uint64{0, 1} {
		x := tx.New(formatted(t))
		rooms(t, "no payload", x, "a", api.OK)
		puttings(t, "no payload", x, "a", payload, api.ErrArg)
		puts(t, "no payload", x)
		finds(t, "no payload", x, "a", 0)
	}
	most := []uint64{2, 3, 4, 7, 8, 255, 256, 257, 3808, all, 1 << 20, 1<<32 - 1, 1<<63 - 1, 1 << 63, largest - 1, largest}
	for shift := 1; shift < 64; shift++ { // the low bits alone are those of none
		most = append(most, 1<<shift, 1<<shift+1)
	}
	for _, payload := range most {
		x := tx.New(formatted(t))
		puttings(t, "any payload", x, "a", payload, api.OK)
		puts(t, "any payload", x, three(12, "a", payload)...)
		finds(t, "any payload", x, "a", payload)
		tells(t, "any payload", x, dir.Entry{Name: "a", Off: payload})
		says(t, "any payload", x, payload, true)
		for _, other := range []uint64{0, 1, payload - 1, payload + 1, payload ^ 1<<63, payload ^ 1<<32} {
			says(t, "another payload", x, other, false)
		}
		puttings(t, "any payload", x, "a", payload, api.ErrThere)
		drops(t, "any payload", x, "a", true)
		puts(t, "any payload", x, three(12, "a", 1)...)
	}
}

// P13.1: of two errors the one that is named first.
func TestTwoErrors(t *testing.T) {
	var there, full table
	for i := range slots {
		full.set(i, named(i, 2)[1], uint64(5000+i))
	}
	there.set(first("a"), "a", 3808)
	both := full
	both.set(first("a"), "a", 3808)
	for _, x := range []struct {
		d    *table
		name string
		want api.Errno
	}{
		{&full, "", api.ErrName}, {&both, strings.Repeat("a", 16), api.ErrName},
		{&there, "a", api.ErrThere}, {&both, "a", api.ErrThere},
		{&full, "a", api.ErrFull}, {&both, "b", api.ErrFull},
	} {
		s := formatted(t)
		x.d.lay(t, s)
		y := tx.New(s)
		rooms(t, "two errors", y, x.name, x.want)
		for _, payload := range []uint64{0, 1, 2, largest} {
			puttings(t, "two errors", y, x.name, payload, x.want)
		}
		puts(t, "two errors", y)
	}
}

// P13.1: sixteen names, and one more; and each of them again.
func TestFull(t *testing.T) {
	s := formatted(t)
	x := tx.New(s)
	l := letters()
	var d table
	for i, name := range l[:slots] {
		rooms(t, "filling", x, name, api.OK)
		puttings(t, "filling", x, name, uint64(4000+i), api.OK)
		d.set(d.open(name), name, uint64(4000+i))
	}
	puts(t, "full", x, d.puts()...)
	rooms(t, "full", x, "q", api.ErrFull)
	puttings(t, "full", x, "q", 5000, api.ErrFull)
	finds(t, "full", x, "q", 0)
	drops(t, "full", x, "q", false)
	if n := len(dir.All(x)); n != slots {
		t.Errorf("full: %d names", n)
	}
	puts(t, "full", x, d.puts()...)
	for i, gone := range l[:slots] {
		drops(t, "one goes", x, gone, true)
		for k, name := range l[:slots] {
			if k != i {
				finds(t, "one goes", x, name, uint64(4000+k))
				rooms(t, "one goes", x, name, api.ErrThere)
			}
		}
		finds(t, "one goes", x, gone, 0)
		rooms(t, "one goes", x, "q", api.OK)
		puttings(t, "one more", x, "q", 5000, api.OK) // whatever its way is, it stands where that one stood
		then := d
		then.set(d.standing(gone), "q", 5000)
		puts(t, "one more", x, then.puts()...)
		rooms(t, "full again", x, gone, api.ErrFull)
		drops(t, "that one goes", x, "q", true)
		puttings(t, "the one comes back", x, gone, uint64(4000+i), api.OK)
		puts(t, "as it was", x, d.puts()...)
	}
}

// P13.1: ways that begin at one slot, at each of them, and go round.
func TestOneWay(t *testing.T) {
	for slot := range slots {
		x := tx.New(formatted(t))
		l := named(slot, slots+1)
		var want []api.Put
		for k, name := range l[:slots] {
			puttings(t, "one way", x, name, uint64(4000+k), api.OK)
			want = append(want, three((slot+k)%slots, name, uint64(4000+k))...)
			puts(t, "one way", x, want...)
		}
		puttings(t, "one way", x, l[slots], 5000, api.ErrFull)
		for k, name := range l[:slots] {
			finds(t, "one way", x, name, uint64(4000+k))
		}
		for k, name := range l[:slots] { // the first ones go: the others stand behind forgotten ones
			drops(t, "one way", x, name, true)
			finds(t, "one way", x, name, 0)
			for m := k + 1; m < slots; m++ {
				finds(t, "one way", x, l[m], uint64(4000+m))
				rooms(t, "one way", x, l[m], api.ErrThere)
				puttings(t, "one way", x, l[m], 5000, api.ErrThere)
			}
		}
		for i := range want {
			if i%3 == 2 {
				want[i].V = 1
			}
		}
		puts(t, "all are forgotten", x, want...)
		tells(t, "all are forgotten", x)
		for _, name := range l {
			finds(t, "all are forgotten", x, name, 0)
			rooms(t, "all are forgotten", x, name, api.OK)
		}
		puttings(t, "all are forgotten", x, l[slots], 5000, api.OK)
		copy(want, three(slot, l[slots], 5000))
		puts(t, "one is there", x, want...)
	}
}

// P13.1, P13.2: a name behind forgotten slots, and behind an empty one, where it doesn't stand.
func TestBehind(t *testing.T) {
	for slot := range slots {
		l := named(slot, 3)
		for far := range slots {
			for hole := range slots {
				for _, payload := range []uint64{0, 1, 2, 3808} {
					if hole == far {
						continue
					}
					var d table
					for k := range far { // forgotten up to there
						d.set((slot+k)%slots, l[1], 1)
					}
					d.set((slot+far)%slots, l[0], 4000)
					d.set((slot+hole)%slots, l[2], payload)
					s := formatted(t)
					d.lay(t, s)
					d.asked(t, "behind", s, l[0])
					if t.Failed() {
						t.Fatalf("from %d on, %d farther, %d stands %d farther", slot, far, payload, hole)
					}
					x := tx.New(s)
					if hole < far && payload == 0 {
						finds(t, "behind an empty one", x, l[0], 0)
						rooms(t, "behind an empty one", x, l[0], api.OK)
					} else {
						finds(t, "behind", x, l[0], 4000)
					}
				}
			}
		}
	}
}

// P13.1: a new name takes the first forgotten slot, ahead of an empty one, also one whose name is its own.
func TestForgottenFirst(t *testing.T) {
	l := named(14, 5)
	x := tx.New(formatted(t))
	for i, name := range l[:4] { // in the slots 14, 15, 0, 1
		puttings(t, "four", x, name, uint64(4000+i), api.OK)
	}
	drops(t, "the second", x, l[1], true)
	drops(t, "the third", x, l[2], true)
	puttings(t, "the third again", x, l[2], 5002, api.OK) // in the slot 15
	puts(t, "the third again", x, slices.Concat(three(14, l[0], 4000), three(15, l[2], 5002), three(0, l[2], 1), three(1, l[3], 4003))...)
	finds(t, "the third again", x, l[2], 5002)
	puttings(t, "the third twice", x, l[2], 6000, api.ErrThere)
	puttings(t, "a new one", x, l[4], 5004, api.OK) // in the slot 0, ahead of 2
	puts(t, "a new one", x, slices.Concat(three(14, l[0], 4000), three(15, l[2], 5002), three(0, l[4], 5004), three(1, l[3], 4003))...)
	puttings(t, "the second again", x, l[1], 5001, api.OK) // in the slot 2
	drops(t, "the third", x, l[2], true)
	puttings(t, "the third once more", x, l[2], 7000, api.OK)
	puts(t, "the third once more", x, slices.Concat(three(14, l[0], 4000), three(15, l[2], 7000), three(0, l[4], 5004), three(1, l[3], 4003), three(2, l[1], 5001))...)
	for i, payload := range []uint64{4000, 5001, 7000, 4003, 5004} {
		finds(t, "all of them", x, l[i], payload)
	}
}

// P13.1: all three words are stored, also those that are so already; P13.2: Drop stores one word alone.
func TestWordsThatAreSo(t *testing.T) {
	for _, payload := range []uint64{0, 1} { // empty, and forgotten
		for _, stood := range []uint64{2, 3808, largest} {
			var d table
			d.set(12, "a", payload)
			s := formatted(t)
			d.lay(t, s)
			x := tx.New(s)
			puttings(t, "its words stand", x, "a", stood, api.OK)
			puts(t, "its words stand", x, three(12, "a", stood)...)
			x.Apply()
			d.set(12, "a", stood)
			d.asked(t, "applied", s, "a")
			y := tx.New(s)
			drops(t, "applied", y, "a", true)
			puts(t, "dropped", y, api.Put{Off: 3696, V: 1})
			drops(t, "applied", y, "a", false)
			puts(t, "dropped", y, api.Put{Off: 3696, V: 1})
			puttings(t, "put again", y, "a", stood, api.OK) // the payload, too, is what the segment has
			puts(t, "put again", y, three(12, "a", stood)...)
		}
	}
}

// P13.1, P13.2: whatever stands in the slots of a way, of the name itself, of another one, of none.
func TestAnySlots(t *testing.T) {
	name, other := named(13, 2)[0], named(13, 2)[1]
	kinds := []struct {
		name    [2]uint64
		payload uint64
	}{
		{words(name), 0}, {words(name), 1}, {words(name), 2}, {words(name), largest}, {words(other), 3808}, {words(other), 1},
	}
	for rest := range kinds {
		if rest == 3 || rest == 5 {
			continue
		}
		for n := range 6 * 6 * 6 * 6 * 6 {
			var d table
			for i := range d {
				d[i] = kinds[rest]
			}
			for k, m := 0, n; k < 5; k, m = k+1, m/6 { // the slots 13, 14, 15, 0, 1
				d[(13+k)%slots] = kinds[m%6]
			}
			s := seg.New(heap)
			d.lay(t, s)
			d.asked(t, "any slots", s, name)
			if t.Failed() {
				t.Fatalf("%v", d)
			}
		}
	}
}

// P13.1, P13.2: a slot is a name's just if both of its words are.
func TestBothWords(t *testing.T) {
	for _, name := range edges() {
		for bit := range 128 {
			var d table
			i := first(name)
			d.set(i, name, 3808)
			d[i].name[bit/64] ^= 1 << (bit % 64)
			d.set((i+1)%slots, name, 3856)
			s := seg.New(heap)
			d.lay(t, s)
			x := tx.New(s)
			finds(t, "one bit is another", x, name, 3856)
			drops(t, "one bit is another", x, name, true)
			puts(t, "one bit is another", x, api.Put{Off: at((i+1)%slots) + 16, V: 1})
			says(t, "one bit is another", x, 3808, true) // whatever its words are
		}
	}
}

// P13.2: All are the slots' names, in their turn, whichever way a name stands there.
func TestAll(t *testing.T) {
	var d table
	d.set(0, "z", 4000)
	d.set(1, "a", 2)
	d.set(2, "b", 1)                         // forgotten
	d.set(3, "c", 0)                         // empty
	d.set(4, "a", 5000)                      // a second time
	d.set(5, "m", 4000)                      // the payload, too, of another one
	d[6].payload = 6000                      // of no name
	d[7].name = [2]uint64{16, 0}             // too long
	d[7].payload = 6001                      //
	d[8].name = [2]uint64{0x616101, 0}       // something stands behind it
	d[8].payload = 6002                      //
	d[9].name = [2]uint64{0x6101, 1 << 63}   // in the other word, too
	d[9].payload = 6003                      //
	d[10].name = [2]uint64{largest, largest} // of no name
	d[10].payload = largest
	d.set(11, "\x00", largest)
	d.set(12, strings.Repeat("\xff", 15), 3)
	d.set(13, strings.Repeat("y", 15), 1)
	d.set(15, "abcdefghijklmno", 7000)
	s := formatted(t)
	d.lay(t, s)
	want := []dir.Entry{
		{Name: "z", Off: 4000}, {Name: "a", Off: 2}, {Name: "a", Off: 5000}, {Name: "m", Off: 4000},
		{Name: "\x00", Off: largest}, {Name: strings.Repeat("\xff", 15), Off: 3}, {Name: "abcdefghijklmno", Off: 7000},
	}
	x := tx.New(s)
	tells(t, "any slots", x, want...)
	puts(t, "any slots", x)
	for _, payload := range []uint64{4000, 2, 5000, 6000, 6001, 6002, 6003, largest, 3, 7000} { // also of slots of no name
		says(t, "any slots", x, payload, true)
	}
	for _, payload := range []uint64{0, 1, 4, 3999, 4001, 6004, largest - 1, 1 << 63, 1<<32 + 2} {
		says(t, "any slots", x, payload, false)
	}
	puts(t, "any slots", x)
}

// P13.2: each slot is told, and no other words.
func TestEachSlot(t *testing.T) {
	for i := range slots {
		for _, payload := range []uint64{0, 1, 2, 3, 1 << 32, 1 << 63, largest} {
			s := littered(t, all)
			var d table
			d.set(i, "anchor", payload)
			d.lay(t, s)
			x := tx.New(s)
			if payload > 1 {
				tells(t, "one slot", x, dir.Entry{Name: "anchor", Off: payload})
				says(t, "one slot", x, payload, true)
			} else {
				tells(t, "one slot", x)
				says(t, "one slot", x, payload, false)
			}
			for _, off := range []uint64{begin - 24, begin - 16, begin - 8, heap, heap + 8, heap + 16} {
				v, err := s.Load(off)
				if err != api.OK {
					t.Fatalf("Load(%d): %d", off, err)
				}
				says(t, "beside the slots", x, v, false)
			}
			says(t, "a name's word isn't a payload", x, words("anchor")[0], false)
		}
	}
}

// P13.2: which slots have a payload, and not, of two that have it, and of one that was dropped.
func TestNamed(t *testing.T) {
	x := tx.New(formatted(t))
	for _, payload := range []uint64{0, 1, 2, 3808, largest} {
		says(t, "no name", x, payload, false)
	}
	puttings(t, "a", x, "a", 3808, api.OK)
	puttings(t, "b", x, "b", 3808, api.OK)
	says(t, "two", x, 3808, true)
	drops(t, "a", x, "a", true)
	says(t, "one of two", x, 3808, true)
	says(t, "one of two", x, 0, false)
	says(t, "one of two", x, 1, false)
	drops(t, "b", x, "b", true)
	says(t, "none", x, 3808, false)
	says(t, "none", x, 1, false)
	puttings(t, "b", x, "b", 2, api.OK)
	says(t, "another one", x, 2, true)
	says(t, "another one", x, 3808, false)
}

// R3: what is told is the caller's own.
func TestAllIsTheCallers(t *testing.T) {
	x := tx.New(formatted(t))
	for i, name := range letters()[:5] {
		puttings(t, "five", x, name, uint64(4000+i), api.OK)
	}
	a := dir.All(x)
	was := slices.Clone(a)
	for i := range a {
		a[i] = dir.Entry{Name: "x", Off: 9}
	}
	_ = append(a[:2], dir.Entry{}, dir.Entry{}, dir.Entry{}, dir.Entry{})
	tells(t, "again", x, was...)
	b, c := dir.All(x), dir.All(x)
	b[0].Off = 7
	if c[0] != was[0] {
		t.Error("two that are told are one")
	}
}

// P13.1, P13.2: what is thought of is asked, not what stands in the segment.
func TestAsksWhatIsThought(t *testing.T) {
	for n := range uint64(400) {
		below, above := anyTable(n), anyTable(n+1<<20)
		s := formatted(t)
		below.lay(t, s)
		was := s.Copy()
		for _, name := range letters() {
			x := tx.New(s)
			above.think(x)
			rooms(t, "thought of", x, name, above.room(name))
			if i := above.standing(name); i >= 0 {
				finds(t, "thought of", x, name, above[i].payload)
			} else {
				finds(t, "thought of", x, name, 0)
			}
			tells(t, "thought of", x, above.entries()...)
			puts(t, "thought of", x, above.puts()...)
			below.asked(t, "in the segment", s, name)
			tells(t, "in the segment", x.Bare(), below.entries()...)
			behind := *above
			if i := above.standing(name); i >= 0 {
				behind[i].payload = 1
			} else if i := above.open(name); i >= 0 {
				behind.set(i, name, 3808)
			}
			if above.standing(name) >= 0 {
				drops(t, "thought of", x, name, true)
			} else {
				drops(t, "thought of", x, name, false)
				puttings(t, "thought of", x, name, 3808, above.room(name))
			}
			puts(t, "thought of", x, behind.puts()...)
		}
		same(t, "thought of", s, was)
		if t.Failed() {
			t.Fatalf("%d: %v over %v", n, above, below)
		}
	}
}

// anyTable has slots of any kind, of some letters' names, and of none.
func anyTable(n uint64) *table {
	d := &table{}
	for i := range d {
		m := mixed(n<<8 + uint64(i))
		d.set(i, letters()[m%6], []uint64{0, 1, 2, 3808, largest, 4000 + m>>32%4}[m>>8%6])
		if n%3 > 0 && d[i].payload == 0 { // few empty ones
			d[i].payload = m >> 16 % 4
		}
		if m>>24%8 == 0 {
			d[i].name[m>>28%2] ^= 1 << (m >> 40 % 64)
		}
	}
	return d
}

// entries is what All should tell.
func (d *table) entries() []dir.Entry {
	var l []dir.Entry
	for _, r := range d {
		if name, ok := nameOf(r.name); ok && r.payload > 1 {
			l = append(l, dir.Entry{Name: name, Off: r.payload})
		}
	}
	return l
}

// nameOf is the name whose words these are.
func nameOf(w [2]uint64) (string, bool) {
	var b []byte
	for k := range 16 {
		b = append(b, byte(w[k/8]>>(k%8*8)))
	}
	n := int(b[0])
	if n == 0 || n > 15 || strings.Trim(string(b[n+1:]), "\x00") != "" {
		return "", false
	}
	return string(b[1 : n+1]), true
}

// P13.1, P13.2: calls of any turn, over slots of any words, against the document's words, one by one.
func TestAnyTurn(t *testing.T) {
	for n := range uint64(160) {
		s := formatted(t)
		d := anyTable(n)
		if n%4 == 0 {
			d = &table{}
		}
		d.lay(t, s)
		was := s.Copy()
		x := tx.New(s)
		pool := letters()
		if n%2 == 0 {
			pool = named(int(n%16), 20)
		}
		thought := map[uint64]uint64{}
		for k := range uint64(150) {
			m := mixed(n<<20 + k)
			name := pool[m>>8%uint64(len(pool))]
			switch m % 8 {
			case 0, 1, 2:
				payload := []uint64{0, 1, 2, 3808, largest, mixed(m)}[m>>16%6]
				want := d.room(name)
				if want == 0 && payload < 2 {
					want = 1 // ErrArg
				}
				puttings(t, "in any turn", x, name, payload, want)
				if i := d.open(name); want == 0 {
					d.set(i, name, payload)
					for _, p := range three(i, name, payload) {
						thought[p.Off] = p.V
					}
				}
			case 3, 4:
				i := d.standing(name)
				drops(t, "in any turn", x, name, i >= 0)
				if i >= 0 {
					d[i].payload = 1
					thought[at(i)+16] = 1
				}
			case 5:
				if m>>16%8 == 0 {
					x.Apply()
					for off, v := range thought {
						lay(t, was, off, v)
					}
					x = x.Bare()
					clear(thought)
				}
			}
			d.told(t, x, pool)
			var want []api.Put
			for off, v := range thought {
				want = append(want, api.Put{Off: off, V: v})
			}
			puts(t, "in any turn", x, want...)
			same(t, "in any turn", s, was)
			if t.Failed() {
				t.Fatalf("turn %d, call %d", n, k)
			}
		}
	}
}

// told asks all that is told of the slots, as they are thought of.
func (d *table) told(t *testing.T, x *tx.Tx, pool []string) {
	t.Helper()
	for _, name := range pool {
		rooms(t, "in any turn", x, name, d.room(name))
		if i := d.standing(name); i >= 0 {
			finds(t, "in any turn", x, name, d[i].payload)
		} else {
			finds(t, "in any turn", x, name, 0)
		}
	}
	tells(t, "in any turn", x, d.entries()...)
	for _, r := range d {
		for _, payload := range []uint64{r.payload, r.payload + 1, r.name[0]} {
			want := false
			for _, o := range d {
				want = want || o.payload == payload && payload > 1
			}
			says(t, "in any turn", x, payload, want)
		}
	}
}

// P13.3: what was put is found, until it is dropped, whatever other names come and go: against a map of names.
func TestFoundUntilDropped(t *testing.T) {
	for n := range uint64(200) {
		s := formatted(t)
		x := tx.New(s)
		pool := letters()
		switch n % 4 {
		case 0: // all of one way
			pool = named(int(n%16), 24)
		case 1: // of three ways beside each other
			pool = slices.Concat(named(int(n%16), 8), named(int((n+1)%16), 8), named(int((n+2)%16), 8))
		case 2:
			pool = append(edges(), letters()...)
		}
		have := map[string]uint64{}
		for k := range uint64(300) {
			m := mixed(n<<20 + k)
			name, payload := pool[m>>8%uint64(len(pool))], mixed(m)|2
			_, there := have[name]
			switch {
			case m%2 == 0:
				drops(t, "come and go", x, name, there)
				delete(have, name)
			case there:
				puttings(t, "come and go", x, name, payload, api.ErrThere)
			case len(have) == slots:
				puttings(t, "come and go", x, name, payload, api.ErrFull)
			default:
				puttings(t, "come and go", x, name, payload, api.OK)
				have[name] = payload
			}
			if m>>20%16 == 0 {
				x.Apply()
				x = tx.New(s)
			}
			for _, name := range pool {
				finds(t, "come and go", x, name, have[name])
			}
			l := dir.All(x)
			for _, e := range l {
				if have[e.Name] != e.Off {
					t.Errorf("come and go: %q stands for %d, not %d", e.Name, e.Off, have[e.Name])
				}
				says(t, "come and go", x, e.Off, true)
			}
			if len(l) != len(have) {
				t.Errorf("come and go: %d names, not %d", len(l), len(have))
			}
			if t.Failed() {
				t.Fatalf("turn %d, call %d", n, k)
			}
		}
	}
}

// The chapter's example: put a, dropped, put b: whatever their ways are, b is found.
func TestExample(t *testing.T) {
	for _, a := range append(edges(), letters()...) {
		for _, b := range append(edges(), letters()...) {
			if a == b {
				continue
			}
			x := tx.New(formatted(t))
			puttings(t, "a", x, a, 3808, api.OK)
			drops(t, "a", x, a, true)
			puttings(t, "b", x, b, 3856, api.OK)
			finds(t, "b", x, b, 3856)
			finds(t, "a", x, a, 0)
			tells(t, "b", x, dir.Entry{Name: b, Off: 3856})
		}
	}
}

// P13.2: what is asked isn't thought of.
func TestAskingChangesNothing(t *testing.T) {
	s := littered(t, all)
	was := s.Copy()
	x := tx.New(s)
	for _, name := range slices.Concat(edges(), wrong(), letters()) {
		rooms(t, "asked", x, name, dir.Room(tx.New(s), name))
		finds(t, "asked", x, name, 0)
		dir.Named(x, 3808)
		dir.All(x)
	}
	puts(t, "asked", x)
	rooms(t, "littered", x, "a", api.ErrFull)
	x.Store(at(3)+16, 1)
	rooms(t, "one is forgotten", x, "a", api.OK)
	puts(t, "asked", x, api.Put{Off: at(3) + 16, V: 1})
	same(t, "asked", s, was)
}

// P13.1: two over one segment don't know of each other.
func TestTwo(t *testing.T) {
	s := formatted(t)
	a, b := tx.New(s), tx.New(s)
	puttings(t, "the one", a, "a", 3808, api.OK)
	finds(t, "the other", b, "a", 0)
	puttings(t, "the other", b, "a", 3856, api.OK)
	finds(t, "the one", a, "a", 3808)
	drops(t, "the one", a, "a", true)
	finds(t, "the other", b, "a", 3856)
	b.Apply()
	finds(t, "the one", a, "a", 0)
	finds(t, "a third", tx.New(s), "a", 3856)
}

// R5: nobody's Tx: its words are 0, and stay.
func TestNil(t *testing.T) {
	for _, x := range []*tx.Tx{nil, tx.New(nil), tx.New(seg.New(0)), tx.New(nil).Bare()} {
		for range 2 {
			for _, name := range append(edges(), letters()...) {
				rooms(t, "nobody", x, name, api.OK)
				puttings(t, "nobody", x, name, 0, api.ErrArg)
				puttings(t, "nobody", x, name, 1, api.ErrArg)
				puttings(t, "nobody", x, name, 2, api.OK)
				puttings(t, "nobody", x, name, largest, api.OK)
				finds(t, "nobody", x, name, 0)
				drops(t, "nobody", x, name, false)
			}
			for _, name := range wrong() {
				rooms(t, "nobody", x, name, api.ErrName)
				puttings(t, "nobody", x, name, 0, api.ErrName)
				puttings(t, "nobody", x, name, 3808, api.ErrName)
				finds(t, "nobody", x, name, 0)
				drops(t, "nobody", x, name, false)
			}
			for _, payload := range []uint64{0, 1, 2, 3808, largest} {
				says(t, "nobody", x, payload, false)
			}
			tells(t, "nobody", x)
			puts(t, "nobody", x)
		}
	}
}

// P13.1, P13.2: of slots that the segment has in part, or not at all, the words that it hasn't are 0, and stay.
func TestShort(t *testing.T) {
	for size := uint64(begin - 48); size <= heap+48; size += 8 {
		s := seg.New(size)
		var d table
		for i := range d {
			d.set(i, letters()[i%4], uint64(3808+i))
			for k, v := range []uint64{d[i].name[0], d[i].name[1], d[i].payload} {
				if off := at(i) + 8*uint64(k); off < size {
					lay(t, s, off, v)
					continue
				}
				if k < 2 {
					d[i].name[k] = 0
				} else {
					d[i].payload = 0
				}
			}
		}
		was := s.Copy()
		for _, name := range append(letters(), edges()...) {
			x := tx.New(s)
			rooms(t, "short", x, name, d.room(name))
			tells(t, "short", x, d.entries()...)
			i := d.standing(name)
			drops(t, "short", x, name, i >= 0)
			if i >= 0 {
				puts(t, "short", x, api.Put{Off: at(i) + 16, V: 1})
				continue
			}
			puttings(t, "short", x, name, 5000, d.room(name))
			var want []api.Put
			if d.room(name) == 0 {
				want = slices.DeleteFunc(three(d.open(name), name, 5000), func(p api.Put) bool { return p.Off >= size })
			}
			puts(t, "short", x, want...)
		}
		same(t, "short", s, was)
		if t.Failed() {
			t.Fatalf("of %d bytes", size)
		}
	}
}
