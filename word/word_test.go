package word_test

import (
	"math/big"
	"strings"
	"testing"

	"carrack/api"
	"carrack/word"
)

const largest = 1<<64 - 1

// edges are numbers around each power of two, around both ends, and around the limits of package api.
func edges() []uint64 {
	l := []uint64{3, 5, 6, 7, 24, 39, 40, 41, 48, 100, 1000, 0xdeadbeef, 0x9E3779B97F4A7C15, largest - 54, largest - 55, largest - 56}
	for i := range 64 {
		p := uint64(1) << i
		l = append(l, p-1, p, p+1, -p, -p-1, -p+1)
	}
	return append(l, api.MinSize, api.MaxSize, 0, largest)
}

func whole(n uint64) *big.Int { return new(big.Int).SetUint64(n) }

// fits is a whole number as a call should tell it.
func fits(n *big.Int) (uint64, bool) {
	if n.Sign() < 0 || n.BitLen() > 64 {
		return 0, false
	}
	return n.Uint64(), true
}

func isPower(a uint64) bool {
	for i := range 64 {
		if a == 1<<i {
			return true
		}
	}
	return false
}

// wantUp is Up, by division of whole numbers.
func wantUp(n *big.Int, a uint64) (uint64, bool) {
	if !isPower(a) {
		return 0, false
	}
	times, left := new(big.Int).DivMod(n, whole(a), new(big.Int))
	if left.Sign() != 0 {
		times.Add(times, whole(1))
	}
	return fits(times.Mul(times, whole(a)))
}

func wantNeed(n uint64) (uint64, bool) {
	if n < 8 {
		n = 8
	}
	return wantUp(new(big.Int).Add(whole(n), whole(40)), 16)
}

func same(t *testing.T, what string, a, b, got uint64, ok bool, want uint64, is bool) {
	t.Helper()
	if got != want || ok != is {
		t.Errorf("%s(%d, %d): %d, %v; not %d, %v", what, a, b, got, ok, want, is)
	}
}

// P1.1
func TestAddMulUpOfEdges(t *testing.T) {
	for _, a := range edges() {
		for _, b := range edges() {
			want, is := fits(new(big.Int).Add(whole(a), whole(b)))
			got, ok := word.Add(a, b)
			same(t, "Add", a, b, got, ok, want, is)

			want, is = fits(new(big.Int).Mul(whole(a), whole(b)))
			got, ok = word.Mul(a, b)
			same(t, "Mul", a, b, got, ok, want, is)

			want, is = wantUp(whole(a), b)
			got, ok = word.Up(a, b)
			same(t, "Up", a, b, got, ok, want, is)
		}
	}
}

// P1.1, by hand
func TestAddMulUp(t *testing.T) {
	for _, x := range []struct {
		what       string
		call       func(a, b uint64) (uint64, bool)
		a, b, want uint64
		ok         bool
	}{
		{"Add", word.Add, 2, 3, 5, true},
		{"Add", word.Add, largest, 0, largest, true},
		{"Add", word.Add, 0, largest, largest, true},
		{"Add", word.Add, 1 << 63, 1<<63 - 1, largest, true},
		{"Add", word.Add, 1 << 63, 1 << 63, 0, false},
		{"Add", word.Add, largest, 1, 0, false},
		{"Add", word.Add, 1, largest, 0, false},
		{"Add", word.Add, largest, largest, 0, false},
		{"Mul", word.Mul, 6, 7, 42, true},
		{"Mul", word.Mul, 0, largest, 0, true},
		{"Mul", word.Mul, largest, 0, 0, true},
		{"Mul", word.Mul, largest, 1, largest, true},
		{"Mul", word.Mul, 1<<32 - 1, 1<<32 + 1, largest, true},
		{"Mul", word.Mul, 1 << 32, 1 << 32, 0, false},
		{"Mul", word.Mul, 3, 1 << 63, 0, false},
		{"Mul", word.Mul, largest, 2, 0, false},
		{"Mul", word.Mul, largest, largest, 0, false},
		{"Up", word.Up, 17, 16, 32, true},
		{"Up", word.Up, 16, 16, 16, true},
		{"Up", word.Up, 0, 16, 0, true},
		{"Up", word.Up, 1, 4096, 4096, true},
		{"Up", word.Up, 13, 1, 13, true},
		{"Up", word.Up, largest, 1, largest, true},
		{"Up", word.Up, largest - 15, 16, largest - 15, true},
		{"Up", word.Up, largest - 14, 16, 0, false},
		{"Up", word.Up, largest, 2, 0, false},
		{"Up", word.Up, 1, 1 << 63, 1 << 63, true},
		{"Up", word.Up, 1 << 63, 1 << 63, 1 << 63, true},
		{"Up", word.Up, 1<<63 + 1, 1 << 63, 0, false},
		{"Up", word.Up, 5, 0, 0, false},
		{"Up", word.Up, 0, 0, 0, false},
		{"Up", word.Up, 6, 3, 0, false},
		{"Up", word.Up, 0, 24, 0, false},
		{"Up", word.Up, 1, largest, 0, false},
		{"Up", word.Up, 1, 1<<63 + 1, 0, false},
	} {
		got, ok := x.call(x.a, x.b)
		same(t, x.what, x.a, x.b, got, ok, x.want, x.ok)
	}
}

// P1.2
func TestNeed(t *testing.T) {
	for _, x := range []struct {
		n, want uint64
		ok      bool
	}{
		{0, 48, true}, {1, 48, true}, {7, 48, true}, {8, 48, true},
		{9, 64, true}, {24, 64, true}, {25, 80, true}, {100, 144, true},
		{largest - 55, largest - 15, true}, {largest - 54, 0, false},
		{largest - 40, 0, false}, {largest - 39, 0, false}, {largest, 0, false},
	} {
		got, ok := word.Need(x.n)
		same(t, "Need", x.n, 0, got, ok, x.want, x.ok)
	}
	few := edges()
	for n := range uint64(5000) {
		few = append(few, n, largest-n)
	}
	for _, n := range few {
		want, is := wantNeed(n)
		got, ok := word.Need(n)
		same(t, "Need", n, 0, got, ok, want, is)
	}
}

// P1.2
func TestWords(t *testing.T) {
	for _, x := range [][2]uint64{{0, 0}, {1, 1}, {7, 1}, {8, 1}, {9, 2}, {16, 2}, {17, 3}, {largest - 7, 1<<61 - 1}, {largest - 6, 1 << 61}, {largest, 1 << 61}} {
		if got := word.Words(x[0]); got != x[1] {
			t.Errorf("Words(%d): %d, not %d", x[0], got, x[1])
		}
	}
	for _, n := range edges() {
		want, _ := wantUp(whole(n), 1)
		sum := new(big.Int).Add(whole(want), whole(7))
		if got := whole(word.Words(n)); got.Cmp(sum.Rsh(sum, 3)) != 0 {
			t.Errorf("Words(%d): %d, not %d", n, got, sum)
		}
	}
}

// P1.3
func TestMix(t *testing.T) {
	for _, x := range [][2]uint64{{0, 0}, {1, 0x9E3779B97F4A7C15}, {2, 0x3C6EF372FE94F82A}, {largest, 0x61C8864680B583EB}, {1 << 63, 1 << 63}} {
		if got := word.Mix(x[0]); got != x[1] {
			t.Errorf("Mix(%#x): %#x, not %#x", x[0], got, x[1])
		}
	}
	low := whole(largest)
	for _, n := range edges() {
		want := new(big.Int).Mul(whole(n), whole(0x9E3779B97F4A7C15))
		if got := whole(word.Mix(n)); got.Cmp(want.And(want, low)) != 0 {
			t.Errorf("Mix(%#x): %#x, not %#x", n, got, want)
		}
	}
}

// P1.3: the numbers are those that are published of FNV-1a with 64 bits.
func TestHash(t *testing.T) {
	for _, x := range []struct {
		s    string
		want uint64
	}{
		{"", 0xcbf29ce484222325},
		{"a", 0xaf63dc4c8601ec8c},
		{"b", 0xaf63df4c8601f1a5},
		{"fo", 0x08985907b541d342},
		{"foobar", 0x85944171f73967e8},
		{"\x00", 0xaf63bd4c8601b7df},
		{"\xff", 0xaf64724c8602eb6e},
	} {
		if got := word.Hash(x.s); got != x.want {
			t.Errorf("Hash(%q): %#x, not %#x", x.s, got, x.want)
		}
	}
	if word.Hash("ab") == word.Hash("ba") {
		t.Error("Hash passes over the turn of bytes")
	}
	if word.Hash("\u00e9") != word.Hash("\xc3\xa9") {
		t.Error("Hash goes through letters, not bytes")
	}
}

// P1.4
func TestPack(t *testing.T) {
	for _, x := range []struct {
		s    string
		want [2]uint64
	}{
		{"a", [2]uint64{0x6101, 0}},
		{"ab", [2]uint64{0x626102, 0}},
		{"\x00", [2]uint64{1, 0}},
		{"\x00\x00", [2]uint64{2, 0}},
		{"\xff", [2]uint64{0xff01, 0}},
		{"abcdefg", [2]uint64{0x6766656463626107, 0}},
		{"abcdefgh", [2]uint64{0x6766656463626108, 0x68}},
		{"0123456789abcde", [2]uint64{0x363534333231300f, 0x6564636261393837}},
		{strings.Repeat("\xff", 15), [2]uint64{0xffffffffffffff0f, largest}},
	} {
		if got, ok := word.Pack(x.s); got != x.want || !ok {
			t.Errorf("Pack(%q): %#x, %v; not %#x", x.s, got, ok, x.want)
		}
		if got, ok := word.Name(x.want); got != x.s || !ok {
			t.Errorf("Name(%#x): %q, %v; not %q", x.want, got, ok, x.s)
		}
	}
	for _, n := range []int{0, 16, 17, 255, 256, 257, 271, 1 << 16} {
		if got, ok := word.Pack(strings.Repeat("x", n)); got != [2]uint64{} || ok {
			t.Errorf("Pack of %d bytes: %#x, %v", n, got, ok)
		}
	}
}

// P1.4: words that are no name's.
func TestNameOfOthers(t *testing.T) {
	for _, w := range [][2]uint64{
		{0, 0},                                   // none
		{0x6100, 0},                              // none, with something behind it
		{0, 1},                                   // likewise, in the other word
		{0x6101, 1},                              // one, with something in the other word
		{0x626101, 0},                            // one, with something right behind it
		{0x6101, 1 << 63},                        // one, with something at the end
		{0x6766656463626107, 0x68},               // seven, with something right behind them
		{0x363534333231300e, 0x6564636261393837}, // fourteen, likewise
		{0x10, 0},                                // sixteen
		{0x6110, 0},                              // likewise
		{0x11, 0},                                // seventeen
		{0x80, 0},                                // as many as look below 0 in a signed byte
		{0xff, 0},                                // as many as a byte says at most
		{0xffff, 0},                              // likewise
		{1 << 8, 0},                              // the number isn't in the second byte
		{1 << 56, 0},                             // nor in the last one
		{0, 0x6101},                              // nor in the other word
		{largest, largest},
	} {
		if got, ok := word.Name(w); got != "" || ok {
			t.Errorf("Name(%#x): %q, %v", w, got, ok)
		}
	}
}

// P1.5
func TestNoTwoHaveOneMix(t *testing.T) {
	// That times its factor's inverse tells every number back: so no two have one.
	back := new(big.Int).ModInverse(whole(0x9E3779B97F4A7C15), new(big.Int).Lsh(whole(1), 64)).Uint64()
	seen := map[uint64]uint64{}
	try := func(n uint64) {
		m := word.Mix(n)
		if m*back != n {
			t.Errorf("Mix(%d) isn't told back", n)
		}
		if other, ok := seen[m]; ok && other != n {
			t.Errorf("Mix of %d and %d: %d", n, other, m)
		}
		seen[m] = n
	}
	for _, n := range edges() {
		try(n)
	}
	for n := uint64(0); n <= api.MaxSize; n += 16 {
		try(n)
	}
}

// P1.5
func TestNamesThereAndBack(t *testing.T) {
	seen := map[[2]uint64]string{}
	try := func(s string) {
		w, ok := word.Pack(s)
		if !ok {
			t.Fatalf("Pack(%q) is none", s)
		}
		if got, ok := word.Name(w); got != s || !ok {
			t.Errorf("Name(Pack(%q)): %q, %v", s, got, ok)
		}
		if other, ok := seen[w]; ok && other != s {
			t.Errorf("Pack of %q and %q: %#x", s, other, w)
		}
		seen[w] = s
	}
	for n := 1; n <= api.MaxName; n++ {
		for b := range 256 {
			one := string([]byte{byte(b)})
			try(strings.Repeat(one, n))
			for i := range n {
				try(strings.Repeat("\x00", i) + one + strings.Repeat("\x00", n-1-i))
				try(strings.Repeat("x", i) + one + strings.Repeat("y", n-1-i))
			}
		}
	}
}

// P1.5: words are told back, too, if they are a name's; each byte of a name's words counts.
func TestWordsThereAndBack(t *testing.T) {
	for n := 0; n <= api.MaxName; n++ {
		w, _ := word.Pack("0123456789abcde"[:n])
		for i := range 128 {
			x := w
			x[i/64] ^= 1 << (i % 64)
			if s, ok := word.Name(x); ok {
				if again, is := word.Pack(s); again != x || !is {
					t.Errorf("Name(%#x): %q, of which Pack is %#x", x, s, again)
				}
			} else if i >= 8 && i < 8*(n+1) {
				t.Errorf("Name(%#x) is none", x)
			}
		}
	}
}

// P1.5
func TestMoreBytesNoSmaller(t *testing.T) {
	rises := func(n uint64) {
		less, is := word.Need(n)
		more, ok := word.Need(n + 1)
		if ok && (!is || more < less) || !ok && more != 0 || !is && less != 0 {
			t.Errorf("Need of %d: %d, %v; of %d: %d, %v", n, less, is, n+1, more, ok)
		}
	}
	for n := range uint64(10000) {
		rises(n)
		rises(largest - 1 - n)
	}
	for _, n := range edges() {
		if n != largest {
			rises(n)
		}
	}
}
