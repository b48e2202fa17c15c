package sum_test

import (
	"bytes"
	"hash/crc32"
	"slices"
	"testing"

	"portmanteau/sum"
)

// plain is the sum as the document's words tell it, bit by bit.
func plain(b []byte) uint32 {
	n := uint32(0xffffffff)
	for _, x := range b {
		n ^= uint32(x)
		for range 8 {
			low := n & 1
			n >>= 1
			if low == 1 {
				n ^= 0x82f63b78
			}
		}
	}
	return ^n
}

// noise is bytes without a pattern, the same for the same seed.
func noise(size int, seed uint32) []byte {
	b := make([]byte, size)
	for i := range b {
		seed = seed*1664525 + 1013904223
		b[i] = byte(seed >> 24)
	}
	return b
}

func ramp(size, step int) []byte {
	b := make([]byte, size)
	for i := range b {
		b[i] = byte(i * step)
	}
	return b
}

// samples are bytes of all lengths at which something may change, and some longer ones.
func samples() [][]byte {
	list := [][]byte{nil, {}, {0}, {255}, []byte("123456789"), make([]byte, 32), bytes.Repeat([]byte{255}, 32), ramp(256, 1), ramp(256, -1)}
	for size := range 20 {
		list = append(list, noise(size, uint32(size)))
	}
	return append(list, noise(1<<12, 1), noise(1<<16+1, 2))
}

var someSums = []uint32{0, 1, 0xffffffff, 0xfffffffe, 1 << 31, 1<<31 - 1, 0x82f63b78, 0xe3069283, 0x12345678}

// P2.1: sums that are known.
func TestOfKnown(t *testing.T) {
	for _, c := range []struct {
		b    []byte
		want uint32
	}{
		{nil, 0},
		{[]byte{}, 0},
		{[]byte{0}, 0x527d5351},
		{[]byte("a"), 0xc1d04330},
		{[]byte("123456789"), 0xe3069283},
		{make([]byte, 32), 0x8a9136aa},
		{bytes.Repeat([]byte{255}, 32), 0x62a8ab43},
		{ramp(32, 1), 0x46dd794e},
		{[]byte{255, 255, 255, 255}, 0xffffffff},
	} {
		if n := sum.Of(c.b); n != c.want {
			t.Errorf("Of(%x) = %#08x, want %#08x", c.b, n, c.want)
		}
		if n := sum.Update(0, c.b); n != c.want {
			t.Errorf("Update(0, %x) = %#08x, want %#08x", c.b, n, c.want)
		}
	}
}

// P2.1: no parts have the sum of no bytes.
func TestOfNoParts(t *testing.T) {
	for _, parts := range [][][]byte{nil, {}, {nil}, {{}}, {nil, {}, nil}} {
		if n := sum.Of(parts...); n != 0 {
			t.Errorf("Of(%v...) = %#08x", parts, n)
		}
	}
	if n := sum.Of(); n != 0 {
		t.Errorf("Of() = %#08x", n)
	}
}

// P2.1: every byte alone, and every pair of bytes, has the sum that the words tell.
func TestOfAllShort(t *testing.T) {
	for x := range 256 {
		one := []byte{byte(x)}
		if n, want := sum.Of(one), plain(one); n != want {
			t.Errorf("Of(%x) = %#08x, want %#08x", one, n, want)
		}
		for y := range 256 {
			two := []byte{byte(x), byte(y)}
			if n, want := sum.Of(two), plain(two); n != want {
				t.Fatalf("Of(%x) = %#08x, want %#08x", two, n, want)
			}
		}
	}
}

// P2.1: longer ones, against the words and against the library.
func TestOfSamples(t *testing.T) {
	table := crc32.MakeTable(crc32.Castagnoli)
	for _, b := range samples() {
		n := sum.Of(b)
		if want := plain(b); n != want {
			t.Errorf("Of(%d bytes) = %#08x, the words say %#08x", len(b), n, want)
		}
		if want := crc32.Checksum(b, table); n != want {
			t.Errorf("Of(%d bytes) = %#08x, the library says %#08x", len(b), n, want)
		}
	}
}

// P2.1: how bytes are parted doesn't matter, their order does.
func TestOfParts(t *testing.T) {
	for _, b := range samples() {
		if len(b) > 1<<12 {
			continue
		}
		want := plain(b)
		for _, cut := range []int{0, 1, len(b) / 2, len(b) - 1, len(b)} {
			cut = min(max(cut, 0), len(b))
			if n := sum.Of(b[:cut], nil, b[cut:], []byte{}); n != want {
				t.Errorf("%d bytes parted at %d: %#08x, want %#08x", len(b), cut, n, want)
			}
		}
		if n := sum.Of(slices.Collect(slices.Chunk(b, 1))...); n != want {
			t.Errorf("%d parts of one byte: %#08x, want %#08x", len(b), n, want)
		}
		if n := sum.Of(slices.Collect(slices.Chunk(b, 3))...); n != want {
			t.Errorf("%d bytes in parts of three: %#08x, want %#08x", len(b), n, want)
		}
	}
	if sum.Of([]byte("ab"), []byte("c")) == sum.Of([]byte("c"), []byte("ab")) {
		t.Error("parts exchanged have the same sum")
	}
}

// P2.1: a sum is gone on with at every place.
func TestUpdateGoesOn(t *testing.T) {
	b := noise(70, 3)
	for cut := range len(b) + 1 {
		if n, want := sum.Update(plain(b[:cut]), b[cut:]), plain(b); n != want {
			t.Errorf("gone on with at %d: %#08x, want %#08x", cut, n, want)
		}
	}
	var n uint32
	for i, x := range b {
		n = sum.Update(n, []byte{x})
		if want := plain(b[:i+1]); n != want {
			t.Errorf("byte by byte, at %d: %#08x, want %#08x", i, n, want)
		}
	}
}

// P2.1: any number may be handed in as a sum: there are four bytes that have it.
func TestUpdateOfAnySum(t *testing.T) {
	for _, want := range someSums {
		if n := sum.Update(want, nil); n != want {
			t.Errorf("Update(%#08x, nil) = %#08x", want, n)
		}
		if n := sum.Update(want, []byte{}); n != want {
			t.Errorf("Update(%#08x, no bytes) = %#08x", want, n)
		}
		ahead := bytesOf(want)
		if n, want := sum.Update(want, []byte("more")), plain(append(ahead, "more"...)); n != want {
			t.Errorf("Update behind %x = %#08x, want %#08x", ahead, n, want)
		}
	}
}

// bytesOf is four bytes whose sum is n, found by solving for one bit after the other.
func bytesOf(n uint32) []byte {
	n ^= plain(make([]byte, 4))
	var rows [32][2]uint32 // what some bits of the four bytes change, by its highest bit
	for i := range 32 {
		w := uint32(1) << i
		d := plain(littleEndian(w)) ^ plain(make([]byte, 4))
		for bit := 31; bit >= 0; bit-- {
			if d>>bit&1 == 0 {
				continue
			}
			if rows[bit][0] == 0 {
				rows[bit] = [2]uint32{d, w}
				break
			}
			d, w = d^rows[bit][0], w^rows[bit][1]
		}
	}
	var w uint32
	for bit := 31; bit >= 0; bit-- {
		if n>>bit&1 == 1 {
			n, w = n^rows[bit][0], w^rows[bit][1]
		}
	}
	return littleEndian(w)
}

func littleEndian(w uint32) []byte {
	return []byte{byte(w), byte(w >> 8), byte(w >> 16), byte(w >> 24)}
}

// P2.2: behind the four bytes the sum is 0, for sums of 0, of all ones, with each bit alone, and others.
func TestForgeSums(t *testing.T) {
	sums := slices.Clone(someSums)
	for i := range 32 {
		sums = append(sums, 1<<i, ^uint32(1<<i))
	}
	for i := range uint32(1000) {
		sums = append(sums, i*4294967)
	}
	for _, n := range sums {
		f := sum.Forge(n)
		if got := sum.Update(n, f[:]); got != 0 {
			t.Errorf("Forge(%#08x) = %x: the sum is %#08x", n, f, got)
		}
		if got := plain(append(bytesOf(n), f[:]...)); got != 0 {
			t.Errorf("Forge(%#08x) = %x: the words say %#08x", n, f, got)
		}
	}
}

// P2.2: behind any bytes.
func TestForgeBytes(t *testing.T) {
	for _, b := range samples() {
		f := sum.Forge(plain(b))
		if n := plain(slices.Concat(b, f[:])); n != 0 {
			t.Errorf("Forge behind %d bytes = %x: the sum is %#08x", len(b), f, n)
		}
	}
}

// P2.2: four bytes that are known, in their order; no others do.
func TestForgeKnown(t *testing.T) {
	for _, c := range []struct {
		n    uint32
		want [4]byte
	}{
		{0, [4]byte{0xab, 0x9b, 0xe0, 0x9b}},
		{1, [4]byte{0xaa, 0x9b, 0xe0, 0x9b}},
		{0xffffffff, [4]byte{0x54, 0x64, 0x1f, 0x64}},
		{0xe3069283, [4]byte{0x28, 0x09, 0xe6, 0x78}},
	} {
		if f := sum.Forge(c.n); f != c.want {
			t.Errorf("Forge(%#08x) = %x, want %x", c.n, f, c.want)
		}
	}
	f := sum.Forge(0xe3069283)
	for bit := range 32 {
		g := f
		g[bit/8] ^= 1 << (bit % 8)
		if sum.Update(0xe3069283, g[:]) == 0 {
			t.Errorf("Forge with bit %d turned does too", bit)
		}
	}
}

// P2.3: bits turned within one byte, at the first place, at middle ones and at the last, are seen.
func TestTurnedBits(t *testing.T) {
	for _, b := range samples() {
		if len(b) == 0 {
			continue
		}
		want := sum.Of(b)
		for _, place := range []int{0, 1, len(b) / 2, len(b) - 1} {
			place = min(place, len(b)-1)
			checkTurned(t, b, place, want)
		}
	}
	b := noise(40, 9)
	for place := range b {
		checkTurned(t, b, place, sum.Of(b))
	}
}

// checkTurned turns bits of one byte in all ways, or, of many bytes, each bit alone and all of them.
func checkTurned(t *testing.T, b []byte, place int, want uint32) {
	t.Helper()
	turns := []byte{1, 2, 4, 8, 16, 32, 64, 128, 255}
	if len(b) <= 256 {
		turns = ramp(256, 1)[1:]
	}
	seen := map[uint32]byte{want: 0}
	for _, turn := range turns {
		c := slices.Clone(b)
		c[place] ^= turn
		n := sum.Of(c)
		if other, ok := seen[n]; ok {
			t.Errorf("%d bytes, byte %d: turned by %#02x and by %#02x the sum is %#08x", len(b), place, turn, other, n)
		}
		seen[n] = turn
	}
}

// P2.1: inputs that must be told apart: noughts ahead and behind, exchanged bytes, bytes left out.
func TestToldApart(t *testing.T) {
	seen := map[uint32]string{}
	for _, s := range []string{"", "\x00", "\x00\x00", "\x00\x00\x00", "a", "a\x00", "\x00a", "ab", "ba", "abc", "acb", "abcd", "abdc", "\xff", "\xff\xff", "\x00\x00\x00\x00", "\xff\xff\xff\xff\x00", "\x01"} {
		n := sum.Of([]byte(s))
		if other, ok := seen[n]; ok {
			t.Errorf("%q and %q have the sum %#08x", s, other, n)
		}
		seen[n] = s
	}
}

// What is handed in stays as it is, the room behind its end included.
func TestArgumentsStay(t *testing.T) {
	room := noise(64, 5)
	before := slices.Clone(room)
	parts := [][]byte{room[:10], room[10:20:20], room[20:30]}
	told := slices.Clone(parts)
	sum.Of(parts...)
	sum.Update(7, room[:30])
	if !bytes.Equal(room, before) {
		t.Error("the bytes were changed")
	}
	for i := range parts {
		if &parts[i][0] != &told[i][0] || len(parts[i]) != len(told[i]) {
			t.Errorf("part %d was changed", i)
		}
	}
}

// An answer is the same each time, and a changed answer of Forge changes no later one.
func TestAnswersStay(t *testing.T) {
	f := sum.Forge(5)
	g := f
	f[0]++
	if sum.Forge(5) != g {
		t.Error("Forge answers otherwise the second time")
	}
	b := noise(100, 6)
	if sum.Of(b) != sum.Of(b) || sum.Update(9, b) != sum.Update(9, b) {
		t.Error("a sum is another the second time")
	}
}
