package digest_test

import (
	"bytes"
	"crypto/sha256"
	"encoding/binary"
	"encoding/hex"
	"math"
	"math/big"
	"slices"
	"testing"

	"portmanteau/digest"
)

// primes is the first so many primes.
func primes(count int) []int64 {
	var list []int64
	for p := int64(2); len(list) < count; p++ {
		if !slices.ContainsFunc(list, func(q int64) bool { return p%q == 0 }) {
			list = append(list, p)
		}
	}
	return list
}

// behindPoint is the first 32 bits behind the point of a root of p: of the square root by power 2, of the cube root by power 3.
func behindPoint(p, power int64) uint32 {
	whole := new(big.Int).Lsh(big.NewInt(p), uint(32*power))
	root := new(big.Int)
	for bit := 40; bit >= 0; bit-- {
		root.SetBit(root, bit, 1)
		if new(big.Int).Exp(root, big.NewInt(power), nil).Cmp(whole) > 0 {
			root.SetBit(root, bit, 0)
		}
	}
	return uint32(root.Uint64())
}

func firstState() [8]uint32 {
	var s [8]uint32
	for i, p := range primes(8) {
		s[i] = behindPoint(p, 2)
	}
	return s
}

func constants() []uint32 {
	var k []uint32
	for _, p := range primes(64) {
		k = append(k, behindPoint(p, 3))
	}
	return k
}

func turn(x uint32, n int) uint32 {
	return x>>n | x<<(32-n)
}

// plainBlock is the state behind a block as the document's words tell it.
func plainBlock(state [8]uint32, block []byte, k []uint32) [8]uint32 {
	var w []uint32
	for i := range 16 {
		w = append(w, binary.BigEndian.Uint32(block[4*i:]))
	}
	for i := 16; i < 64; i++ {
		s0 := turn(w[i-15], 7) ^ turn(w[i-15], 18) ^ w[i-15]>>3
		s1 := turn(w[i-2], 17) ^ turn(w[i-2], 19) ^ w[i-2]>>10
		w = append(w, w[i-16]+s0+w[i-7]+s1)
	}
	v := state
	for i := range 64 {
		a, b, c, e, f, g, h := v[0], v[1], v[2], v[4], v[5], v[6], v[7]
		t := h + (turn(e, 6) ^ turn(e, 11) ^ turn(e, 25)) + ((e & f) | (^e & g)) + k[i] + w[i]
		u := (turn(a, 2) ^ turn(a, 13) ^ turn(a, 22)) + ((a & b) ^ (a & c) ^ (b & c))
		copy(v[1:], v[:7])
		v[4] += t
		v[0] = t + u
	}
	for i := range v {
		v[i] += state[i]
	}
	return v
}

// plainPad is what stands behind n bytes as the words tell it: noughts are put one by one till the whole is a multiple of 64.
func plainPad(n int) []byte {
	p := []byte{128}
	for (n%64+len(p)+8)%64 != 0 {
		p = append(p, 0)
	}
	bits := new(big.Int).Mul(big.NewInt(int64(n)), big.NewInt(8))
	last := bits.Mod(bits, new(big.Int).Lsh(big.NewInt(1), 64))
	return append(p, last.FillBytes(make([]byte, 8))...)
}

// plain is the digest as the words tell it.
func plain(b []byte) [32]byte {
	k := constants()
	state := firstState()
	for block := range slices.Chunk(slices.Concat(b, plainPad(len(b))), 64) {
		state = plainBlock(state, block, k)
	}
	var d [32]byte
	for i, w := range state {
		binary.BigEndian.PutUint32(d[4*i:], w)
	}
	return d
}

// noise is bytes without a pattern, the same for the same seed.
func noise(size int, seed uint32) []byte {
	b := make([]byte, size)
	for i := range b {
		seed = seed*1664525 + 1013904223
		b[i] = byte(seed >> 24)
	}
	return b
}

// edges are lengths around the ends of blocks.
var edges = []int{0, 1, 2, 31, 32, 33, 54, 55, 56, 57, 62, 63, 64, 65, 118, 119, 120, 121, 127, 128, 129, 183, 184, 191, 192, 193, 1000}

// P3.1: digests that are known.
func TestOfKnown(t *testing.T) {
	for _, c := range []struct {
		b    []byte
		want string
	}{
		{nil, "e3b0c44298fc1c149afbf4c8996fb92427ae41e4649b934ca495991b7852b855"},
		{[]byte{}, "e3b0c44298fc1c149afbf4c8996fb92427ae41e4649b934ca495991b7852b855"},
		{[]byte("a"), "ca978112ca1bbdcafac231b39a23dc4da786eff8147c4e72b9807785afee48bb"},
		{[]byte("abc"), "ba7816bf8f01cfea414140de5dae2223b00361a396177a9cb410ff61f20015ad"},
		{[]byte("abcdbcdecdefdefgefghfghighijhijkijkljklmklmnlmnomnopnopq"), "248d6a61d20638b8e5c026930c3e6039a33ce45964ff2167f6ecedd419db06c1"},
		{[]byte("abcdefghbcdefghicdefghijdefghijkefghijklfghijklmghijklmnhijklmnoijklmnopjklmnopqklmnopqrlmnopqrsmnopqrstnopqrstu"), "cf5b16a778af8380036ce59e7b0492370b249b11e8f07a51afac45037afee9d1"},
		{bytes.Repeat([]byte("a"), 1000000), "cdc76e5c9914fb9281a1c7e284d73e67f1809a48a497200e046d39ccc7112cd0"},
	} {
		d := digest.Of(c.b)
		if h := hex.EncodeToString(d[:]); h != c.want {
			t.Errorf("Of(%d bytes) = %s, want %s", len(c.b), h, c.want)
		}
	}
}

// P3.1: all lengths around the ends of blocks, of noughts, of ones and of noise, against the words and against the library.
func TestOfLengths(t *testing.T) {
	for _, size := range edges {
		for _, b := range [][]byte{make([]byte, size), bytes.Repeat([]byte{255}, size), noise(size, uint32(size))} {
			d := digest.Of(b)
			if want := plain(b); d != want {
				t.Errorf("Of(%d bytes) = %x, the words say %x", size, d, want)
			}
			if want := sha256.Sum256(b); d != want {
				t.Errorf("Of(%d bytes) = %x, the library says %x", size, d, want)
			}
		}
	}
	b := noise(1<<16+7, 4)
	for size := range 260 {
		if d, want := digest.Of(b[:size]), sha256.Sum256(b[:size]); d != want {
			t.Errorf("Of(%d bytes) = %x, the library says %x", size, d, want)
		}
	}
	if d, want := digest.Of(b), sha256.Sum256(b); d != want {
		t.Errorf("Of(%d bytes) = %x, the library says %x", len(b), d, want)
	}
}

// P3.1: no parts, and parts of nothing, have the digest of no bytes.
func TestOfNoParts(t *testing.T) {
	want := plain(nil)
	if d := digest.Of(); d != want {
		t.Errorf("Of() = %x, want %x", d, want)
	}
	for _, parts := range [][][]byte{nil, {}, {nil}, {{}}, {nil, {}, nil, {}}} {
		if d := digest.Of(parts...); d != want {
			t.Errorf("Of(%v...) = %x, want %x", parts, d, want)
		}
	}
}

// P3.1: how bytes are parted doesn't matter.
func TestOfParts(t *testing.T) {
	for _, size := range edges {
		b := noise(size, 11)
		want := plain(b)
		for cut := range size + 1 {
			if d := digest.Of(b[:cut], b[cut:]); d != want {
				t.Errorf("%d bytes parted at %d: %x, want %x", size, cut, d, want)
			}
		}
		for _, width := range []int{1, 3, 55, 63, 64, 65, 128} {
			parts := [][]byte{nil}
			for part := range slices.Chunk(b, width) {
				parts = append(parts, part, []byte{}, nil)
			}
			if d := digest.Of(parts...); d != want {
				t.Errorf("%d bytes in parts of %d: %x, want %x", size, width, d, want)
			}
		}
	}
}

// P3.1: inputs that must be told apart: order, noughts and marks ahead and behind, a message with its own padding, each bit turned.
func TestOfToldApart(t *testing.T) {
	abc := []byte("abc")
	list := [][]byte{nil, {0}, {0, 0}, {128}, {128, 0}, abc, []byte("acb"), []byte("\x00abc"), []byte("abc\x00"), []byte("abc\x80"), []byte("ab"), slices.Concat(abc, digest.Pad(3)), digest.Pad(0)}
	for _, size := range []int{55, 56, 63, 64, 65, 119, 120} {
		list = append(list, make([]byte, size), bytes.Repeat([]byte{255}, size))
	}
	for _, size := range []int{55, 64, 65, 120} {
		b := noise(size, 3)
		list = append(list, b)
		for bit := range 8 * size {
			c := slices.Clone(b)
			c[bit/8] ^= 1 << (bit % 8)
			list = append(list, c)
		}
	}
	seen := map[[32]byte][]byte{}
	for _, b := range list {
		d := digest.Of(b)
		if other, ok := seen[d]; ok {
			t.Errorf("%x and %x have the same digest", b, other)
		}
		seen[d] = b
	}
	if digest.Of([]byte("ab"), []byte("c")) == digest.Of([]byte("c"), []byte("ab")) {
		t.Error("parts exchanged have the same digest")
	}
}

// P3.1: the first state.
func TestStart(t *testing.T) {
	want := firstState()
	if want[0] != 0x6a09e667 || want[7] != 0x5be0cd19 {
		t.Fatalf("the test's own roots: %08x", want)
	}
	s := digest.Start()
	if s != want {
		t.Errorf("Start() = %08x, want %08x", s, want)
	}
	s[0], s[7] = 0, 0
	if again := digest.Start(); again != want {
		t.Errorf("Start() the second time = %08x, want %08x", again, want)
	}
}

func ones() [8]uint32 {
	return [8]uint32{math.MaxUint32, math.MaxUint32, math.MaxUint32, math.MaxUint32, math.MaxUint32, math.MaxUint32, math.MaxUint32, math.MaxUint32}
}

// someStates are the first one, noughts, ones, each word alone, and noise.
func someStates() []([8]uint32) {
	list := []([8]uint32){firstState(), {}, ones(), {1, 2, 3, 4, 5, 6, 7, 8}}
	for i := range 8 {
		one, none := [8]uint32{}, ones()
		one[i], none[i] = math.MaxUint32, 0
		list = append(list, one, none)
	}
	for seed := range uint32(20) {
		var s [8]uint32
		b := noise(32, seed)
		for i := range s {
			s[i] = binary.LittleEndian.Uint32(b[4*i:])
		}
		list = append(list, s)
	}
	return list
}

func someBlocks() [][64]byte {
	list := [][64]byte{{}, [64]byte(bytes.Repeat([]byte{255}, 64)), {0: 128}, {63: 1}, [64]byte(slices.Concat([]byte("abc"), plainPad(3)))}
	for seed := range uint32(20) {
		list = append(list, [64]byte(noise(64, 100+seed)))
	}
	return list
}

// P3.1: a block of any bytes, behind any state.
func TestBlock(t *testing.T) {
	k := constants()
	seen := map[[8]uint32]int{}
	count := 0
	for _, s := range someStates() {
		for _, b := range someBlocks() {
			want := plainBlock(s, b[:], k)
			got := digest.Block(s, b)
			if got != want {
				t.Fatalf("Block(%08x, %x) = %08x, want %08x", s, b, got, want)
			}
			seen[got]++
			count++
		}
	}
	if len(seen) != count {
		t.Errorf("%d states and blocks have only %d states behind them", count, len(seen))
	}
}

// P3.1: states that are known: behind the one block of "abc" its digest, behind a block of noughts at the first state.
func TestBlockKnown(t *testing.T) {
	b := [64]byte{'a', 'b', 'c', 128, 63: 24}
	want := [8]uint32{0xba7816bf, 0x8f01cfea, 0x414140de, 0x5dae2223, 0xb00361a3, 0x96177a9c, 0xb410ff61, 0xf20015ad}
	if got := digest.Block(digest.Start(), b); got != want {
		t.Errorf("behind abc: %08x, want %08x", got, want)
	}
	want = [8]uint32{0xda5698be, 0x17b9b469, 0x62335799, 0x779fbeca, 0x8ce5d491, 0xc0d26243, 0xbafef9ea, 0x1837a9d8}
	if got := digest.Block(digest.Start(), [64]byte{}); got != want {
		t.Errorf("behind noughts: %08x, want %08x", got, want)
	}
}

// P3.1: each byte of a block, and each word of a state, is heeded.
func TestBlockHeedsAll(t *testing.T) {
	s, b := digest.Start(), [64]byte(noise(64, 8))
	seen := map[[8]uint32]int{digest.Block(s, b): -1}
	for bit := range 512 {
		c := b
		c[bit/8] ^= 1 << (bit % 8)
		seen[digest.Block(s, c)] = bit
	}
	for bit := range 256 {
		c := s
		c[bit/32] ^= 1 << (bit % 32)
		seen[digest.Block(c, b)] = bit
	}
	if len(seen) != 1+512+256 {
		t.Errorf("of 769 states and blocks only %d are told apart", len(seen))
	}
}

// P3.1: below 0 nothing stands behind.
func TestPadBelow(t *testing.T) {
	for _, n := range []int{-1, -2, -8, -9, -55, -56, -63, -64, -65, -1 << 31, math.MinInt + 1, math.MinInt} {
		if p := digest.Pad(n); len(p) != 0 {
			t.Errorf("Pad(%d) = %x", n, p)
		}
	}
}

// P3.1: what stands behind 0 bytes, behind numbers around the ends of blocks, and behind great ones.
func TestPad(t *testing.T) {
	list := []int{1 << 10, 1<<20 - 1, 1 << 22, 1<<28 + 5, 1<<29 - 1, 1 << 29, 1<<31 - 1, 1 << 31, 1 << 32, 1<<40 - 1, 1<<53 + 56, 1<<60 + 1, 1<<61 - 1, 1 << 61, 1<<61 + 1, 1 << 62, math.MaxInt - 64, math.MaxInt - 9, math.MaxInt - 8, math.MaxInt - 7, math.MaxInt - 1, math.MaxInt}
	for n := range 300 {
		list = append(list, n)
	}
	for _, n := range list {
		p := digest.Pad(n)
		if want := plainPad(n); !bytes.Equal(p, want) {
			t.Errorf("Pad(%d) = %x, want %x", n, p, want)
		}
		if len(p) < 9 || len(p) > 72 || (n%64+len(p))%64 != 0 {
			t.Errorf("Pad(%d) has %d bytes", n, len(p))
		}
	}
}

// P3.1: what stands behind some numbers, written out.
func TestPadKnown(t *testing.T) {
	behind := func(noughts int, end ...byte) []byte {
		return slices.Concat([]byte{128}, make([]byte, noughts), end)
	}
	for n, want := range map[int][]byte{
		0:           behind(55, 0, 0, 0, 0, 0, 0, 0, 0),
		1:           behind(54, 0, 0, 0, 0, 0, 0, 0, 8),
		54:          behind(1, 0, 0, 0, 0, 0, 0, 1, 0xb0),
		55:          behind(0, 0, 0, 0, 0, 0, 0, 1, 0xb8),
		56:          behind(63, 0, 0, 0, 0, 0, 0, 1, 0xc0),
		63:          behind(56, 0, 0, 0, 0, 0, 0, 1, 0xf8),
		64:          behind(55, 0, 0, 0, 0, 0, 0, 2, 0),
		65:          behind(54, 0, 0, 0, 0, 0, 0, 2, 8),
		119:         behind(0, 0, 0, 0, 0, 0, 0, 3, 0xb8),
		120:         behind(63, 0, 0, 0, 0, 0, 0, 3, 0xc0),
		1<<31 - 1:   behind(56, 0, 0, 0, 3, 255, 255, 255, 0xf8),
		1<<61 - 1:   behind(56, 255, 255, 255, 255, 255, 255, 255, 0xf8),
		1<<40 + 256: behind(55, 0, 0, 8, 0, 0, 0, 8, 0),
	} {
		if p := digest.Pad(n); !bytes.Equal(p, want) {
			t.Errorf("Pad(%d) = %x, want %x", n, p, want)
		}
	}
}

// P3.1: the calls fit together: blocks of a message and its padding lead from the first state to its digest.
func TestByHand(t *testing.T) {
	for _, size := range edges {
		b := noise(size, 21)
		state := digest.Start()
		for block := range slices.Chunk(slices.Concat(b, digest.Pad(size)), 64) {
			state = digest.Block(state, [64]byte(block))
		}
		d := digest.Of(b)
		for i, w := range state {
			if binary.BigEndian.Uint32(d[4*i:]) != w {
				t.Errorf("%d bytes: word %d is %08x by hand, Of tells %x", size, i, w, d)
			}
		}
	}
}

// What is handed in stays as it is, the room behind its end included.
func TestArgumentsStay(t *testing.T) {
	room := noise(300, 5)
	before := slices.Clone(room)
	parts := [][]byte{room[:10], room[10:80:80], room[80:200]}
	told := slices.Clone(parts)
	digest.Of(parts...)
	if !bytes.Equal(room, before) {
		t.Error("the bytes were changed")
	}
	for i := range parts {
		if &parts[i][0] != &told[i][0] || len(parts[i]) != len(told[i]) {
			t.Errorf("part %d was changed", i)
		}
	}
	state, block := ones(), [64]byte(room)
	digest.Block(state, block)
	if state != ones() || block != [64]byte(before) {
		t.Error("a state or a block was changed")
	}
}

// Answers are new memory, and the same each time.
func TestAnswersStay(t *testing.T) {
	for _, n := range []int{0, 3, 55, 56, 64} {
		want := plainPad(n)
		p := digest.Pad(n)
		q := digest.Pad(n)
		for i := range p[:cap(p)] {
			p[:cap(p)][i] = 77
		}
		if !bytes.Equal(q, want) || !bytes.Equal(digest.Pad(n), want) {
			t.Errorf("Pad(%d) is another behind a change of its answer", n)
		}
	}
	b := noise(100, 6)
	d := digest.Of(b)
	again := d
	d[0]++
	if digest.Of(b) != again {
		t.Error("a digest is another the second time")
	}
	if digest.Block(ones(), [64]byte{}) != digest.Block(ones(), [64]byte{}) {
		t.Error("a state is another the second time")
	}
}
