package stream_test

import (
	"bytes"
	"encoding/hex"
	"math"
	"slices"
	"strings"
	"testing"

	"portmanteau/stream"
)

const lastNumber = math.MaxUint32

// above is the first number that is no word: sums leave out what is above.
const above = uint64(1) << 32

// plainTurn shifts a word up bit by bit, what falls out coming in at the bottom.
func plainTurn(w uint64, n int) uint64 {
	for range n {
		w *= 2
		if w >= above {
			w = w - above + 1
		}
	}
	return w
}

// plainQuarter makes a quarter of the words at four places, as the document's words tell it.
func plainQuarter(w []uint64, a, b, c, d int) {
	step := func(more, by, turned, n int) {
		w[more] = (w[more] + w[by]) % above
		w[turned] = plainTurn(w[turned]^w[more], n)
	}
	step(a, b, d, 16)
	step(c, d, b, 12)
	step(a, b, d, 8)
	step(c, d, b, 7)
}

// plainWords are the words of bytes, the lowest byte first.
func plainWords(b []byte) []uint64 {
	var list []uint64
	for four := range slices.Chunk(b, 4) {
		var w uint64
		for _, x := range slices.Backward(four) {
			w = w*256 + uint64(x)
		}
		list = append(list, w)
	}
	return list
}

// plainBlock is a block as the words tell it.
func plainBlock(key [32]byte, n uint32, nonce [12]byte) []byte {
	first := slices.Concat([]uint64{0x61707865, 0x3320646e, 0x79622d32, 0x6b206574}, plainWords(key[:]), []uint64{uint64(n)}, plainWords(nonce[:]))
	w := slices.Clone(first)
	for range 10 {
		for _, q := range [][4]int{{0, 4, 8, 12}, {1, 5, 9, 13}, {2, 6, 10, 14}, {3, 7, 11, 15}, {0, 5, 10, 15}, {1, 6, 11, 12}, {2, 7, 8, 13}, {3, 4, 9, 14}} {
			plainQuarter(w, q[0], q[1], q[2], q[3])
		}
	}
	var b []byte
	for i := range w {
		x := (w[i] + first[i]) % above
		for range 4 {
			b = append(b, byte(x%256))
			x /= 256
		}
	}
	return b
}

// plainXor is bytes xored as the words tell it, one by one.
func plainXor(key [32]byte, n uint32, nonce [12]byte, b []byte) []byte {
	var out, block []byte
	for i, x := range b {
		if i%64 == 0 {
			block = plainBlock(key, uint32((uint64(n)+uint64(i/64))%above), nonce)
		}
		out = append(out, x^block[i%64])
	}
	return out
}

// noise is bytes without a pattern, the same for the same seed.
func noise(size int, seed uint32) []byte {
	b := make([]byte, size)
	for i := range b {
		seed = seed*1664525 + 1013904223
		b[i] = byte(seed >> 24)
	}
	return b
}

// countedKey and countedNonce are the bytes 0, 1, 2 and so on.
func countedKey() (key [32]byte) {
	for i := range key {
		key[i] = byte(i)
	}
	return
}

func countedNonce() (nonce [12]byte) {
	for i := range nonce {
		nonce[i] = byte(i)
	}
	return
}

func someKeys() [][32]byte {
	list := [][32]byte{{}, [32]byte(bytes.Repeat([]byte{255}, 32)), countedKey(), {0: 1}, {31: 128}}
	for seed := range uint32(5) {
		list = append(list, [32]byte(noise(32, seed)))
	}
	return list
}

func someNonces() [][12]byte {
	list := [][12]byte{{}, [12]byte(bytes.Repeat([]byte{255}, 12)), countedNonce(), {0: 1}, {11: 128}}
	for seed := range uint32(5) {
		list = append(list, [12]byte(noise(12, 100+seed)))
	}
	return list
}

// someNumbers are the first and the last ones, and some around the ends of bytes.
var someNumbers = []uint32{0, 1, 2, 0x7f, 0x80, 0xff, 0x100, 0xffff, 0x10000, 0xffffff, 0x1000000, 0x12345678, math.MaxInt32, math.MaxInt32 + 1, lastNumber - 2, lastNumber - 1, lastNumber}

// sizes are lengths of nothing, around the ends of blocks, and many more.
var sizes = []int{0, 1, 2, 3, 31, 32, 33, 62, 63, 64, 65, 66, 127, 128, 129, 191, 192, 193, 255, 256, 257, 1000, 4095, 4096, 4097, 1<<16 + 5}

func unhex(t *testing.T, text string) []byte {
	t.Helper()
	b, err := hex.DecodeString(text)
	if err != nil {
		t.Fatal(err)
	}
	return b
}

func quarter(w [4]uint32) [4]uint32 {
	a, b, c, d := stream.Quarter(w[0], w[1], w[2], w[3])
	return [4]uint32{a, b, c, d}
}

func wantQuarter(t *testing.T, w [4]uint32) {
	t.Helper()
	p := []uint64{uint64(w[0]), uint64(w[1]), uint64(w[2]), uint64(w[3])}
	plainQuarter(p, 0, 1, 2, 3)
	want := [4]uint32{uint32(p[0]), uint32(p[1]), uint32(p[2]), uint32(p[3])}
	if got := quarter(w); got != want {
		t.Errorf("Quarter(%08x) = %08x, want %08x", w, got, want)
	}
}

// P5.1: quarters that are known.
func TestQuarterKnown(t *testing.T) {
	for _, c := range []struct{ w, want [4]uint32 }{
		{[4]uint32{}, [4]uint32{}},
		{[4]uint32{0x11111111, 0x01020304, 0x9b8d6f43, 0x01234567}, [4]uint32{0xea2a92f4, 0xcb1cf8ce, 0x4581472e, 0x5881c4bb}},
		{[4]uint32{0x516461b1, 0x2a5f714c, 0x53372767, 0x3d631689}, [4]uint32{0xbdb886dc, 0xcfacafd2, 0xe46bea80, 0xccc07c79}},
		{[4]uint32{1, 0, 0, 0}, [4]uint32{0x10000001, 0x80808808, 0x01010110, 0x01000110}},
	} {
		if got := quarter(c.w); got != c.want {
			t.Errorf("Quarter(%08x) = %08x, want %08x", c.w, got, c.want)
		}
	}
}

// P5.1: words of 0, of all ones, of single bits and of noise, at all four places.
func TestQuarterWords(t *testing.T) {
	words := []uint32{0, 1, 0x7fffffff, 0x80000000, 0x80000001, 0xaaaaaaaa, lastNumber - 1, lastNumber}
	for _, a := range words {
		for _, b := range words {
			for _, c := range words {
				for _, d := range words {
					wantQuarter(t, [4]uint32{a, b, c, d})
				}
			}
		}
	}
	for bit := range 128 {
		var one [4]uint32
		one[bit/32] = 1 << (bit % 32)
		wantQuarter(t, one)
	}
	for seed := range uint32(200) {
		var w [4]uint32
		for i, x := range plainWords(noise(16, seed)) {
			w[i] = uint32(x)
		}
		wantQuarter(t, w)
	}
}

// P5.1: words that must be told apart: each bit of each of them, and words exchanged.
func TestQuarterToldApart(t *testing.T) {
	list := [][4]uint32{{}, {lastNumber, lastNumber, lastNumber, lastNumber}, {1, 2, 3, 4}, {2, 1, 3, 4}, {1, 3, 2, 4}, {1, 2, 4, 3}, {4, 3, 2, 1}, {2, 3, 4, 1}}
	for _, w := range [][4]uint32{{}, {0x11111111, 0x01020304, 0x9b8d6f43, 0x01234567}, {lastNumber, lastNumber, lastNumber, lastNumber}} {
		for bit := range 128 {
			other := w
			other[bit/32] ^= 1 << (bit % 32)
			list = append(list, other)
		}
	}
	seen := map[[4]uint32][4]uint32{}
	for _, w := range list {
		q := quarter(w)
		if other, ok := seen[q]; ok && other != w {
			t.Errorf("%08x and %08x have the same quarter", w, other)
		}
		seen[q] = w
	}
}

// P5.1: blocks that are known.
func TestBlockKnown(t *testing.T) {
	ones := [32]byte(bytes.Repeat([]byte{255}, 32))
	oneNonce := [12]byte(bytes.Repeat([]byte{255}, 12))
	for _, c := range []struct {
		key   [32]byte
		n     uint32
		nonce [12]byte
		want  string
	}{
		{[32]byte{}, 0, [12]byte{}, "76b8e0ada0f13d90405d6ae55386bd28bdd219b8a08ded1aa836efcc8b770dc7da41597c5157488d7724e03fb8d84a376a43b8f41518a11cc387b669b2ee6586"},
		{[32]byte{}, 1, [12]byte{}, "9f07e7be5551387a98ba977c732d080dcb0f29a048e3656912c6533e32ee7aed29b721769ce64e43d57133b074d839d531ed1f28510afb45ace10a1f4b794d6f"},
		{[32]byte{31: 1}, 1, [12]byte{}, "3aeb5224ecf849929b9d828db1ced4dd832025e8018b8160b82284f3c949aa5a8eca00bbb4a73bdad192b5c42f73f2fd4e273644c8b36125a64addeb006c13a0"},
		{[32]byte{1: 255}, 2, [12]byte{}, "72d54dfbf12ec44b362692df94137f328fea8da73990265ec1bbbea1ae9af0ca13b25aa26cb4a648cb9b9d1be65b2c0924a66c54d545ec1b7374f4872e99f096"},
		{[32]byte{}, 0, [12]byte{11: 2}, "c2c64d378cd536374ae204b9ef933fcd1a8b2288b3dfa49672ab765b54ee27c78a970e0e955c14f3a88e741b97c286f75f8fc299e8148362fa198a39531bed6d"},
		{countedKey(), 1, [12]byte{3: 9, 7: 0x4a}, "10f1e7e4d13b5915500fdd1fa32071c4c7d1f4c733c068030422aa9ac3d46c4ed2826446079faa0914c2d705d98b02a2b5129cd1de164eb9cbd083e8a2503c4e"},
		{[32]byte{}, lastNumber - 1, [12]byte{}, "032cc123482c31711f94c941af5ab1f4155784332ed5348fe79aec5ead4c06c3f13c280d8cc49925e4a6a5922ec80e13a4cdfa840c70a1427a3cb699166991a5"},
		{[32]byte{}, lastNumber, [12]byte{}, "ace4cd09e294d1912d4ad205d06f95d9c2f2bfcf453e8753f128765b62215f4d92c74f2f626c6a640c0b1284d839ec81f1696281dafc3e684593937023b58b1d"},
		{ones, lastNumber, oneNonce, "d72b21cfa4b6b0c41d61f62b8a11159c6a4f63bc56c2035796c7ad37811121bbec56d54a530f3a933dd28a50feb23bfaf64f405be985f3718bdf4683e96be749"},
		{ones, 0, oneNonce, "d6e63495eafed7fc3bf8e7c419fa77be8234a6a49df517ebab06c8f65d9f7a17d3a64d4b97c911e6995b65c79336220cb63b703e25d3d45f5fee90a37bbe0535"},
	} {
		b := stream.Block(c.key, c.n, c.nonce)
		if h := hex.EncodeToString(b[:]); h != c.want {
			t.Errorf("Block(%x, %d, %x) = %s, want %s", c.key, c.n, c.nonce, h, c.want)
		}
	}
}

// P5.1: blocks of keys, numbers and nonces at the edges and of noise, against the words; all of them are told apart.
func TestBlock(t *testing.T) {
	seen := map[[64]byte]int{}
	count := 0
	for _, key := range someKeys() {
		for _, n := range someNumbers {
			for _, nonce := range someNonces() {
				b := stream.Block(key, n, nonce)
				if want := plainBlock(key, n, nonce); !bytes.Equal(b[:], want) {
					t.Fatalf("Block(%x, %d, %x) = %x, want %x", key, n, nonce, b, want)
				}
				seen[b]++
				count++
			}
		}
	}
	if len(seen) != count {
		t.Errorf("%d keys, numbers and nonces have only %d blocks", count, len(seen))
	}
}

// P5.1: each bit of a key, of a number and of a nonce is heeded.
func TestBlockHeedsAll(t *testing.T) {
	key, n, nonce := [32]byte(noise(32, 8)), uint32(0x89abcdef), [12]byte(noise(12, 9))
	seen := map[[64]byte]int{stream.Block(key, n, nonce): -1}
	for bit := range 256 {
		other := key
		other[bit/8] ^= 1 << (bit % 8)
		seen[stream.Block(other, n, nonce)] = bit
	}
	for bit := range 32 {
		seen[stream.Block(key, n^1<<bit, nonce)] = bit
	}
	for bit := range 96 {
		other := nonce
		other[bit/8] ^= 1 << (bit % 8)
		seen[stream.Block(key, n, other)] = bit
	}
	if len(seen) != 1+256+32+96 {
		t.Errorf("of 385 keys, numbers and nonces only %d are told apart", len(seen))
	}
}

// firstBlocks are so many blocks as Blocks tells them.
func firstBlocks(count int, blocks func(yield func(b [64]byte) bool)) [][]byte {
	var list [][]byte
	for b := range blocks {
		list = append(list, b[:])
		if len(list) == count {
			break
		}
	}
	return list
}

// P5.1: the blocks of n, n and 1, and so on; behind the last number that of 0.
func TestBlocks(t *testing.T) {
	for _, key := range someKeys() {
		for _, nonce := range someNonces()[:6] {
			for _, n := range someNumbers {
				for i, b := range firstBlocks(5, stream.Blocks(key, n, nonce)) {
					at := uint32((uint64(n) + uint64(i)) % above)
					if want := stream.Block(key, at, nonce); !bytes.Equal(b, want[:]) {
						t.Fatalf("Blocks(%x, %d, %x): block %d is not that of %d", key, n, nonce, i, at)
					}
				}
			}
		}
	}
}

// P5.1: blocks that are known, from the last number but one on: the nonce is the same behind the last number.
func TestBlocksKnown(t *testing.T) {
	got := firstBlocks(3, stream.Blocks(countedKey(), lastNumber-1, countedNonce()))
	for i, want := range []string{
		"76e88a6c6c8e86c73ebdbd2b836b6d2a17bd519b5d01fb5dc41f7d297dcf6ea1af66f7eab93347c94597eb68d6686b62a9b0dcd58a2a16ba7cde41b6d4a0c819",
		"14eed149cd60a456f359e704f9d4b07f940a2f5c6c971747df044f3475b769595bdb46b77c657b6c9369512a23d0d16e8cd2b886d11b4d66c9b328b3725463e2",
		"103af111c18b549d39248fb07d60c29a95d1db88d892f7b4af709a5fd47a9e4bd5ff9a658dd52c708bef1f0f622b3747040fa3551300b1f293150a88620d5fed",
	} {
		if h := hex.EncodeToString(got[i]); h != want {
			t.Errorf("block %d = %s, want %s", i, h, want)
		}
	}
}

// P5.1: it goes on as long as it is told true: told false, at the first block or at a later one, it asks no more.
func TestBlocksToldFalse(t *testing.T) {
	for _, n := range []uint32{0, 7, lastNumber - 1, lastNumber} {
		for _, last := range []int{1, 2, 3, 4, 64, 1000} {
			count := 0
			stream.Blocks(countedKey(), n, countedNonce())(func(b [64]byte) bool {
				if count++; count > last {
					t.Fatalf("from %d on, told false at block %d: there is one more", n, last)
				}
				return count < last
			})
			if count != last {
				t.Errorf("from %d on, told false at block %d: %d blocks", n, last, count)
			}
		}
	}
}

// P5.1: what Blocks tells can be gone through again, and within itself, each time from n on.
func TestBlocksAgain(t *testing.T) {
	blocks := stream.Blocks(countedKey(), lastNumber, countedNonce())
	want := firstBlocks(4, stream.Blocks(countedKey(), lastNumber, countedNonce()))
	for _, count := range []int{1, 4, 2, 4} {
		if got := firstBlocks(count, blocks); !slices.EqualFunc(got, want[:count], bytes.Equal) {
			t.Errorf("gone through again for %d blocks: others", count)
		}
	}
	i := 0
	for b := range blocks {
		if !bytes.Equal(b[:], want[i]) {
			t.Errorf("block %d is another, as the blocks are gone through within", i)
		}
		if inner := firstBlocks(4, blocks); !slices.EqualFunc(inner, want, bytes.Equal) {
			t.Errorf("gone through within block %d: others", i)
		}
		if i++; i == len(want) {
			break
		}
	}
}

// P5.1: blocks hang on the key and the nonce as they were handed in, and not on what becomes of a block.
func TestBlocksStay(t *testing.T) {
	key, nonce := countedKey(), countedNonce()
	blocks := stream.Blocks(key, 5, nonce)
	key[0], nonce[11] = 77, 77
	var at uint32 = 5
	for b := range blocks {
		if b != stream.Block(countedKey(), at, countedNonce()) {
			t.Errorf("the block of %d is another", at)
		}
		clear(b[:])
		if at++; at == 9 {
			break
		}
	}
}

// Nobody tells true: no block, no panic, and an end.
func TestBlocksOfNobody(t *testing.T) {
	stream.Blocks(countedKey(), 0, countedNonce())(nil)
}

// P5.1: bytes xored that are known.
func TestXorKnown(t *testing.T) {
	ladies := "Ladies and Gentlemen of the class of '99: If I could offer you only one tip for the future, sunscreen would be it."
	brillig := "'Twas brillig, and the slithy toves\nDid gyre and gimble in the wabe:\nAll mimsy were the borogoves,\nAnd the mome raths outgrabe."
	brilligKey := [32]byte(unhex(t, "1c9240a5eb55d38af333888604f6b5f0473917c1402b80099dca5cbc207075c0"))
	for _, c := range []struct {
		key   [32]byte
		n     uint32
		nonce [12]byte
		b     string
		want  string
	}{
		{countedKey(), 1, [12]byte{7: 0x4a}, ladies, "6e2e359a2568f98041ba0728dd0d6981e97e7aec1d4360c20a27afccfd9fae0bf91b65c5524733ab8f593dabcd62b3571639d624e65152ab8f530c359f0861d807ca0dbf500d6a6156a38e088a22b65e52bc514d16ccf806818ce91ab77937365af90bbf74a35be6b40b8eedf2785e42874d"},
		{brilligKey, 42, [12]byte{11: 2}, brillig, "62e6347f95ed87a45ffae7426f27a1df5fb69110044c0d73118effa95b01e5cf166d3df2d721caf9b21e5fb14c616871fd84c54f9d65b283196c7fe4f60553ebf39c6402c42234e32a356b3e764312a61a5532055716ead6962568f87d3f3f7704c6a8d1bcd1bf4d50d6154b6da731b187b58dfd728afa36757a797ac188d1"},
		{[32]byte{}, 0, [12]byte{}, strings.Repeat("\x00", 64), "76b8e0ada0f13d90405d6ae55386bd28bdd219b8a08ded1aa836efcc8b770dc7da41597c5157488d7724e03fb8d84a376a43b8f41518a11cc387b669b2ee6586"},
	} {
		if h := hex.EncodeToString(stream.Xor(c.key, c.n, c.nonce, []byte(c.b))); h != c.want {
			t.Errorf("Xor(%x, %d, %x, %q) = %s, want %s", c.key, c.n, c.nonce, c.b, h, c.want)
		}
	}
}

// P5.1: bytes of all lengths, from numbers at the edges on, against the words.
func TestXorLengths(t *testing.T) {
	key, nonce := [32]byte(noise(32, 20)), [12]byte(noise(12, 21))
	for _, n := range []uint32{0, 1, 1000, lastNumber - 2, lastNumber - 1, lastNumber} {
		for _, size := range sizes {
			for _, b := range [][]byte{make([]byte, size), bytes.Repeat([]byte{255}, size), noise(size, 22)} {
				if got, want := stream.Xor(key, n, nonce, b), plainXor(key, n, nonce, b); !bytes.Equal(got, want) {
					t.Errorf("Xor of %d bytes from %d on is not as the words say", size, n)
				}
			}
		}
	}
	b := noise(300, 23)
	for size := range len(b) + 1 {
		if got, want := stream.Xor(key, lastNumber, nonce, b[:size]), plainXor(key, lastNumber, nonce, b[:size]); !bytes.Equal(got, want) {
			t.Errorf("Xor of %d bytes = %x, want %x", size, got, want)
		}
	}
}

// P5.1: keys and nonces of all sorts.
func TestXorKeys(t *testing.T) {
	b := noise(150, 24)
	for _, key := range someKeys() {
		for _, nonce := range someNonces() {
			for _, n := range []uint32{0, lastNumber - 1, lastNumber} {
				if got, want := stream.Xor(key, n, nonce, b), plainXor(key, n, nonce, b); !bytes.Equal(got, want) {
					t.Fatalf("Xor(%x, %d, %x) = %x, want %x", key, n, nonce, got, want)
				}
			}
		}
	}
}

// P5.1: of nothing there is nothing, nil or empty.
func TestXorOfNothing(t *testing.T) {
	for _, n := range someNumbers {
		for _, b := range [][]byte{nil, {}, noise(9, 1)[:0], noise(9, 1)[9:]} {
			if got := stream.Xor(countedKey(), n, countedNonce(), b); len(got) != 0 {
				t.Errorf("Xor of nothing from %d on = %x", n, got)
			}
		}
	}
}

// P5.1: keys, numbers, nonces and bytes that must be told apart, by each of their bits.
func TestXorToldApart(t *testing.T) {
	key, n, nonce, b := countedKey(), uint32(lastNumber), countedNonce(), noise(130, 25)
	seen := map[string]int{string(stream.Xor(key, n, nonce, b)): 1}
	for bit := range 256 {
		other := key
		other[bit/8] ^= 1 << (bit % 8)
		seen[string(stream.Xor(other, n, nonce, b))]++
	}
	for bit := range 32 {
		seen[string(stream.Xor(key, n^1<<bit, nonce, b))]++
	}
	for bit := range 96 {
		other := nonce
		other[bit/8] ^= 1 << (bit % 8)
		seen[string(stream.Xor(key, n, other, b))]++
	}
	for bit := range 8 * len(b) {
		other := slices.Clone(b)
		other[bit/8] ^= 1 << (bit % 8)
		seen[string(stream.Xor(key, n, nonce, other))]++
	}
	if want := 1 + 256 + 32 + 96 + 8*len(b); len(seen) != want {
		t.Errorf("of %d inputs only %d are told apart", want, len(seen))
	}
}

// P5.2: Xor of what Xor told is what it was.
func TestXorTwice(t *testing.T) {
	for _, key := range someKeys() {
		for _, n := range []uint32{0, 1, lastNumber - 1, lastNumber} {
			for _, size := range sizes {
				b := noise(size, 26)
				once := stream.Xor(key, n, countedNonce(), b)
				if size >= 32 && bytes.Equal(once, b) {
					t.Errorf("Xor of %d bytes from %d on changes none", size, n)
				}
				if twice := stream.Xor(key, n, countedNonce(), once); !bytes.Equal(twice, b) {
					t.Errorf("%d bytes, xored twice from %d on, are others", size, n)
				}
			}
		}
	}
}

// P5.2: parts at multiples of 64 bytes can be told apart: each from its own number on.
func TestXorParts(t *testing.T) {
	key, nonce := countedKey(), countedNonce()
	for _, n := range []uint32{0, 9, lastNumber - 2, lastNumber - 1, lastNumber} {
		for _, size := range sizes[:len(sizes)-1] {
			b := noise(size, 27)
			whole := stream.Xor(key, n, nonce, b)
			for cut := 0; cut <= size; cut += 64 {
				got := slices.Concat(stream.Xor(key, n, nonce, b[:cut]), stream.Xor(key, n+uint32(cut/64), nonce, b[cut:]))
				if !bytes.Equal(got, whole) {
					t.Errorf("%d bytes from %d on, parted at %d, are others than as a whole", size, n, cut)
				}
			}
			for _, width := range []int{64, 128, 192, 640} {
				var got []byte
				at := n
				for part := range slices.Chunk(b, width) {
					got = append(got, stream.Xor(key, at, nonce, part)...)
					at += uint32(width / 64)
				}
				if !bytes.Equal(got, whole) {
					t.Errorf("%d bytes from %d on in parts of %d are others than as a whole", size, n, width)
				}
			}
		}
	}
}

// What is handed in stays as it was, the room behind its end included.
func TestArgumentsStay(t *testing.T) {
	key, nonce := countedKey(), countedNonce()
	stream.Block(key, 1, nonce)
	firstBlocks(3, stream.Blocks(key, 1, nonce))
	for _, size := range []int{0, 1, 63, 64, 65, 128, 200} {
		room := noise(300, 28)
		before := slices.Clone(room)
		stream.Xor(key, 1, nonce, room[:size])
		stream.Xor(key, 1, nonce, room[50:50+size:50+size])
		if !bytes.Equal(room, before) {
			t.Errorf("of %d bytes some were changed", size)
		}
	}
	if key != countedKey() || nonce != countedNonce() {
		t.Error("a key or a nonce was changed")
	}
}

// Answers are new memory, and the same each time, whatever becomes of them or of what was handed in.
func TestAnswersStay(t *testing.T) {
	key, nonce := countedKey(), countedNonce()
	for _, size := range sizes {
		room := noise(size+100, 29)
		b := room[:size]
		want := plainXor(key, 3, nonce, b)
		first, second := stream.Xor(key, 3, nonce, b), stream.Xor(key, 3, nonce, b)
		clear(first[:cap(first)])
		if !bytes.Equal(second, want) || !bytes.Equal(room, noise(size+100, 29)) {
			t.Errorf("%d bytes: a change of an answer changes another one, or what was handed in", size)
		}
		clear(room)
		if !bytes.Equal(second, want) {
			t.Errorf("%d bytes: a change of what was handed in changes the answer", size)
		}
	}
	first := stream.Block(key, 3, nonce)
	again := first
	clear(first[:])
	if stream.Block(key, 3, nonce) != again {
		t.Error("a block is another the second time")
	}
}
