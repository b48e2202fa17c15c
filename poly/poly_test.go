package poly_test

import (
	"bytes"
	"encoding/hex"
	"math/big"
	"slices"
	"strings"
	"testing"

	"portmanteau/poly"
)

// power is 2^k and more.
func power(k uint, more int64) *big.Int {
	n := new(big.Int).Lsh(big.NewInt(1), k)
	return n.Add(n, big.NewInt(more))
}

// prime is p.
func prime() *big.Int {
	return power(130, -5)
}

// plainNumber is the number of bytes, the lowest first.
func plainNumber(b []byte) *big.Int {
	up := slices.Clone(b)
	slices.Reverse(up)
	return new(big.Int).SetBytes(up)
}

// plainBytes are so many bytes of a number, what is above left out.
func plainBytes(n *big.Int, size int) []byte {
	low := new(big.Int).Mod(n, power(uint(8*size), 0))
	b := low.FillBytes(make([]byte, size))
	slices.Reverse(b)
	return b
}

// plainClamp is r, cleared as the document's words tell it.
func plainClamp(r [16]byte) [16]byte {
	for _, i := range []int{3, 7, 11, 15} {
		r[i] %= 16
	}
	for _, i := range []int{4, 8, 12} {
		r[i] -= r[i] % 4
	}
	return r
}

func plainFactor(r [16]byte) *big.Int {
	cleared := plainClamp(r)
	return plainNumber(cleared[:])
}

// plainTimes is a product as the words tell it.
func plainTimes(a, r [16]byte) [17]byte {
	n := plainNumber(a[:])
	n.Mul(n, plainFactor(r)).Mod(n, prime())
	return [17]byte(plainBytes(n, 17))
}

// plainSum is what a is behind all bytes, as the words tell it.
func plainSum(r [16]byte, b []byte) *big.Int {
	a, by, p := new(big.Int), plainFactor(r), prime()
	for part := range slices.Chunk(b, 16) {
		a.Add(a, plainNumber(slices.Concat(part, []byte{1})))
		a.Mul(a, by).Mod(a, p)
	}
	return a
}

// plainTag is the tag as the words tell it.
func plainTag(key [32]byte, b []byte) [16]byte {
	a := plainSum([16]byte(key[:16]), b)
	return [16]byte(plainBytes(a.Add(a, plainNumber(key[16:])), 16))
}

// noise is bytes without a pattern, the same for the same seed.
func noise(size int, seed uint32) []byte {
	b := make([]byte, size)
	for i := range b {
		seed = seed*1664525 + 1013904223
		b[i] = byte(seed >> 24)
	}
	return b
}

func half(seed uint32) [16]byte {
	return [16]byte(noise(16, seed))
}

// halfOf is the 16 bytes of a number.
func halfOf(n *big.Int) [16]byte {
	return [16]byte(plainBytes(n, 16))
}

func unhex(t *testing.T, text string) []byte {
	t.Helper()
	b, err := hex.DecodeString(text)
	if err != nil {
		t.Fatal(err)
	}
	return b
}

func keyOf(r, s [16]byte) [32]byte {
	return [32]byte(slices.Concat(r[:], s[:]))
}

var ones = [16]byte(bytes.Repeat([]byte{255}, 16))

// someHalves are numbers of 16 bytes at the edges, and some of noise.
func someHalves() [][16]byte {
	list := [][16]byte{{}, {1}, {2}, {3}, {4}, {5}, {6}, {8}, {255}, {0, 1}, {15: 1}, {15: 15}, {15: 128}, {15: 255}, ones, plainClamp(ones), halfOf(power(128, -2)), halfOf(power(127, -1)), halfOf(power(124, -1))}
	for _, bit := range []uint{25, 26, 27, 51, 52, 53, 63, 64, 65, 77, 78, 79, 103, 104, 105, 123} {
		list = append(list, halfOf(power(bit, 0)), halfOf(power(bit, -1)))
	}
	for seed := range uint32(8) {
		list = append(list, half(seed))
	}
	return list
}

// sizes are lengths around the ends of blocks, and many more.
var sizes = []int{0, 1, 2, 14, 15, 16, 17, 18, 30, 31, 32, 33, 47, 48, 49, 63, 64, 65, 100, 255, 256, 257, 1000, 4096, 65535, 65536, 65537, 1 << 20}

// someTargets are numbers below p to which a product or a may come: each power of two, p, and few less or more.
func someTargets() []*big.Int {
	var list []*big.Int
	for bit := range uint(131) {
		for more := int64(-6); more <= 6; more++ {
			list = append(list, power(bit, more))
		}
	}
	for more := int64(-6); more <= 6; more++ {
		list = append(list, new(big.Int).Add(prime(), big.NewInt(more)))
	}
	for i, n := range list {
		list[i] = n.Mod(n, prime())
	}
	return list
}

// isCleared tells of a bit of r whether it is cleared, bit by bit as the words list them.
func isCleared(bit int) bool {
	switch bit / 8 {
	case 3, 7, 11, 15:
		return bit%8 >= 4
	case 4, 8, 12:
		return bit%8 < 2
	}
	return false
}

// P6.1: r, cleared: what is known.
func TestClampKnown(t *testing.T) {
	for _, c := range []struct{ r, want string }{
		{"00000000000000000000000000000000", "00000000000000000000000000000000"},
		{"ffffffffffffffffffffffffffffffff", "ffffff0ffcffff0ffcffff0ffcffff0f"},
		{"85d6be7857556d337f4452fe42d506a8", "85d6be0854556d037c44520e40d50608"},
		{"36e5f6b5c5e06070f0efca96227a863e", "36e5f605c4e06000f0efca06207a860e"},
		{"000000f003000000000000000000000f", "0000000000000000000000000000000f"},
	} {
		got := poly.Clamp([16]byte(unhex(t, c.r)))
		if h := hex.EncodeToString(got[:]); h != c.want {
			t.Errorf("Clamp(%s) = %s, want %s", c.r, h, c.want)
		}
	}
}

// P6.1: each bit alone, and each bit missing alone: 22 are cleared, the others stay.
func TestClampEachBit(t *testing.T) {
	count := 0
	for bit := range 128 {
		at, mask := bit/8, byte(1)<<(bit%8)
		var alone, want [16]byte
		alone[at] = mask
		missing, wantMissing := ones, plainClamp(ones)
		missing[at] ^= mask
		if isCleared(bit) {
			count++
		} else {
			want = alone
			wantMissing[at] ^= mask
		}
		if got := poly.Clamp(alone); got != want {
			t.Errorf("Clamp of bit %d alone = %x, want %x", bit, got, want)
		}
		if got := poly.Clamp(missing); got != wantMissing {
			t.Errorf("Clamp of all bits but %d = %x, want %x", bit, got, wantMissing)
		}
	}
	if count != 22 {
		t.Errorf("%d bits are cleared, want 22", count)
	}
}

// P6.1: numbers at the edges and of noise, and each byte at each place; what is cleared stays so.
func TestClamp(t *testing.T) {
	list := someHalves()
	for at := range 16 {
		for x := range 256 {
			r := half(uint32(at))
			r[at] = byte(x)
			list = append(list, r)
		}
	}
	for _, r := range list {
		got, want := poly.Clamp(r), plainClamp(r)
		if got != want {
			t.Errorf("Clamp(%x) = %x, want %x", r, got, want)
		}
		if poly.Clamp(got) != got {
			t.Errorf("Clamp of %x, which is cleared, is another", got)
		}
	}
}

// P6.1: products that are known: those below 2^128 and above, just p less 1 or p and few, and of the greatest numbers.
func TestTimesKnown(t *testing.T) {
	for _, c := range []struct{ a, r, want string }{
		{"0", "0", "0"}, {"ffffffffffffffffffffffffffffffff", "0", "0"}, {"0", "ffffffffffffffffffffffffffffffff", "0"},
		{"1", "1", "1"}, {"5", "7", "23"}, {"ffffffffffffffffffffffffffffffff", "1", "ffffffffffffffffffffffffffffffff"},
		{"1", "ffffffffffffffffffffffffffffffff", "ffffffc0ffffffc0ffffffc0fffffff"},
		{"2", "ffffffffffffffffffffffffffffffff", "1ffffff81ffffff81ffffff81ffffffe"},
		{"ffffffffffffffffffffffffffffffff", "ffffffffffffffffffffffffffffffff", "303ffffff03ffffff03ffffff03fffffc"},
		// 2^128 less 1, 2^128, and 2
		{"55555555555555555555555555555555", "3", "ffffffffffffffffffffffffffffffff"},
		{"80000000000000000000000000000000", "2", "100000000000000000000000000000000"},
		{"80000000000000000000000000000001", "2", "100000000000000000000000000000002"},
		// 2^129 less 2, less 1, and 2^129
		{"ffffffffffffffffffffffffffffffff", "2", "1fffffffffffffffffffffffffffffffe"},
		{"49249249249249249249249249249249", "7", "1ffffffffffffffffffffffffffffffff"},
		{"80000000000000000000000000000000", "4", "200000000000000000000000000000000"},
		// p less 5, 4, 3, 2, 1
		{"aaaaaaaaaaaaaaaaaaaaaaaaaaaaaaa9", "6", "3fffffffffffffffffffffffffffffff6"},
		{"cccccccccccccccccccccccccccccccb", "5", "3fffffffffffffffffffffffffffffff7"},
		{"fffffffffffffffffffffffffffffffe", "4", "3fffffffffffffffffffffffffffffff8"},
		{"71c71c71c71c71c71c71c71c71c71c71", "9", "3fffffffffffffffffffffffffffffff9"},
		{"2c8590b21642c8590b21642c8590b216", "17", "3fffffffffffffffffffffffffffffffa"},
		// p and 1, 2, 3, 4 (2^130 less 1), 5 (2^130), 6, 7
		{"ffffffffffffffffffffffffffffffff", "4", "1"},
		{"209293982cc98af13d951f0bb4ad0ab", "1f7", "2"},
		{"92492492492492492492492492492492", "7", "3"},
		{"5d1745d1745d1745d1745d1745d1745d", "b", "4"},
		{"80000000000000000000000000000000", "8", "5"},
		{"cccccccccccccccccccccccccccccccd", "5", "6"},
		{"aaaaaaaaaaaaaaaaaaaaaaaaaaaaaaab", "6", "7"},
		// powers of two, far above 2^130
		{"80000000000000000000000000000000", "10", "a"},
		{"80000000000000000000000000000000", "8000000000000000000000000000000", "5000000000000000000000000000000"},
		// bits of r that are cleared: 2^31 and 2^32
		{"ffffffffffffffffffffffffffffffff", "80000000", "0"}, {"3", "100000000", "0"}, {"3", "180000001", "3"},
	} {
		got := poly.Times(halfOf(hexNumber(t, c.a)), halfOf(hexNumber(t, c.r)))
		if n := plainNumber(got[:]); n.Cmp(hexNumber(t, c.want)) != 0 {
			t.Errorf("Times(%s, %s) = %x, want %s", c.a, c.r, n, c.want)
		}
	}
}

func hexNumber(t *testing.T, text string) *big.Int {
	t.Helper()
	n, ok := new(big.Int).SetString(text, 16)
	if !ok {
		t.Fatal("no number:", text)
	}
	return n
}

// P6.1: products of numbers at the edges and of noise, against the words; all are below p.
func TestTimes(t *testing.T) {
	for _, a := range someHalves() {
		for _, r := range someHalves() {
			got, want := poly.Times(a, r), plainTimes(a, r)
			if got != want {
				t.Errorf("Times(%x, %x) = %x, want %x", a, r, got, want)
			}
		}
	}
	for seed := range uint32(20000) {
		a, r := half(2*seed), half(2*seed+1)
		if got, want := poly.Times(a, r), plainTimes(a, r); got != want {
			t.Fatalf("Times(%x, %x) = %x, want %x", a, r, got, want)
		}
	}
}

// P6.1: products that come to each target, by factors without a pattern, so that what is above 2^130 is much ahead of the modulo.
func TestTimesComesTo(t *testing.T) {
	p, room := prime(), power(128, 0)
	for i, target := range someTargets() {
		found := 0
		for seed := uint32(1000 * i); found < 3; seed++ {
			r := half(seed)
			a := new(big.Int).ModInverse(plainFactor(r), p)
			if a.Mul(a, target).Mod(a, p); a.Cmp(room) >= 0 {
				continue
			}
			found++
			if got := poly.Times(halfOf(a), r); !bytes.Equal(got[:], plainBytes(target, 17)) {
				t.Errorf("Times(%x, %x) = %x, want the number %x", halfOf(a), r, got, target)
			}
		}
	}
}

// P6.1: bits of r that are cleared make no other product, all others do, and so does each bit of a.
func TestTimesHeedsAll(t *testing.T) {
	for _, r := range [][16]byte{{}, ones, half(1)} {
		for _, a := range [][16]byte{{1}, ones, half(2)} {
			first := poly.Times(a, r)
			seen := map[[17]byte]int{first: -1}
			for bit := range 128 {
				other := r
				other[bit/8] ^= 1 << (bit % 8)
				got := poly.Times(a, other)
				if same := got == first; same != isCleared(bit) {
					t.Errorf("Times(%x, %x) is the same with bit %d of r turned: %v", a, r, bit, same)
				}
				seen[got] = bit
			}
			if len(seen) != 1+128-22 {
				t.Errorf("Times(%x, ..) tells %d factors apart, want 107", a, len(seen))
			}
		}
	}
	for _, a := range [][16]byte{{}, ones, half(3)} {
		for _, r := range [][16]byte{{1}, ones, half(4)} {
			seen := map[[17]byte]int{poly.Times(a, r): -1}
			for bit := range 128 {
				other := a
				other[bit/8] ^= 1 << (bit % 8)
				seen[poly.Times(other, r)] = bit
			}
			if len(seen) != 129 {
				t.Errorf("Times(.., %x) tells %d numbers apart, want 129", r, len(seen))
			}
		}
	}
}

// P6.1: an r of 0 makes 0 of all, an r of 1 leaves all as it is.
func TestTimesNoughtAndOne(t *testing.T) {
	for _, a := range someHalves() {
		if got := poly.Times(a, [16]byte{}); got != [17]byte{} {
			t.Errorf("Times(%x, 0) = %x", a, got)
		}
		got := poly.Times(a, [16]byte{1})
		if [16]byte(got[:16]) != a || got[16] != 0 {
			t.Errorf("Times(%x, 1) = %x", a, got)
		}
	}
}

// P6.1: tags that are known.
func TestTagKnown(t *testing.T) {
	ietf := `Any submission to the IETF intended by the Contributor for publication as all or part of an IETF Internet-Draft or RFC and any statement made within the context of an IETF activity is considered an "IETF Contribution". Such statements include oral statements in IETF sessions, as well as written and electronic communications made at any time or place, which are addressed to`
	brillig := "'Twas brillig, and the slithy toves\nDid gyre and gimble in the wabe:\nAll mimsy were the borogoves,\nAnd the mome raths outgrabe."
	nought := strings.Repeat("00", 16)
	far := "01000000000000000400000000000000" + nought
	farText := unhex(t, "e33594d7505e43b900000000000000003394d7505e4379cd01000000000000000000000000000000000000000000000001000000000000000000000000000000")
	for _, c := range []struct {
		key  string
		b    []byte
		want string
	}{
		{"85d6be7857556d337f4452fe42d506a80103808afb0db2fd4abff6af4149f51b", []byte("Cryptographic Forum Research Group"), "a8061dc1305136c6c22b8baf0c0127a9"},
		{nought + nought, make([]byte, 64), nought},
		{nought + "36e5f6b5c5e06070f0efca96227a863e", []byte(ietf), "36e5f6b5c5e06070f0efca96227a863e"},
		{"36e5f6b5c5e06070f0efca96227a863e" + nought, []byte(ietf), "f3477e7cd95417af89a6b8794c310cf0"},
		{"1c9240a5eb55d38af333888604f6b5f0473917c1402b80099dca5cbc207075c0", []byte(brillig), "4541669a7eaaee61e708dc7cbcc5eb62"},
		{far, farText, "14000000000000005500000000000000"},
		{far, farText[:48], "13000000000000000000000000000000"},
	} {
		got := poly.Tag([32]byte(unhex(t, c.key)), c.b)
		if h := hex.EncodeToString(got[:]); h != c.want {
			t.Errorf("Tag(%s, %q) = %s, want %s", c.key, c.b, h, c.want)
		}
	}
}

// P6.1: tags that are known, of lengths around the ends of blocks, of noughts and of all ones.
func TestTagKnownLengths(t *testing.T) {
	var counted [32]byte
	for i := range counted {
		counted[i] = byte(i)
	}
	for _, c := range []struct {
		key  [32]byte
		fill byte
		size int
		want string
	}{
		{keyOf(ones, ones), 255, 0, "ffffffffffffffffffffffffffffffff"},
		{keyOf(ones, ones), 255, 1, "23feffef23f8ffef23f8ffef23f8ffef"},
		{keyOf(ones, ones), 255, 15, "fbff27e6030028e6030028e6030028ee"},
		{keyOf(ones, ones), 255, 16, "fbffff17faffff17faffff17faffff17"},
		{keyOf(ones, ones), 255, 17, "7cfe7ff768f81f2763f8bf565df85f86"},
		{keyOf(ones, ones), 255, 31, "5400a8ed4800481d4300e84c3d008884"},
		{keyOf(ones, ones), 255, 32, "5400801f3f00204f3900c07e330060ae"},
		{keyOf(ones, ones), 255, 33, "86fa6a437bf4ec24a274504dc37495bc"},
		{keyOf(ones, ones), 255, 1000, "de9406b10e7023bcd692ff687f4cbc7f"},
		{counted, 0, 0, "101112131415161718191a1b1c1d1e1f"},
		{counted, 0, 1, "1f11131517191b1d1f21232527292b2d"},
		{counted, 0, 15, "90d315589adc1e61a3e5276aacee301f"},
		{counted, 0, 16, "5092d416599bdd1f62a4e6286badef31"},
		{counted, 0, 17, "480e2a3cf40115dd094b50c965d5c7ec"},
		{counted, 0, 31, "b9d02c7f77c518218e0f550eeb9acdde"},
		{counted, 0, 32, "798feb3d3684d7df4cce13cda9598cf1"},
		{counted, 0, 33, "e4eb8814c3a5be14c825bc6e8ad9b726"},
	} {
		got := poly.Tag(c.key, bytes.Repeat([]byte{c.fill}, c.size))
		if h := hex.EncodeToString(got[:]); h != c.want {
			t.Errorf("Tag(%x, %d bytes of %d) = %s, want %s", c.key, c.size, c.fill, h, c.want)
		}
	}
}

// P6.1: bytes of all lengths, of noughts, of all ones and of noise, against the words.
func TestTagLengths(t *testing.T) {
	for _, key := range [][32]byte{{}, keyOf(ones, ones), keyOf(ones, [16]byte{}), keyOf([16]byte{1}, ones), keyOf(half(5), half(6))} {
		for _, size := range sizes {
			for _, b := range [][]byte{make([]byte, size), bytes.Repeat([]byte{255}, size), noise(size, 7)} {
				if got, want := poly.Tag(key, b), plainTag(key, b); got != want {
					t.Errorf("Tag(%x, %d bytes) = %x, want %x", key, size, got, want)
				}
			}
		}
		b := noise(300, 8)
		for size := range len(b) + 1 {
			if got, want := poly.Tag(key, b[:size]), plainTag(key, b[:size]); got != want {
				t.Errorf("Tag(%x, %d bytes) = %x, want %x", key, size, got, want)
			}
		}
	}
}

// P6.1: keys of all sorts: each r with each s.
func TestTagKeys(t *testing.T) {
	for _, r := range someHalves() {
		for _, s := range someHalves() {
			key := keyOf(r, s)
			for _, size := range []int{0, 1, 15, 16, 17, 33, 80} {
				b := noise(size, 9)
				if got, want := poly.Tag(key, b), plainTag(key, b); got != want {
					t.Fatalf("Tag(%x, %x) = %x, want %x", key, b, got, want)
				}
			}
		}
	}
}

// P6.1: the tag of nothing, nil or empty, is s, whatever r is; so is all under an r of 0.
func TestTagIsS(t *testing.T) {
	for _, s := range someHalves() {
		for _, r := range [][16]byte{{}, {1}, ones, half(10)} {
			for _, b := range [][]byte{nil, {}, noise(9, 1)[:0], noise(9, 1)[9:]} {
				if got := poly.Tag(keyOf(r, s), b); got != s {
					t.Errorf("Tag of nothing under %x and %x = %x", r, s, got)
				}
			}
		}
		for _, size := range sizes[:20] {
			if got := poly.Tag(keyOf([16]byte{}, s), noise(size, 11)); got != s {
				t.Errorf("Tag of %d bytes under 0 and %x = %x", size, s, got)
			}
		}
	}
}

// blocksOfSum are so many blocks of 16 bytes whose numbers, each with its byte 1, are total in all; nil if none are.
func blocksOfSum(total *big.Int, count int) []byte {
	rest := new(big.Int).Mul(power(128, 0), big.NewInt(int64(count)))
	rest.Sub(total, rest)
	if rest.Sign() < 0 {
		return nil
	}
	b := []byte{}
	for range count {
		part := power(128, -1)
		if rest.Cmp(part) < 0 {
			part.Set(rest)
		}
		rest.Sub(rest, part)
		b = append(b, plainBytes(part, 16)...)
	}
	if rest.Sign() > 0 {
		return nil
	}
	return b
}

// P6.1: under an r of 1 a is the sum of all blocks: it comes to just p, 2^128, 2^129, 2^130 and their neighbours, at the end, and on the way as more bytes follow; some of the sums are a multiple of p more.
func TestTagSums(t *testing.T) {
	tried := 0
	for _, base := range []*big.Int{power(128, 0), power(129, 0), prime(), power(130, 0), power(131, 0), power(132, 0)} {
		for more := int64(-7); more <= 7; more++ {
			for wraps := range int64(3) {
				total := new(big.Int).Mul(prime(), big.NewInt(wraps))
				total.Add(total, base).Add(total, big.NewInt(more))
				for count := range 16 {
					if b := blocksOfSum(total, count); b != nil {
						tried++
						checkSum(t, total, b)
					}
				}
			}
		}
	}
	if tried < 1000 {
		t.Errorf("only %d sums were tried", tried)
	}
}

// checkSum holds the tag of bytes that are total in all against just that number, and lets more bytes follow.
func checkSum(t *testing.T, total *big.Int, b []byte) {
	t.Helper()
	a := new(big.Int).Mod(total, prime())
	for _, s := range [][16]byte{{}, ones, half(12)} {
		want := halfOf(new(big.Int).Add(a, plainNumber(s[:])))
		if got := poly.Tag(keyOf([16]byte{1}, s), b); got != want {
			t.Errorf("a comes to %x: Tag is %x, want %x", total, got, want)
		}
	}
	for _, size := range []int{1, 15, 16, 17, 40} {
		key, longer := keyOf([16]byte{1}, [16]byte{}), slices.Concat(b, noise(size, 13))
		if got, want := poly.Tag(key, longer), plainTag(key, longer); got != want {
			t.Errorf("a comes to %x on the way: Tag is %x, want %x", total, got, want)
		}
	}
}

// blocksTo are some blocks of 16 bytes under which a, modulo p, comes to target: all but the last are noise. How many they are changes with the seed, as under a small r not every number of them will do.
func blocksTo(r [16]byte, target *big.Int, seed uint32) []byte {
	p, by := prime(), plainFactor(r)
	aim := new(big.Int).ModInverse(by, p)
	aim.Mul(aim, target)
	low, high := power(128, 0), power(129, 0)
	for ; ; seed++ {
		b := noise(16*int(1+seed%7), seed)
		last := new(big.Int).Sub(aim, plainSum(r, b))
		if last.Mod(last, p); last.Cmp(low) >= 0 && last.Cmp(high) < 0 {
			return append(b, plainBytes(last, 16)...)
		}
	}
}

// P6.1: under an r of all sorts a comes to each target, at the end and on the way.
func TestTagComesTo(t *testing.T) {
	for i, target := range someTargets() {
		for _, r := range [][16]byte{{1}, {2}, ones, {15: 15}, half(uint32(i))} {
			b := blocksTo(r, target, uint32(i))
			if got := poly.Tag(keyOf(r, [16]byte{}), b); got != halfOf(target) {
				t.Errorf("under %x a comes to %x: Tag is %x", r, target, got)
			}
			for _, size := range []int{1, 16, 35} {
				key, longer := keyOf(r, half(14)), slices.Concat(b, noise(size, 15))
				if got, want := poly.Tag(key, longer), plainTag(key, longer); got != want {
					t.Errorf("under %x a comes to %x on the way: Tag is %x, want %x", r, target, got, want)
				}
			}
		}
	}
}

// P6.1: sums of a and s just below 2^128, just 2^128 and above: what is above is left out.
func TestTagSumPasses(t *testing.T) {
	for seed := range uint32(200) {
		r, b := half(seed), noise(int(seed)+1, seed)
		a := plainSum(r, b)
		for _, more := range []int64{-256, -2, -1, 0, 1, 2, 255, 256} {
			s := halfOf(new(big.Int).Sub(power(128, more), a))
			if got, want := poly.Tag(keyOf(r, s), b), halfOf(big.NewInt(more)); got != want {
				t.Errorf("a and s are 2^128 and %d: Tag is %x, want %x", more, got, want)
			}
		}
	}
}

// P6.1: bytes with noughts ahead of them or behind are others, and so are bytes in another order.
func TestTagToldApart(t *testing.T) {
	for _, key := range [][32]byte{keyOf(ones, ones), keyOf(half(16), half(17))} {
		seen := map[[16]byte][]byte{}
		tell := func(b []byte) {
			tag := poly.Tag(key, b)
			if other, ok := seen[tag]; ok && !bytes.Equal(other, b) {
				t.Errorf("%x and %x have the same tag under %x", b, other, key)
			}
			seen[tag] = b
		}
		for _, size := range []int{0, 1, 14, 15, 16, 17, 31, 32, 33} {
			b := noise(size, 18)
			for noughts := range 50 {
				tell(slices.Concat(b, make([]byte, noughts)))
				tell(slices.Concat(make([]byte, noughts), b))
				tell(slices.Concat(b, []byte{1}, make([]byte, noughts)))
			}
			for bit := range 8 * size {
				other := slices.Clone(b)
				other[bit/8] ^= 1 << (bit % 8)
				tell(other)
			}
		}
		b := noise(48, 19)
		tell(b)
		tell(slices.Concat(b[16:], b[:16]))
		tell(slices.Concat(b[16:32], b[:16], b[32:]))
		tell(slices.Concat(b[1:], b[:1]))
	}
}

// P6.1: bits of r that are cleared make no other tag, all others do, and so does each bit of s.
func TestTagHeedsKey(t *testing.T) {
	for _, key := range [][32]byte{{}, keyOf(ones, ones), keyOf(half(20), half(21))} {
		for _, b := range [][]byte{{7}, noise(16, 22), noise(33, 23), noise(200, 24)} {
			first := poly.Tag(key, b)
			for bit := range 256 {
				other := key
				other[bit/8] ^= 1 << (bit % 8)
				same := poly.Tag(other, b) == first
				if want := bit < 128 && isCleared(bit); same != want {
					t.Errorf("Tag(%x, %x) is the same with bit %d of the key turned: %v", key, b, bit, same)
				}
			}
		}
	}
}

// What is handed in stays as it was, the room behind its end included, which is not looked at either.
func TestArgumentsStay(t *testing.T) {
	key, r, a := keyOf(ones, half(25)), ones, half(26)
	poly.Clamp(r)
	poly.Times(a, r)
	for _, size := range []int{0, 1, 15, 16, 17, 31, 32, 33, 64, 100} {
		room := noise(200, 27)
		want := plainTag(key, room[:size])
		if got := poly.Tag(key, room[:size]); got != want {
			t.Errorf("Tag of %d bytes of more = %x, want %x", size, got, want)
		}
		poly.Tag(key, room[50:50+size:50+size])
		if !bytes.Equal(room, noise(200, 27)) {
			t.Errorf("of %d bytes some were changed", size)
		}
		clear(room[size:])
		if poly.Tag(key, room[:size]) != want || poly.Tag(key, room[:size:size]) != want {
			t.Errorf("Tag of %d bytes hangs on what stands behind them", size)
		}
	}
	if key != keyOf(ones, half(25)) || r != ones || a != half(26) {
		t.Error("a key or a number was changed")
	}
}

// Answers are the same each time, whatever was asked between, and whatever becomes of them.
func TestAnswersStay(t *testing.T) {
	key, b := keyOf(half(28), half(29)), noise(100, 30)
	tag, product, r := poly.Tag(key, b), poly.Times(half(31), half(32)), poly.Clamp(ones)
	for _, key := range [][32]byte{{}, keyOf(ones, ones)} {
		poly.Tag(key, bytes.Repeat([]byte{255}, 77))
		poly.Times(ones, ones)
	}
	wantTag, wantProduct, wantR := tag, product, r
	clear(tag[:])
	clear(product[:])
	clear(r[:])
	if poly.Tag(key, b) != wantTag || poly.Times(half(31), half(32)) != wantProduct || poly.Clamp(ones) != wantR {
		t.Error("an answer is another the second time")
	}
}
