package derive_test

import (
	"bytes"
	"crypto/hkdf"
	"crypto/hmac"
	"crypto/sha256"
	"encoding/hex"
	"math"
	"runtime/debug"
	"slices"
	"strings"
	"syscall"
	"testing"

	"portmanteau/derive"
)

// plainCode is the code of bytes as the document's words tell it.
func plainCode(key, b []byte) [32]byte {
	if len(key) > 64 {
		d := sha256.Sum256(key)
		key = d[:]
	}
	outer, inner := make([]byte, 64), make([]byte, 64)
	for i := range 64 {
		var x byte
		if i < len(key) {
			x = key[i]
		}
		outer[i], inner[i] = x^0x5c, x^0x36
	}
	d := sha256.Sum256(slices.Concat(inner, b))
	return sha256.Sum256(slices.Concat(outer, d[:]))
}

// plainKey is all 8160 derived bytes as the words tell them.
func plainKey(secret, salt, purpose []byte) []byte {
	p := plainCode(salt, secret)
	var all, last []byte
	for i := 1; i <= 255; i++ {
		t := plainCode(p[:], slices.Concat(last, purpose, []byte{byte(i)}))
		last = t[:]
		all = append(all, last...)
	}
	return all
}

// libraryCode is the code as the library tells it.
func libraryCode(key, b []byte) [32]byte {
	h := hmac.New(sha256.New, key)
	h.Write(b)
	return [32]byte(h.Sum(nil))
}

// noise is bytes without a pattern, the same for the same seed.
func noise(size int, seed uint32) []byte {
	b := make([]byte, size)
	for i := range b {
		seed = seed*1664525 + 1013904223
		b[i] = byte(seed >> 24)
	}
	return b
}

func unhex(t *testing.T, text string) []byte {
	t.Helper()
	b, err := hex.DecodeString(text)
	if err != nil {
		t.Fatal(err)
	}
	return b
}

// counted is the bytes from first on, each greater by one.
func counted(first byte, size int) []byte {
	b := make([]byte, size)
	for i := range b {
		b[i] = first + byte(i)
	}
	return b
}

// keySizes are lengths of keys around the ends of a digest and of a block, and many more.
var keySizes = []int{0, 1, 2, 31, 32, 33, 55, 56, 62, 63, 64, 65, 66, 127, 128, 129, 131, 1000, 1 << 16}

// P4.1: codes that are known.
func TestCodeKnown(t *testing.T) {
	for _, c := range []struct {
		key, b []byte
		want   string
	}{
		{nil, nil, "b613679a0814d9ec772f95d778c35fc5ff1697c493715653c6c712144292c5ad"},
		{[]byte("key"), []byte("The quick brown fox jumps over the lazy dog"), "f7bc83f430538424b13298e6aa6fb143ef4d59a14946175997479dbc2d1a3cd8"},
		{bytes.Repeat([]byte{0x0b}, 20), []byte("Hi There"), "b0344c61d8db38535ca8afceaf0bf12b881dc200c9833da726e9376c2e32cff7"},
		{[]byte("Jefe"), []byte("what do ya want for nothing?"), "5bdcc146bf60754e6a042426089575c75a003f089d2739839dec58b964ec3843"},
		{bytes.Repeat([]byte{0xaa}, 20), bytes.Repeat([]byte{0xdd}, 50), "773ea91e36800e46854db8ebd09181a72959098b3ef8c122d9635514ced565fe"},
		{counted(1, 25), bytes.Repeat([]byte{0xcd}, 50), "82558a389a443c0ea4cc819899f2083a85f0faa3e578f8077a2e3ff46729665b"},
		{bytes.Repeat([]byte{0xaa}, 131), []byte("Test Using Larger Than Block-Size Key - Hash Key First"), "60e431591ee0b67f0d8a26aacbf5b77f8e0bc6213728c5140546040f0ee37f54"},
		{bytes.Repeat([]byte{0xaa}, 131), []byte("This is a test using a larger than block-size key and a larger than block-size data. The key needs to be hashed before being used by the HMAC algorithm."), "9b09ffa71b942fcb27635fbcd5b0e944bfdc63644f0713938a7f51535c3a35e2"},
	} {
		d := derive.Code(c.key, c.b)
		if h := hex.EncodeToString(d[:]); h != c.want {
			t.Errorf("Code(%x, %q) = %s, want %s", c.key, c.b, h, c.want)
		}
	}
}

// P4.1: keys and bytes of all lengths around the edges, against the words and against the library.
func TestCodeLengths(t *testing.T) {
	for _, keySize := range keySizes {
		for _, key := range [][]byte{make([]byte, keySize), bytes.Repeat([]byte{255}, keySize), noise(keySize, 1)} {
			for _, size := range []int{0, 1, 31, 32, 55, 56, 63, 64, 65, 119, 120, 500} {
				b := noise(size, 2)
				d := derive.Code(key, b)
				if want := plainCode(key, b); d != want {
					t.Errorf("Code of %d bytes under a key of %d = %x, the words say %x", size, keySize, d, want)
				}
				if want := libraryCode(key, b); d != want {
					t.Errorf("Code of %d bytes under a key of %d = %x, the library says %x", size, keySize, d, want)
				}
			}
		}
	}
	key := noise(200, 3)
	for keySize := range len(key) {
		if d, want := derive.Code(key[:keySize], []byte("abc")), plainCode(key[:keySize], []byte("abc")); d != want {
			t.Errorf("Code under a key of %d bytes = %x, want %x", keySize, d, want)
		}
	}
}

// P4.1: a key of no bytes is nil or empty, and no parts, or parts of nothing, are no bytes.
func TestCodeOfNothing(t *testing.T) {
	for _, key := range [][]byte{nil, {}, noise(32, 4), noise(64, 4), noise(65, 4)} {
		want := plainCode(key, nil)
		if d := derive.Code(key); d != want {
			t.Errorf("Code(%x) = %x, want %x", key, d, want)
		}
		for _, parts := range [][][]byte{nil, {}, {nil}, {{}}, {nil, {}, nil, {}}} {
			if d := derive.Code(key, parts...); d != want {
				t.Errorf("Code(%x, %v...) = %x, want %x", key, parts, d, want)
			}
		}
	}
	if derive.Code(nil, []byte("abc")) != derive.Code([]byte{}, []byte("abc")) {
		t.Error("a key of nil and an empty one differ")
	}
}

// P4.1: how bytes are parted doesn't matter.
func TestCodeParts(t *testing.T) {
	for _, keySize := range []int{0, 5, 64, 65} {
		key := noise(keySize, 6)
		for _, size := range []int{0, 1, 2, 55, 64, 65, 150} {
			b := noise(size, 7)
			want := plainCode(key, b)
			for cut := range size + 1 {
				if d := derive.Code(key, b[:cut], b[cut:]); d != want {
					t.Errorf("%d bytes parted at %d: %x, want %x", size, cut, d, want)
				}
			}
			for _, width := range []int{1, 3, 63, 64, 65} {
				parts := [][]byte{nil}
				for part := range slices.Chunk(b, width) {
					parts = append(parts, part, []byte{}, nil)
				}
				if d := derive.Code(key, parts...); d != want {
					t.Errorf("%d bytes in parts of %d: %x, want %x", size, width, d, want)
				}
			}
		}
	}
	b := noise(20000, 8)
	if derive.Code(nil, slices.Collect(slices.Chunk(b, 1))...) != plainCode(nil, b) {
		t.Error("20000 parts and one differ")
	}
}

// P4.1: noughts behind a key of up to 64 bytes are no other key, and a longer key stands for its digest; both follow from what a block key is.
func TestCodeBlockKey(t *testing.T) {
	b := []byte("abc")
	for _, size := range []int{0, 1, 31, 32, 63} {
		key := noise(size, 9)
		want := derive.Code(key, b)
		for more := 1; more <= 64-size; more++ {
			if derive.Code(slices.Concat(key, make([]byte, more)), b) != want {
				t.Errorf("a key of %d bytes, and it with %d noughts, have different codes", size, more)
			}
		}
		if derive.Code(slices.Concat(key, make([]byte, 65-size)), b) == want {
			t.Errorf("a key of %d bytes, and it with noughts up to 65, have the same code", size)
		}
	}
	for _, size := range []int{64, 65, 66, 128, 1000} {
		key := noise(size, 10)
		d := sha256.Sum256(key)
		if same := derive.Code(key, b) == derive.Code(d[:], b); same != (size > 64) {
			t.Errorf("a key of %d bytes, and its digest, have the same code: %v", size, same)
		}
	}
}

// P4.1: inputs that must be told apart: each bit of a key and of the bytes, noughts ahead and behind, key and bytes exchanged or shifted.
func TestCodeToldApart(t *testing.T) {
	type input struct{ key, b []byte }
	list := []input{
		{nil, nil}, {nil, []byte{0}}, {nil, []byte{0, 0}}, {nil, []byte("ab")}, {nil, []byte("ba")},
		{[]byte("a"), []byte("b")}, {[]byte("b"), []byte("a")}, {[]byte("ab"), nil}, {[]byte("\x00ab"), nil}, {[]byte("ba"), nil},
		{make([]byte, 65), nil}, {make([]byte, 66), nil},
		{bytes.Repeat([]byte{0x36}, 64), nil}, {bytes.Repeat([]byte{0x5c}, 64), nil}, {bytes.Repeat([]byte{0x36 ^ 0x5c}, 64), nil},
	}
	for _, size := range []int{1, 32, 63, 64, 65, 130} {
		key, b := noise(size, 11), noise(size, 12)
		list = append(list, input{key, b})
		for bit := range 8 * size {
			otherKey, other := slices.Clone(key), slices.Clone(b)
			otherKey[bit/8] ^= 1 << (bit % 8)
			other[bit/8] ^= 1 << (bit % 8)
			list = append(list, input{otherKey, b}, input{key, other})
		}
	}
	seen := map[[32]byte]input{}
	for _, x := range list {
		d := derive.Code(x.key, x.b)
		if other, ok := seen[d]; ok {
			t.Errorf("%x under %x and %x under %x have the same code", x.b, x.key, other.b, other.key)
		}
		seen[d] = x
	}
	if derive.Code([]byte("k"), []byte("ab"), []byte("c")) == derive.Code([]byte("k"), []byte("c"), []byte("ab")) {
		t.Error("parts exchanged have the same code")
	}
}

// P4.1: rows that are the same, and rows that are not, both ways round.
func TestSame(t *testing.T) {
	ab := []byte("ab")
	for _, c := range []struct {
		a, b []byte
		want bool
	}{
		{nil, nil, true}, {nil, []byte{}, true}, {[]byte{}, []byte{}, true}, {ab[:0], ab[2:], true},
		{nil, []byte{0}, false}, {[]byte{}, []byte{0, 0}, false}, {nil, []byte{1}, false},
		{[]byte{0}, []byte{0}, true}, {[]byte{0}, []byte{0, 0}, false}, {[]byte{0}, []byte{1}, false}, {[]byte{0}, []byte{128}, false}, {[]byte{0}, []byte{255}, false},
		{ab, ab, true}, {ab, []byte("ab"), true}, {ab, []byte("ba"), false}, {ab, []byte("a"), false}, {ab, []byte("b"), false},
		{ab, []byte("ab\x00"), false}, {ab, []byte("\x00ab"), false}, {ab, []byte("aba"), false}, {ab, []byte("abab"), false},
		{[]byte{0, 0}, []byte{128, 128}, false}, {make([]byte, 256), bytes.Repeat([]byte{1}, 256), false}, {make([]byte, 1<<16), bytes.Repeat([]byte{1}, 1<<16), false},
		{[]byte{1, 1}, []byte{2, 2}, false}, {[]byte{1, 2}, []byte{2, 1}, false}, {[]byte{1, 255}, []byte{255, 1}, false},
		{make([]byte, 255), make([]byte, 256), false}, {nil, make([]byte, 256), false}, {nil, make([]byte, 1<<16), false}, {make([]byte, 1<<16), make([]byte, 1<<17), false},
	} {
		if derive.Same(c.a, c.b) != c.want || derive.Same(c.b, c.a) != c.want {
			t.Errorf("Same(%x, %x) is not %v", c.a, c.b, c.want)
		}
	}
}

// P4.1: each bit at each place makes rows differ, the first and the last byte among them; so does a byte less.
func TestSameEachBit(t *testing.T) {
	for _, size := range []int{1, 2, 7, 8, 9, 16, 31, 32, 33, 64, 300} {
		a := noise(size, 13)
		if !derive.Same(a, slices.Clone(a)) {
			t.Errorf("rows of %d bytes, the same, are told apart", size)
		}
		for bit := range 8 * size {
			b := slices.Clone(a)
			b[bit/8] ^= 1 << (bit % 8)
			if derive.Same(a, b) || derive.Same(b, a) {
				t.Errorf("rows of %d bytes that differ at bit %d are the same", size, bit)
			}
		}
		for less := range size {
			if derive.Same(a, a[:less]) || derive.Same(a[:less], a) {
				t.Errorf("rows of %d and %d bytes are the same", size, less)
			}
		}
	}
}

// P4.1: what stands behind a row's end is not looked at.
func TestSameEnds(t *testing.T) {
	a, b := []byte("abcX"), []byte("abcY")
	if !derive.Same(a[:3], b[:3]) {
		t.Error("the room behind the end makes rows differ")
	}
	if derive.Same(a[:3], a[:4]) {
		t.Error("a row and its beginning are the same")
	}
}

// guardedRow is a row whose last byte, and it alone, may not be read: a look at it is a fault.
func guardedRow(t *testing.T, size int) []byte {
	t.Helper()
	page := syscall.Getpagesize()
	room, err := syscall.Mmap(-1, 0, 2*page, syscall.PROT_READ|syscall.PROT_WRITE, syscall.MAP_ANON|syscall.MAP_PRIVATE)
	if err != nil {
		t.Skip("no memory to guard:", err)
	}
	t.Cleanup(func() { syscall.Munmap(room) })
	if err := syscall.Mprotect(room[page:], syscall.PROT_NONE); err != nil {
		t.Skip("memory is not guarded:", err)
	}
	return room[page+1-size : page+1]
}

// kept holds an answer that nobody asks for, so that the compiler does not leave out the work for it.
var kept bool

// looks tells whether the guarded byte is looked at.
func looks(a, b []byte) (looked bool) {
	defer debug.SetPanicOnFault(debug.SetPanicOnFault(true))
	defer func() { looked = recover() != nil }()
	kept = derive.Same(a, b)
	return
}

// P4.1: all bytes are looked at, even if rows differ at the first byte already, or in how many they have.
func TestSameLooksAtAll(t *testing.T) {
	const size = 100
	a := guardedRow(t, size)
	for name, b := range map[string][]byte{
		"the same so far":      make([]byte, size),
		"another first byte":   append([]byte{1}, make([]byte, size-1)...),
		"all bytes others":     bytes.Repeat([]byte{1}, size),
		"a byte less":          make([]byte, size-1),
		"a byte more":          make([]byte, size+1),
		"a first byte alone":   {1},
		"nothing":              nil,
		"many more, another":   append([]byte{1}, make([]byte, 3*size)...),
		"the byte ahead of it": append(make([]byte, size-2), 1, 0),
	} {
		if !looks(a, b) || !looks(b, a) {
			t.Errorf("%s: the last byte is not looked at", name)
		}
		if looks(a[:size-1], b) || looks(b, a[:size-1]) {
			t.Errorf("%s: the byte behind the end is looked at", name)
		}
	}
}

// P4.2: derived bytes that are known.
func TestKeyKnown(t *testing.T) {
	for _, c := range []struct {
		secret, salt, purpose []byte
		want                  string
	}{
		{bytes.Repeat([]byte{0x0b}, 22), counted(0, 13), counted(0xf0, 10), "3cb25f25faacd57a90434f64d0362f2a2d2d0a90cf1a5a4c5db02d56ecc4c5bf34007208d5b887185865"},
		{counted(0, 80), counted(0x60, 80), counted(0xb0, 80), "b11e398dc80327a1c8e7f78c596a49344f012eda2d4efad8a050cc4c19afa97c59045a99cac7827271cb41c65e590e09da3275600c2f09b8367793a9aca3db71cc30c58179ec3e87c14c01d5c1f3434f1d87"},
		{bytes.Repeat([]byte{0x0b}, 22), nil, nil, "8da4e775a563c18f715f802a063c5a31b8a11f5c5ee1879ec3454e5f3c738d2d9d201395faa4b61a96c8"},
	} {
		want := unhex(t, c.want)
		if k := derive.Key(c.secret, c.salt, c.purpose, len(want)); !bytes.Equal(k, want) {
			t.Errorf("Key(%x, %x, %x, %d) = %x, want %x", c.secret, c.salt, c.purpose, len(want), k, want)
		}
	}
}

// sizes are all n at the edges of parts, and of what may be asked for.
var sizes = []int{0, 1, 2, 30, 31, 32, 33, 34, 63, 64, 65, 95, 96, 97, 100, 1000, 4096, 8127, 8128, 8129, 8159, 8160}

// P4.2: bytes of secrets, salts and purposes of many lengths, against the words and against the library.
func TestKeyLengths(t *testing.T) {
	lengths := []int{0, 1, 31, 32, 33, 63, 64, 65, 200}
	for i, secretSize := range lengths {
		for j, saltSize := range lengths {
			secret, salt, purpose := noise(secretSize, 14), noise(saltSize, 15), noise(lengths[(i+j)%len(lengths)], 16)
			want := plainKey(secret, salt, purpose)
			if k := derive.Key(secret, salt, purpose, 8160); !bytes.Equal(k, want) {
				t.Errorf("a secret of %d bytes, a salt of %d, a purpose of %d: not what the words say", secretSize, saltSize, len(purpose))
			}
			library, err := hkdf.Key(sha256.New, secret, salt, string(purpose), 42)
			if err != nil {
				t.Fatal(err)
			}
			if k := derive.Key(secret, salt, purpose, 42); !bytes.Equal(k, library) {
				t.Errorf("a secret of %d bytes, a salt of %d, a purpose of %d: not what the library says", secretSize, saltSize, len(purpose))
			}
		}
	}
}

// P4.2: so many bytes as are asked for, at the edges.
func TestKeySizes(t *testing.T) {
	secret, salt, purpose := []byte("secret"), []byte("salt"), []byte("purpose")
	want := plainKey(secret, salt, purpose)
	for _, n := range sizes {
		if k := derive.Key(secret, salt, purpose, n); !bytes.Equal(k, want[:n]) {
			t.Errorf("Key of %d bytes: %d bytes, %x", n, len(k), k)
		}
	}
}

// P4.2: below 0 and above 8160 there is nothing.
func TestKeyNothing(t *testing.T) {
	for _, n := range []int{-1, -2, -32, -8160, -8161, math.MinInt32, math.MinInt + 1, math.MinInt, 8161, 8162, 8191, 8192, 1 << 16, 1<<31 - 1, 1 << 31, 1 << 32, 1<<32 + 32, 1<<40 - 1, math.MaxInt - 1, math.MaxInt} {
		for _, b := range [][]byte{nil, {}, []byte("abc"), noise(100, 17)} {
			if k := derive.Key(b, b, b, n); len(k) != 0 {
				t.Errorf("Key of %d bytes has %d", n, len(k))
			}
		}
	}
}

// P4.2: nil and empty secrets, salts and purposes mean the same.
func TestKeyNilAndEmpty(t *testing.T) {
	none := []byte{}
	for _, b := range [][]byte{nil, none, []byte("abc")} {
		for _, c := range []struct{ x, y []byte }{
			{derive.Key(nil, b, b, 70), derive.Key(none, b, b, 70)},
			{derive.Key(b, nil, b, 70), derive.Key(b, none, b, 70)},
			{derive.Key(b, b, nil, 70), derive.Key(b, b, none, 70)},
		} {
			if len(c.x) != 70 || !bytes.Equal(c.x, c.y) {
				t.Errorf("beside %x: %x of nil, %x of an empty one", b, c.x, c.y)
			}
		}
	}
	if k, want := derive.Key(nil, nil, nil, 8160), plainKey(nil, nil, nil); !bytes.Equal(k, want) {
		t.Errorf("of nothing: %x, want %x", k, want)
	}
}

// P4.2: a salt is a key of a code, so noughts behind it are no other salt, up to 64 bytes; a longer one stands for its digest.
func TestKeySaltIsKey(t *testing.T) {
	secret := []byte("secret")
	want := derive.Key(secret, nil, nil, 64)
	for _, size := range []int{1, 32, 64, 65} {
		if same := bytes.Equal(derive.Key(secret, make([]byte, size), nil, 64), want); same != (size <= 64) {
			t.Errorf("a salt of %d noughts is the same as none: %v", size, same)
		}
	}
	long := noise(65, 18)
	d := sha256.Sum256(long)
	if !bytes.Equal(derive.Key(secret, long, nil, 64), derive.Key(secret, d[:], nil, 64)) {
		t.Error("a salt of 65 bytes is another than its digest")
	}
}

// P4.2: inputs that must be told apart: secret, salt and purpose exchanged or shifted, noughts behind, each bit turned.
func TestKeyToldApart(t *testing.T) {
	type input struct{ secret, salt, purpose string }
	list := []input{
		{"", "", ""}, {"a", "", ""}, {"", "a", ""}, {"", "", "a"},
		{"a", "b", "c"}, {"a", "c", "b"}, {"b", "a", "c"}, {"b", "c", "a"}, {"c", "a", "b"}, {"c", "b", "a"},
		{"ab", "c", ""}, {"", "ab", "c"}, {"a", "", "bc"}, {"ab", "", "c"}, {"a", "bc", ""}, {"", "a", "bc"}, {"abc", "", ""}, {"", "abc", ""}, {"", "", "abc"},
		{"a\x00", "b", "c"}, {"\x00a", "b", "c"}, {"a", "\x00b", "c"}, {"a", "b", "c\x00"}, {"a", "b", "\x00c"},
		{"a", "b", "c\x01"}, {"a", "b", "\x01"}, {"a", "b", "\x02"}, {"a", "b", ""},
		{strings.Repeat("\x00", 64), "", ""}, {strings.Repeat("\x00", 65), "", ""}, {"", "", strings.Repeat("\x00", 64)},
	}
	one := noise(66, 19)
	text := string(one)
	list = append(list, input{text, text, text})
	for bit := range 8 * len(one) {
		b := slices.Clone(one)
		b[bit/8] ^= 1 << (bit % 8)
		other := string(b)
		list = append(list, input{other, text, text}, input{text, other, text}, input{text, text, other})
	}
	seen := map[string]input{}
	for _, x := range list {
		k := derive.Key([]byte(x.secret), []byte(x.salt), []byte(x.purpose), 96)
		for part := range slices.Chunk(k, 32) {
			if other, ok := seen[string(part)]; ok {
				t.Errorf("%q and %q have a part that is the same", x, other)
			}
			seen[string(part)] = x
		}
	}
}

// P4.2: no two parts of one key are the same.
func TestKeyPartsDiffer(t *testing.T) {
	for _, purpose := range [][]byte{nil, {1}, []byte("purpose")} {
		seen := map[string]int{}
		for part := range slices.Chunk(derive.Key([]byte("secret"), []byte("salt"), purpose, 8160), 32) {
			seen[string(part)]++
		}
		if len(seen) != 255 {
			t.Errorf("purpose %q: %d parts of 255 are told apart", purpose, len(seen))
		}
	}
}

// P4.3: fewer bytes are the first ones of more.
func TestKeyFewerOfMore(t *testing.T) {
	for _, c := range []struct{ secret, salt, purpose []byte }{
		{nil, nil, nil},
		{[]byte("secret"), []byte("salt"), []byte("purpose")},
		{noise(100, 20), noise(70, 21), noise(300, 22)},
	} {
		all := derive.Key(c.secret, c.salt, c.purpose, 8160)
		if len(all) != 8160 {
			t.Fatalf("%d bytes of 8160", len(all))
		}
		for n := range 200 {
			if k := derive.Key(c.secret, c.salt, c.purpose, n); !bytes.Equal(k, all[:n]) {
				t.Errorf("%d bytes are not the first ones of 8160", n)
			}
		}
		for _, more := range sizes {
			long := derive.Key(c.secret, c.salt, c.purpose, more)
			for _, n := range sizes {
				if n <= more && !bytes.Equal(derive.Key(c.secret, c.salt, c.purpose, n), long[:n]) {
					t.Errorf("%d bytes are not the first ones of %d", n, more)
				}
			}
		}
	}
}

// What is handed in stays as it is, the room behind its end included.
func TestArgumentsStay(t *testing.T) {
	room := noise(400, 23)
	before := slices.Clone(room)
	row := [][]byte{room[:10], room[10:80:80], nil, room[80:200], room[300:310]}
	told := slices.Clone(row)
	for _, key := range [][]byte{room[:0], room[:20], room[:64], room[:65]} {
		derive.Code(key, row[:3]...)
		derive.Key(key, room[:20], room[30:90], 100)
		derive.Key(room[:20], key, room[30:31], 100)
		derive.Key(room[:20], room[30:90], key, 100)
		derive.Same(key, room[100:120])
		derive.Same(key, key)
	}
	if !bytes.Equal(room, before) {
		t.Error("the bytes were changed")
	}
	for i := range row {
		if len(row[i]) != len(told[i]) || cap(row[i]) != cap(told[i]) || len(row[i]) > 0 && &row[i][0] != &told[i][0] {
			t.Errorf("part %d was changed", i)
		}
	}
}

// Answers are new memory, and the same each time.
func TestAnswersStay(t *testing.T) {
	secret, salt, purpose := noise(32, 24), noise(32, 25), noise(32, 26)
	all := plainKey(secret, salt, purpose)
	for _, n := range []int{0, 1, 32, 33, 8160} {
		k := derive.Key(secret, salt, purpose, n)
		other := derive.Key(secret, salt, purpose, n)
		for i := range k[:cap(k)] {
			k[:cap(k)][i] ^= 77
		}
		if !bytes.Equal(other, all[:n]) || !bytes.Equal(derive.Key(secret, salt, purpose, n), all[:n]) {
			t.Errorf("Key of %d bytes is another behind a change of its answer", n)
		}
	}
	d := derive.Code(secret, salt, purpose)
	again := d
	d[0]++
	if derive.Code(secret, salt, purpose) != again {
		t.Error("a code is another the second time")
	}
}

// What was handed in is not kept: an answer stays when its arguments change.
func TestArgumentsNotKept(t *testing.T) {
	secret, salt, purpose := noise(32, 27), noise(32, 28), noise(32, 29)
	want := plainKey(secret, salt, purpose)
	k := derive.Key(secret, salt, purpose, 8160)
	clear(secret)
	clear(salt)
	clear(purpose)
	if !bytes.Equal(k, want) {
		t.Error("an answer changed with its arguments")
	}
	if !bytes.Equal(derive.Key(secret, salt, purpose, 8160), plainKey(secret, salt, purpose)) {
		t.Error("changed arguments have the answer of earlier ones")
	}
}
