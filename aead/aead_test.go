package aead_test

import (
	"bytes"
	"crypto/sha256"
	"encoding/hex"
	"slices"
	"testing"

	"portmanteau/aead"
	"portmanteau/api"
	"portmanteau/poly"
	"portmanteau/stream"
)

// plainFilled is bytes, and noughts up to a multiple of 16.
func plainFilled(b []byte) []byte {
	return slices.Concat(b, make([]byte, (16-len(b)%16)%16))
}

// plainLength is a length as 8 bytes, the lowest first.
func plainLength(b []byte) []byte {
	n, out := len(b), make([]byte, 8)
	for i := range out {
		out[i] = byte(n % 256)
		n /= 256
	}
	return out
}

// plainSeal is what is sealed, as the document's words tell it.
func plainSeal(key [32]byte, nonce [12]byte, header, text []byte) []byte {
	block := stream.Block(key, 0, nonce)
	sealed := stream.Xor(key, 1, nonce, text)
	all := slices.Concat(plainFilled(header), plainFilled(sealed), plainLength(header), plainLength(sealed))
	tag := poly.Tag([32]byte(block[:32]), all)
	return slices.Concat(sealed, tag[:])
}

// noise is bytes without a pattern, the same for the same seed.
func noise(size int, seed uint32) []byte {
	b := make([]byte, size)
	for i := range b {
		seed = seed*1664525 + 1013904223
		b[i] = byte(seed >> 24)
	}
	return b
}

// counted is the bytes 0, 1, 2 and so on.
func counted(size int) []byte {
	b := make([]byte, size)
	for i := range b {
		b[i] = byte(i)
	}
	return b
}

func ones(size int) []byte {
	return bytes.Repeat([]byte{255}, size)
}

// turned is bytes with one bit turned.
func turned(b []byte, bit int) []byte {
	other := slices.Clone(b)
	other[bit/8] ^= 1 << (bit % 8)
	return other
}

func unhex(t *testing.T, text string) []byte {
	t.Helper()
	b, err := hex.DecodeString(text)
	if err != nil {
		t.Fatal(err)
	}
	return b
}

func someKeys() [][32]byte {
	list := [][32]byte{{}, [32]byte(ones(32)), [32]byte(counted(32)), {0: 1}, {31: 128}}
	for seed := range uint32(3) {
		list = append(list, [32]byte(noise(32, seed)))
	}
	return list
}

func someNonces() [][12]byte {
	list := [][12]byte{{}, [12]byte(ones(12)), [12]byte(counted(12)), {0: 1}, {11: 128}}
	for seed := range uint32(3) {
		list = append(list, [12]byte(noise(12, 100+seed)))
	}
	return list
}

// noiseKey and noiseNonce are those of which the known answers were made, too.
var (
	noiseKey   = [32]byte(noise(32, 1))
	noiseNonce = [12]byte(noise(12, 2))
)

// sizes are lengths of nothing, around the ends of blocks of 16 and of 64 bytes, and more.
var sizes = []int{0, 1, 2, 14, 15, 16, 17, 18, 30, 31, 32, 33, 34, 47, 48, 49, 62, 63, 64, 65, 66, 79, 80, 81, 112, 127, 128, 129, 191, 192, 193, 255, 256, 257, 1000}

// fewSizes are the edges among them.
var fewSizes = []int{0, 1, 15, 16, 17, 31, 32, 33, 63, 64, 65}

// wantOpened holds what is opened against a text.
func wantOpened(t *testing.T, key [32]byte, nonce [12]byte, header, sealed, text []byte) {
	t.Helper()
	got, e := aead.Open(key, nonce, header, sealed)
	if e != api.OK || !bytes.Equal(got, text) {
		t.Errorf("Open(%x, %x, %d bytes, %d bytes) = %x, %d, want %x", key, nonce, len(header), len(sealed), got, e, text)
	}
}

// wantRefused holds that an error, and nothing else, is told.
func wantRefused(t *testing.T, what string, want api.Errno, key [32]byte, nonce [12]byte, header, sealed []byte) {
	t.Helper()
	if got, e := aead.Open(key, nonce, header, sealed); e != want || len(got) > 0 {
		t.Errorf("%s: Open(%x, %x, %x, %x) = %x, %d, want nothing and %d", what, key, nonce, header, sealed, got, e, want)
	}
}

func TestTagSize(t *testing.T) {
	if aead.Tag != 16 {
		t.Errorf("Tag is %d, want 16", aead.Tag)
	}
}

// P7.1: what RFC 8439 seals and opens.
func TestKnownTexts(t *testing.T) {
	for _, c := range []struct{ key, nonce, header, text, want string }{
		{
			"808182838485868788898a8b8c8d8e8f909192939495969798999a9b9c9d9e9f", "070000004041424344454647", "50515253c0c1c2c3c4c5c6c7",
			"Ladies and Gentlemen of the class of '99: If I could offer you only one tip for the future, sunscreen would be it.",
			"d31a8d34648e60db7b86afbc53ef7ec2a4aded51296e08fea9e2b5a736ee62d63dbea45e8ca9671282fafb69da92728b1a71de0a9e060b2905d6a5b67ecd3b3692ddbd7f2d778b8c9803aee328091b58fab324e4fad675945585808b4831d7bc3ff4def08e4b7a9de576d26586cec64b61161ae10b594f09e26a7e902ecbd0600691",
		},
		{
			"1c9240a5eb55d38af333888604f6b5f0473917c1402b80099dca5cbc207075c0", "000000000102030405060708", "f33388860000000000004e91",
			"Internet-Drafts are draft documents valid for a maximum of six months and may be updated, replaced, or obsoleted by other documents at any time. It is inappropriate to use Internet-Drafts as reference material or to cite them other than as /\u201cwork in progress./\u201d",
			"64a0861575861af460f062c79be643bd5e805cfd345cf389f108670ac76c8cb24c6cfc18755d43eea09ee94e382d26b0bdb7b73c321b0100d4f03b7f355894cf332f830e710b97ce98c8a84abd0b948114ad176e008d33bd60f982b1ff37c8559797a06ef4f0ef61c186324e2b3506383606907b6a7c02b0f9f6157b53c867e4b9166c767b804d46a59b5216cde7a4e99040c5a40433225ee282a1b0a06c523eaf4534d7f83fa1155b0047718cbc546a0d072b04b3564eea1b422273f548271a0bb2316053fa76991955ebd63159434ecebb4e466dae5a1073a6727627097a1049e617d91d361094fa68f0ff77987130305beaba2eda04df997b714d6c6f2c29a6ad5cb4022b02709beead9d67890cbb22392336fea1851f38",
		},
	} {
		key, nonce, header := [32]byte(unhex(t, c.key)), [12]byte(unhex(t, c.nonce)), unhex(t, c.header)
		sealed := aead.Seal(key, nonce, header, []byte(c.text))
		if h := hex.EncodeToString(sealed); h != c.want {
			t.Errorf("Seal of %q = %s, want %s", c.text, h, c.want)
		}
		wantOpened(t, key, nonce, header, unhex(t, c.want), []byte(c.text))
	}
}

// P7.1: sealed bytes that are known, of keys and nonces of 0, of all ones and counted, at the edges of a block of 16: headers of all ones, texts of noughts.
func TestKnownEdges(t *testing.T) {
	nought, all := string(make([]byte, 32)), string(ones(32))
	for _, c := range []struct {
		key, nonce   string
		header, text int
		want         string
	}{
		{nought, nought, 0, 0, "4eb972c9a8fb3a1b382bb4d36f5ffad1"},
		{nought, nought, 0, 1, "9fbedcfd1809ff3c10adf8277fcc0581b8"},
		{nought, nought, 1, 0, "3018b5c41677a3ef0c25fe939fdde7eb"},
		{nought, nought, 1, 1, "9fabec0d7ac6261232a8c4030ee5f73c0d"},
		{nought, nought, 15, 16, "9f07e7be5551387a98ba977c732d080d91d78a5be430357c102a124c9a846ec1"},
		{nought, nought, 16, 15, "9f07e7be5551387a98ba977c732d08cc373cd07046c4af9ded35d1f367d264"},
		{nought, nought, 16, 16, "9f07e7be5551387a98ba977c732d080d5909d3d84a23bc585d4608e76347b63f"},
		{nought, nought, 17, 33, "9f07e7be5551387a98ba977c732d080dcb0f29a048e3656912c6533e32ee7aed298c2e3211eeb82ea13eefdf424b0543e5"},
		{all, all, 0, 0, "0b5528ab3ff425fbf1fce9fcfb979029"},
		{all, all, 0, 1, "dd6e920f0e0d16ae6878967a5b609c42cd"},
		{all, all, 1, 0, "1025d66e5d7faeff7ce9d831679832cd"},
		{all, all, 1, 1, "dd95eb08395e4bfd61c26ee7fb149c9217"},
		{all, all, 15, 16, "dd27403cec1ebe4296d37d313887a4d6d900d2cdb8bda6fbfab365d91266feec"},
		{all, all, 16, 15, "dd27403cec1ebe4296d37d313887a4419359070e6946fd07d0bf84174c8ae9"},
		{all, all, 16, 16, "dd27403cec1ebe4296d37d313887a4d66a6529f809d4d6ec9ad43a2406d7a71b"},
		{all, all, 17, 33, "dd27403cec1ebe4296d37d313887a4d6a072251f72443b65d214aba1075c6acb27623bdcf01cba307d114d31a8e2ece5fd"},
		{nought, all, 0, 0, "844067f84066225b13c728bf4ce95d8a"},
		{nought, all, 17, 33, "bece28efa4d7461f55093eaf4330c907d85cfc6956899314a4e2a6fd85e0ddd7ccb325b745e91cc382fc337e2e597eb1a9"},
		{all, nought, 0, 0, "eb7fe24757f00cb3669ffc0074a36bcb"},
		{all, nought, 17, 33, "2f8b53541ed20ddaa5dea1b78f1fc08446de1f93b0e07080f7f2ee9be681e43ff251a31ff6352105873f7f59c9e28b81f3"},
		{string(counted(32)), string(counted(12)), 0, 0, "295a498b8841a1c5f55d4d606f731159"},
		{string(counted(32)), string(counted(12)), 17, 33, "89fb08002917a540b7833ff3981d0e63c970b2e75174adb9e6972fc575c0a63cece534aaa41a3db03ed67ddf4d6b1fcd09"},
	} {
		key, nonce := [32]byte([]byte(c.key)), [12]byte([]byte(c.nonce[:12]))
		header, text := ones(c.header), make([]byte, c.text)
		if h := hex.EncodeToString(aead.Seal(key, nonce, header, text)); h != c.want {
			t.Errorf("Seal(%x, %x, %d, %d bytes) = %s, want %s", key, nonce, c.header, c.text, h, c.want)
		}
		wantOpened(t, key, nonce, header, unhex(t, c.want), text)
	}
}

// P7.1: headers and texts of each size with each, against the words and against the known SHA-256 of all that is sealed.
func TestSizes(t *testing.T) {
	all := sha256.New()
	for _, headerSize := range sizes {
		for _, textSize := range sizes {
			header, text := noise(headerSize, 3), noise(textSize, 4)
			sealed := aead.Seal(noiseKey, noiseNonce, header, text)
			if want := plainSeal(noiseKey, noiseNonce, header, text); !bytes.Equal(sealed, want) {
				t.Errorf("Seal of %d and %d bytes = %x, want %x", headerSize, textSize, sealed, want)
			}
			wantOpened(t, noiseKey, noiseNonce, header, sealed, text)
			all.Write(sealed)
		}
	}
	if h := hex.EncodeToString(all.Sum(nil)); h != "ca8e8bc28316ad5825076b9f00c853796aeae99660e4061b07271c26a05d4bb6" {
		t.Errorf("all that is sealed has the SHA-256 %s", h)
	}
}

// P7.1: many bytes, so that lengths have several bytes of their own, by the known SHA-256 of what is sealed.
func TestManyBytes(t *testing.T) {
	for _, c := range []struct {
		header, text int
		want         string
	}{
		{0, 1 << 16, "c72e094dca9859e13d039dc0a65f8c02f4d7829304c5e7c3cd46dd3840922189"},
		{1 << 16, 0, "1159680b611dc2337535e059835bf715f6414109995cb98647bcc9f6cceef461"},
		{1<<16 + 1, 3, "ff987b2aa4284bcd8b8990d719b98f46a3bac673efe107f79b90aedcb1bd1eef"},
		{5, 1 << 20, "83b529f82c06baee2167b005f691f4fdde5280c95b149090f8ba91d001fe1b92"},
		{1 << 20, 1 << 18, "7f9f01ed5ece7e4475ca353d5dd6a953d408a4ff66daf5145111e93ce740610e"},
	} {
		header, text := noise(c.header, 3), noise(c.text, 4)
		sealed := aead.Seal(noiseKey, noiseNonce, header, text)
		sum := sha256.Sum256(sealed)
		if h := hex.EncodeToString(sum[:]); h != c.want {
			t.Errorf("what is sealed of %d and %d bytes has the SHA-256 %s, want %s", c.header, c.text, h, c.want)
		}
		got, e := aead.Open(noiseKey, noiseNonce, header, sealed)
		if e != api.OK || !bytes.Equal(got, text) {
			t.Errorf("Open of %d and %d bytes: %d", c.header, c.text, e)
		}
	}
}

// P7.1: keys and nonces at the edges and of noise, against the words; what is sealed under one is opened under no other.
func TestKeysAndNonces(t *testing.T) {
	header, text := noise(21, 5), noise(70, 6)
	for _, key := range someKeys() {
		for _, nonce := range someNonces() {
			sealed := aead.Seal(key, nonce, header, text)
			if want := plainSeal(key, nonce, header, text); !bytes.Equal(sealed, want) {
				t.Errorf("Seal(%x, %x, ..) = %x, want %x", key, nonce, sealed, want)
			}
			for _, otherKey := range someKeys() {
				for _, otherNonce := range someNonces() {
					if otherKey == key && otherNonce == nonce {
						wantOpened(t, key, nonce, header, sealed, text)
						continue
					}
					wantRefused(t, "another key or nonce", api.ErrSeal, otherKey, otherNonce, header, sealed)
				}
			}
		}
	}
}

// P7.2: what was sealed is opened: all sizes up to some, keys, nonces, headers and texts without a pattern, of noughts and of all ones.
func TestSealedIsOpened(t *testing.T) {
	for size := range uint32(300) {
		key, nonce := [32]byte(noise(32, 7*size)), [12]byte(noise(12, 7*size+1))
		n := int(size)
		for _, header := range [][]byte{nil, noise(n, size), make([]byte, n), ones(n), noise(300-n, size)} {
			for _, text := range [][]byte{nil, noise(n, size+9), make([]byte, n), ones(n)} {
				sealed := aead.Seal(key, nonce, header, text)
				if len(sealed) != len(text)+aead.Tag {
					t.Fatalf("of %d bytes %d are sealed", len(text), len(sealed))
				}
				wantOpened(t, key, nonce, header, sealed, text)
			}
		}
	}
}

// P7.2: what was sealed may be sealed again, and is opened twice.
func TestSealedTwice(t *testing.T) {
	key, other := [32]byte(counted(32)), [32]byte(ones(32))
	text := noise(40, 10)
	first := aead.Seal(key, noiseNonce, nil, text)
	second := aead.Seal(other, noiseNonce, first, first)
	wantOpened(t, other, noiseNonce, first, second, first)
	wantOpened(t, key, noiseNonce, nil, first, text)
	wantRefused(t, "the outer one under the inner key", api.ErrSeal, key, noiseNonce, first, second)
}

// P7.1: fewer than 16 bytes are ErrShort, whatever they are, the beginning of what was sealed and all of a tag but a byte too; 16 are not.
func TestShort(t *testing.T) {
	for _, header := range [][]byte{nil, noise(1, 11), noise(16, 11), noise(100, 11)} {
		for _, textSize := range fewSizes {
			sealed := aead.Seal(noiseKey, noiseNonce, header, noise(textSize, 12))
			for size := range aead.Tag {
				wantRefused(t, "the beginning", api.ErrShort, noiseKey, noiseNonce, header, sealed[:size])
				wantRefused(t, "the end", api.ErrShort, noiseKey, noiseNonce, header, sealed[len(sealed)-size:])
				wantRefused(t, "noughts", api.ErrShort, noiseKey, noiseNonce, header, make([]byte, size))
			}
			wantRefused(t, "nil", api.ErrShort, noiseKey, noiseNonce, header, nil)
			wantRefused(t, "bytes of nothing", api.ErrShort, noiseKey, noiseNonce, header, []byte{})
			wantRefused(t, "16 noughts", api.ErrSeal, noiseKey, noiseNonce, header, make([]byte, 16))
		}
	}
}

// P7.1: 16 bytes are a tag with no text: the right one is opened as nothing, others are not.
func TestTagAlone(t *testing.T) {
	for _, key := range someKeys() {
		for _, headerSize := range fewSizes {
			header := noise(headerSize, 13)
			sealed := aead.Seal(key, noiseNonce, header, nil)
			if len(sealed) != aead.Tag {
				t.Errorf("of no text %d bytes are sealed", len(sealed))
			}
			wantOpened(t, key, noiseNonce, header, sealed, nil)
			for bit := range 8 * aead.Tag {
				wantRefused(t, "a tag alone, turned", api.ErrSeal, key, noiseNonce, header, turned(sealed, bit))
			}
		}
	}
}

// P7.1: each bit of what is sealed, of the tag and of the text, turned.
func TestSealedTurned(t *testing.T) {
	for _, headerSize := range []int{0, 1, 16, 33} {
		header := noise(headerSize, 14)
		for _, textSize := range fewSizes {
			sealed := aead.Seal(noiseKey, noiseNonce, header, noise(textSize, 15))
			for bit := range 8 * len(sealed) {
				wantRefused(t, "sealed bytes, turned", api.ErrSeal, noiseKey, noiseNonce, header, turned(sealed, bit))
			}
		}
	}
}

// P7.1: each byte of a tag at each other value; two bytes that are changed alike; the tag of another text, exchanged halves, and noughts.
func TestOtherTags(t *testing.T) {
	header, text := noise(9, 16), noise(20, 17)
	sealed := aead.Seal(noiseKey, noiseNonce, header, text)
	body, tag := sealed[:20], sealed[20:]
	refuse := func(what string, other []byte) {
		t.Helper()
		wantRefused(t, what, api.ErrSeal, noiseKey, noiseNonce, header, slices.Concat(body, other))
	}
	for at := range tag {
		for by := 1; by < 256; by++ {
			other := slices.Clone(tag)
			other[at] ^= byte(by)
			refuse("another byte", other)
		}
		for to := range at {
			other := slices.Clone(tag)
			other[at] ^= 0x80
			other[to] ^= 0x80
			refuse("two bytes", other)
		}
	}
	refuse("noughts", make([]byte, 16))
	refuse("all ones", ones(16))
	refuse("halves exchanged", slices.Concat(tag[8:], tag[:8]))
	refuse("the tag of nothing", aead.Seal(noiseKey, noiseNonce, header, nil))
	refuse("another text's", aead.Seal(noiseKey, noiseNonce, header, noise(20, 18))[20:])
	wantOpened(t, noiseKey, noiseNonce, header, sealed, text)
}

// P7.1: each bit of the header, of the key and of the nonce turned.
func TestOthersTurned(t *testing.T) {
	for _, textSize := range []int{0, 1, 16, 65} {
		for _, headerSize := range fewSizes {
			header := noise(headerSize, 19)
			sealed := aead.Seal(noiseKey, noiseNonce, header, noise(textSize, 20))
			for bit := range 8 * headerSize {
				wantRefused(t, "the header, turned", api.ErrSeal, noiseKey, noiseNonce, turned(header, bit), sealed)
			}
			for bit := range 8 * len(noiseKey) {
				wantRefused(t, "the key, turned", api.ErrSeal, [32]byte(turned(noiseKey[:], bit)), noiseNonce, header, sealed)
			}
			for bit := range 8 * len(noiseNonce) {
				wantRefused(t, "the nonce, turned", api.ErrSeal, noiseKey, [12]byte(turned(noiseNonce[:], bit)), header, sealed)
			}
		}
	}
}

// P7.1: what is sealed, with bytes more or fewer, ahead or behind, and in another order.
func TestSealedCut(t *testing.T) {
	header, text := noise(18, 21), noise(80, 22)
	sealed := aead.Seal(noiseKey, noiseNonce, header, text)
	refuse := func(what string, other []byte) {
		t.Helper()
		wantRefused(t, what, api.ErrSeal, noiseKey, noiseNonce, header, other)
	}
	for count := 1; count <= len(text); count++ {
		refuse("cut behind", sealed[:len(sealed)-count])
		refuse("cut ahead", sealed[count:])
		refuse("noughts behind", slices.Concat(sealed, make([]byte, count)))
		refuse("noughts ahead", slices.Concat(make([]byte, count), sealed))
		refuse("noughts ahead of the tag", slices.Concat(sealed[:80], make([]byte, count), sealed[80:]))
		refuse("cut ahead of the tag", slices.Concat(sealed[:80-count], sealed[80:]))
	}
	refuse("blocks exchanged", slices.Concat(sealed[16:32], sealed[:16], sealed[32:]))
	refuse("the tag ahead", slices.Concat(sealed[80:], sealed[:80]))
	refuse("the text itself", slices.Concat(text, sealed[80:]))
	refuse("twice", slices.Concat(sealed, sealed))
}

// P7.1: noughts behind a header, or behind a sealed text, make it another, though a block is filled with them.
func TestNoughtsBehind(t *testing.T) {
	for _, size := range fewSizes {
		for noughts := 1; noughts <= 33; noughts++ {
			header, text, more := noise(size, 23), noise(20, 24), make([]byte, noughts)
			longer := slices.Concat(header, more)
			sealed := aead.Seal(noiseKey, noiseNonce, header, text)
			other := aead.Seal(noiseKey, noiseNonce, longer, text)
			if !bytes.Equal(sealed[:20], other[:20]) || bytes.Equal(sealed, other) {
				t.Errorf("headers of %d bytes, and %d noughts: %x and %x", size, noughts, sealed, other)
			}
			wantRefused(t, "noughts more", api.ErrSeal, noiseKey, noiseNonce, longer, sealed)
			wantRefused(t, "noughts fewer", api.ErrSeal, noiseKey, noiseNonce, header, other)

			sealed = aead.Seal(noiseKey, noiseNonce, nil, header)
			body, tag := sealed[:size], sealed[size:]
			wantRefused(t, "noughts behind a sealed text", api.ErrSeal, noiseKey, noiseNonce, nil, slices.Concat(body, more, tag))
		}
	}
}

// P7.1: the same bytes, parted otherwise between the header and the sealed text, under the same tag; whole blocks that are moved differ by their lengths alone.
func TestBytesMoved(t *testing.T) {
	const total = 96
	for at := range total + 1 {
		header := noise(at, 25)
		sealed := aead.Seal(noiseKey, noiseNonce, header, noise(total-at, 26))
		tag := sealed[total-at:]
		row := slices.Concat(header, sealed[:total-at])
		for other := range total + 1 {
			if other == at {
				continue
			}
			wantRefused(t, "bytes moved", api.ErrSeal, noiseKey, noiseNonce, row[:other], slices.Concat(row[other:], tag))
		}
	}
}

// P7.1: a header and a text exchanged, each alone and both, are sealed otherwise.
func TestToldApart(t *testing.T) {
	seen := map[string][2]string{}
	for _, headerSize := range sizes[:20] {
		for _, textSize := range sizes[:20] {
			for _, c := range [][2][]byte{{noise(headerSize, 27), noise(textSize, 28)}, {noise(headerSize, 28), noise(textSize, 27)}, {make([]byte, headerSize), make([]byte, textSize)}} {
				now := [2]string{string(c[0]), string(c[1])}
				sealed := string(aead.Seal(noiseKey, noiseNonce, c[0], c[1]))
				if other, ok := seen[sealed]; ok && other != now {
					t.Errorf("%x and %x are sealed alike", now, other)
				}
				seen[sealed] = now
			}
		}
	}
}

// Nil and bytes of nothing are the same.
func TestNil(t *testing.T) {
	nothings := [][]byte{nil, {}, noise(9, 1)[:0], noise(9, 1)[9:]}
	for _, nothing := range nothings {
		for _, other := range nothings {
			sealed := aead.Seal(noiseKey, noiseNonce, nothing, other)
			if want := aead.Seal(noiseKey, noiseNonce, nil, nil); !bytes.Equal(sealed, want) {
				t.Errorf("Seal of nothing = %x, want %x", sealed, want)
			}
			wantOpened(t, noiseKey, noiseNonce, other, sealed, nil)
		}
		text := noise(30, 29)
		if !bytes.Equal(aead.Seal(noiseKey, noiseNonce, nothing, text), aead.Seal(noiseKey, noiseNonce, nil, text)) {
			t.Error("no header is not always the same")
		}
	}
}

// roomy is bytes with noise behind their end, and all of that room.
func roomy(b []byte) (part, room []byte) {
	room = slices.Concat(b, noise(100, 30))
	return room[:len(b)], room
}

// What is handed in stays as it was, the room behind its end too, which is not looked at either.
func TestArgumentsStay(t *testing.T) {
	key, nonce := noiseKey, noiseNonce
	for _, headerSize := range fewSizes {
		for _, textSize := range fewSizes {
			header, headerRoom := roomy(noise(headerSize, 31))
			text, textRoom := roomy(noise(textSize, 32))
			wantHeader, wantText := slices.Clone(headerRoom), slices.Clone(textRoom)
			want := plainSeal(key, nonce, noise(headerSize, 31), noise(textSize, 32))
			if got := aead.Seal(key, nonce, header, text); !bytes.Equal(got, want) {
				t.Errorf("Seal of %d and %d bytes of more = %x, want %x", headerSize, textSize, got, want)
			}
			for _, bit := range []int{0, 8*len(want) - 1, -1} {
				sealed, sealedRoom := roomy(want)
				if bit >= 0 {
					sealed[bit/8] ^= 1 << (bit % 8)
				}
				wantSealed := slices.Clone(sealedRoom)
				aead.Open(key, nonce, header, sealed)
				aead.Open(key, nonce, header, sealed[:min(15, len(sealed))])
				if !bytes.Equal(sealedRoom, wantSealed) {
					t.Errorf("of %d sealed bytes some were changed", len(sealed))
				}
			}
			if !bytes.Equal(headerRoom, wantHeader) || !bytes.Equal(textRoom, wantText) {
				t.Errorf("of %d and %d bytes some were changed", headerSize, textSize)
			}
		}
	}
	if key != [32]byte(noise(32, 1)) || nonce != [12]byte(noise(12, 2)) {
		t.Error("a key or a nonce was changed")
	}
}

// spoil overwrites all of a list's memory, its spare room too.
func spoil(b []byte) {
	all := b[:cap(b)]
	for i := range all {
		all[i] ^= 0xa5
	}
}

// An answer is new memory: what becomes of it, or of its spare room, is not seen in an argument or in another answer, nor the other way.
func TestAnswersAreNew(t *testing.T) {
	for _, size := range fewSizes {
		header, headerRoom := roomy(noise(size, 33))
		text, textRoom := roomy(noise(size, 34))
		wantHeader, wantText := slices.Clone(headerRoom), slices.Clone(textRoom)
		first, second := aead.Seal(noiseKey, noiseNonce, header, text), aead.Seal(noiseKey, noiseNonce, header, text)
		want := slices.Clone(second)
		spoil(first)
		if !bytes.Equal(second, want) || !bytes.Equal(headerRoom, wantHeader) || !bytes.Equal(textRoom, wantText) {
			t.Errorf("of %d bytes: what is sealed shares memory", size)
		}
		sealed, sealedRoom := roomy(want)
		wantSealed := slices.Clone(sealedRoom)
		one, _ := aead.Open(noiseKey, noiseNonce, header, sealed)
		other, _ := aead.Open(noiseKey, noiseNonce, header, sealed)
		spoil(one)
		if !bytes.Equal(other, text) || !bytes.Equal(headerRoom, wantHeader) || !bytes.Equal(sealedRoom, wantSealed) {
			t.Errorf("of %d bytes: what is opened shares memory", size)
		}
		wantOther := slices.Clone(other)
		spoil(headerRoom)
		spoil(textRoom)
		spoil(sealedRoom)
		if !bytes.Equal(second, want) || !bytes.Equal(other, wantOther) {
			t.Errorf("of %d bytes: an answer changes with an argument", size)
		}
	}
}

// A header and a text may be the same memory, or lie across each other.
func TestArgumentsShared(t *testing.T) {
	row := noise(120, 35)
	for _, c := range [][4]int{{0, 40, 0, 40}, {0, 40, 20, 60}, {20, 60, 0, 40}, {0, 33, 33, 66}, {5, 5, 0, 17}} {
		header, text := row[c[0]:c[1]], row[c[2]:c[3]]
		want := plainSeal(noiseKey, noiseNonce, slices.Clone(header), slices.Clone(text))
		if got := aead.Seal(noiseKey, noiseNonce, header, text); !bytes.Equal(got, want) {
			t.Errorf("Seal of shared bytes %v = %x, want %x", c, got, want)
		}
	}
	if !bytes.Equal(row, noise(120, 35)) {
		t.Error("shared bytes were changed")
	}
	header := noise(16, 36)
	room := slices.Concat(header, aead.Seal(noiseKey, noiseNonce, header, row))
	wantOpened(t, noiseKey, noiseNonce, room[:16], room[16:], row)
}

// Answers are the same each time, whatever was asked between, an opening that was refused too.
func TestAnswersStay(t *testing.T) {
	header, text := noise(30, 37), noise(90, 38)
	want := aead.Seal(noiseKey, noiseNonce, header, text)
	for _, key := range someKeys() {
		other := aead.Seal(key, [12]byte{}, text, header)
		aead.Open(key, [12]byte{}, text, other)
		aead.Open(key, noiseNonce, text, other)
		aead.Open(key, noiseNonce, text, other[:3])
		if got := aead.Seal(noiseKey, noiseNonce, header, text); !bytes.Equal(got, want) {
			t.Errorf("Seal is another the second time: %x, want %x", got, want)
		}
		wantOpened(t, noiseKey, noiseNonce, header, want, text)
	}
}
