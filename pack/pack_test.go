package pack_test

import (
	"bytes"
	"math"
	"math/bits"
	"math/rand"
	"slices"
	"strconv"
	"strings"
	"sync"
	"testing"

	"portmanteau/api"
	"portmanteau/coder"
	"portmanteau/match"
	"portmanteau/octet"
	"portmanteau/pack"
)

const (
	most       = 1 << 16
	mostWindow = 1 << 15
	mostLength = 258
)

// plain has chances by what they are of, and all bytes that were told.
type plain struct {
	kinds, lengths, backs []coder.Chance
	literals              [][]coder.Chance
	kind                  int
	b                     []byte
}

func newPlain() *plain {
	p := &plain{kinds: coder.Chances(2), lengths: coder.Chances(256), backs: coder.Chances(16)}
	for range 8 {
		p.literals = append(p.literals, coder.Chances(256))
	}
	return p
}

// upper is the upper 3 bits of the byte ahead.
func (p *plain) upper() int {
	if len(p.b) == 0 {
		return 0
	}
	return int(p.b[len(p.b)-1]) / 32
}

// pass goes past a token.
func (p *plain) pass(t match.Token) {
	p.kind = min(t.Length, 1)
	if t.Length == 0 {
		p.b = append(p.b, t.Lit)
	}
	for range t.Length {
		x := byte(0)
		if t.Back <= len(p.b) {
			x = p.b[len(p.b)-t.Back]
		}
		p.b = append(p.b, x)
	}
}

// plainWrite is what a coder tells of tokens, as the document's words tell it.
func plainWrite(l []match.Token) []byte {
	w, p := coder.Begin(), newPlain()
	for _, t := range l {
		if !match.Right(t) {
			continue
		}
		if t.Length == 0 {
			w.Bit(&p.kinds[p.kind], 0)
			w.Tree(p.literals[p.upper()], int(t.Lit), 8)
		} else {
			w.Bit(&p.kinds[p.kind], 1)
			w.Tree(p.lengths, t.Length-3, 8)
			n := bits.Len(uint(t.Back - 1))
			w.Tree(p.backs, n, 4)
			if n > 1 {
				w.Even(t.Back-1-1<<(n-1), n-1)
			}
		}
		p.pass(t)
	}
	return w.End()
}

// plainToken takes a token.
func plainToken(r *coder.Reader, p *plain) match.Token {
	if r.Bit(&p.kinds[p.kind]) == 0 {
		return match.Token{Lit: byte(r.Tree(p.literals[p.upper()], 8))}
	}
	t := match.Token{Length: 3 + r.Tree(p.lengths, 8), Back: 1}
	if n := r.Tree(p.backs, 4); n > 0 {
		t.Back += 1<<(n-1) + r.Even(n-1)
	}
	return t
}

// plainRead is tokens, as the document's words tell it.
func plainRead(x []byte, n int) ([]match.Token, api.Errno) {
	if n < 0 || n > most {
		return nil, api.ErrArg
	}
	r, p := coder.Open(x), newPlain()
	var l []match.Token
	for len(p.b) < n {
		t := plainToken(r, p)
		if !match.Right(t) || t.Back > len(p.b) {
			return nil, api.ErrForm
		}
		p.pass(t)
		if len(p.b) > n {
			return nil, api.ErrForm
		}
		l = append(l, t)
	}
	if r.Err() != api.OK {
		return nil, r.Err()
	}
	if r.Left() > 0 {
		return nil, api.ErrMore
	}
	return l, api.OK
}

// short is bytes for messages.
func short(b []byte) string {
	return strconv.Itoa(len(b)) + " bytes " + strconv.Quote(string(b[:min(len(b), 24)]))
}

func lit(s string) []match.Token {
	var l []match.Token
	for i := range len(s) {
		l = append(l, match.Token{Lit: s[i]})
	}
	return l
}

func copied(length, back int) match.Token { return match.Token{Length: length, Back: back} }

// row is literals, and matches behind them.
func row(s string, l ...match.Token) []match.Token { return append(lit(s), l...) }

// far is tokens of which the last one reaches as far back as may be.
func far(back int) []match.Token {
	l := row("a", slices.Repeat([]match.Token{copied(258, 1)}, 128)...)
	return append(l, copied(3, back))
}

func random(r *rand.Rand, n, letters int) []byte {
	b := make([]byte, n)
	for i := range b {
		b[i] = byte(r.Intn(letters) * 256 / letters)
	}
	return b
}

// rows of bytes, ordinary and at the edges.
func rows() [][]byte {
	r := rand.New(rand.NewSource(1))
	var all []byte
	for i := range 256 {
		all = append(all, byte(i), byte(i*167), byte(255-i))
	}
	l := [][]byte{
		nil, {0}, {255}, []byte("a"), []byte("abcabcabcabcd"), []byte("aaaa"), all, slices.Repeat(all, 3),
		[]byte(strings.Repeat("to pack is to fold, to unpack is to unfold; ", 40)),
		bytes.Repeat([]byte{0}, 259), bytes.Repeat([]byte{255}, 5000), bytes.Repeat([]byte("xyz"), 3000),
		append(append([]byte("far away"), random(r, mostWindow-8, 256)...), "far away"...),
	}
	for _, n := range []int{1, 2, 3, 4, 17, 300, 3000} {
		for _, letters := range []int{1, 2, 4, 9, 256} {
			l = append(l, random(r, n, letters))
		}
	}
	return l
}

// tokens are rows of tokens that may be, most of them with a byte for each match.
func tokens() [][]match.Token {
	l := [][]match.Token{
		nil, lit("a"), lit("\x00"), lit("\xff"), lit("ab\x7f\x80\xff\x00"), row("a", copied(3, 1)), row("a", copied(258, 1)),
		row("ab", copied(3, 2), copied(4, 1)), row("abc", copied(258, 3), copied(3, 2), copied(3, 256), copied(3, 257)),
		row("\xe0", copied(7, 1)), append(row("a\xe0", copied(3, 2)), lit("b\xff")...),
		far(mostWindow), far(mostWindow - 1), far(mostWindow / 2), far(mostWindow/2 + 1), far(1),
	}
	for _, b := range rows() {
		for _, window := range []int{1, 2, 3, 100, mostWindow} {
			l = append(l, match.Parse(b, window))
		}
	}
	r := rand.New(rand.NewSource(2))
	for range 60 {
		one := lit(string(random(r, 1+r.Intn(9), 256)))
		for n := match.Size(one); len(one) < 300 && n < most-2*mostLength; n = match.Size(one) {
			one = append(one, copied(3+r.Intn(256)>>r.Intn(9), 1+r.Intn(min(n, mostWindow))))
			one = append(one, lit(string(random(r, r.Intn(3), 256)))...)
		}
		l = append(l, one)
	}
	return l
}

// P11.1, P11.2: what is told of few tokens is known.
func TestKnown(t *testing.T) {
	for _, x := range []struct {
		what string
		l    []match.Token
		b    string
	}{
		{"no tokens", nil, "\x00\x00\x00\x00"},
		{"a byte 0", lit("\x00"), "\x00\x00\x00\x00\x00"},
		{"a byte 255", lit("\xff"), "\x7f\x7f\xfc\x00\x00"},
		{"a letter", lit("a"), "\x30\x7f\xfc\x00\x00"},
		{"two letters", lit("ab"), "\x30\x99\x40\x00\x00\x00"},
		{"a long match", row("x", copied(258, 1)), "\x3c\x7f\xbe\x00\x00\x00"},
		{"a short match", row("x", copied(3, 1)), "\x3c\x41\xfc\x00\x00\x00"},
		{"a match two back", row("ab", copied(4, 2)), "\x30\x99\x63\x28\xa7\x80\x00"},
		{"a match three back", row("abc", copied(9, 3)), "\x30\x99\x4d\xd8\x71\xa9\xd5\x00\x00"},
		{"literals behind a match", append(row("a\xe0", copied(3, 2)), lit("bc")...), "\x30\xb9\xdf\x0a\x0b\x8f\xd6\xa8\xe0\x00"},
		{"two matches", append(row("a", copied(258, 1), copied(3, 200)), lit("b")...), "\x30\xff\xbf\xf1\x07\xef\xf6\x7e\x00\x00"},
		{"a far match", far(mostWindow), "\x30\xff\xc1\xdd\xb2\x41\x65\xe5\x35\x4a\xe5\x84\xdb\xf3\x8a\xcd\x48\xf7\xc0\xd5\xd3\x70\x2b\x8a\x44\x32\xc3\x26\x01\x1a\xa3\x29\x49\x08\x47\x7c\xf9\x8c\x8d\x98\x88\xb1\x15\x4a\x6d\xcf\xaa\xc4\x7a\x65\xfb\x2a\xe0\x00"},
	} {
		if b := pack.Write(x.l); string(b) != x.b {
			t.Error(x.what+":", short(b))
		}
		if l, e := pack.Read([]byte(x.b), match.Size(x.l)); !slices.Equal(l, x.l) || e != api.OK {
			t.Error(x.what+": Read", len(l), e)
		}
	}
}

// P11.1: no bytes, packed: 0, and four noughts; of others their number, and what a coder tells.
func TestPackKnown(t *testing.T) {
	for _, x := range []struct{ b, packed string }{
		{"", "\x00\x00\x00\x00\x00"},
		{"a", "\x01\x30\x7f\xfc\x00\x00"},
		{"abab" + "ab", "\x06\x30\x99\x63\x28\xa7\x80\x00"},
		{strings.Repeat("x", 259), "\x83\x02\x3c\x7f\xbe\x00\x00\x00"},
	} {
		if b, e := pack.Pack([]byte(x.b), mostWindow); string(b) != x.packed || e != api.OK {
			t.Error(len(x.b), short(b), e)
		}
		if b, e := pack.Unpack([]byte(x.packed)); string(b) != x.b || e != api.OK {
			t.Error("Unpack:", len(x.b), short(b), e)
		}
	}
}

// P11.1 to P11.3: what is written of tokens is as the words have it, and is read again; each beginning of it, and what is longer, isn't.
func TestTokens(t *testing.T) {
	for i, l := range tokens() {
		x, n := pack.Write(l), match.Size(l)
		if p := plainWrite(l); !bytes.Equal(x, p) {
			t.Fatal("Write", i, short(x), "not", short(p))
		}
		if k, e := pack.Read(x, n); !slices.Equal(k, l) || e != api.OK {
			t.Fatal("Read", i, len(k), e)
		}
		for more := range 3 {
			if k, e := pack.Read(append(slices.Clone(x), make([]byte, 1+more)...), n); k != nil || e != api.ErrMore {
				t.Fatal("more", i, more, len(k), e)
			}
		}
		for less := 1; less <= len(x); less += 1 + len(x)/8 {
			begin := x[:len(x)-less]
			k, e := pack.Read(begin, n)
			if _, p := plainRead(begin, n); k != nil || e != p || e != api.ErrShort && e != api.ErrForm {
				t.Fatal("less", i, less, len(k), e)
			}
		}
	}
}

// P11.1: tokens that may not be are left out, as if they were not there.
func TestLeftOut(t *testing.T) {
	wrong := []match.Token{
		{Lit: 1, Length: 3, Back: 1}, {Lit: 'a', Back: 1}, {Back: -1}, {Length: 1, Back: 1}, {Length: 2, Back: 1}, {Length: -1, Back: 1}, {Length: 259, Back: 1},
		{Length: 3}, {Length: 3, Back: -1}, {Length: 3, Back: mostWindow + 1}, {Length: math.MaxInt, Back: 1}, {Length: math.MinInt, Back: 1},
		{Length: 3, Back: math.MaxInt}, {Length: 3, Back: math.MinInt}, {Lit: 255, Length: math.MinInt, Back: math.MinInt}, {Length: 3 + 1<<32, Back: 1}, {Length: 3, Back: 1 + 1<<32},
	}
	if x := pack.Write(wrong); string(x) != "\x00\x00\x00\x00" {
		t.Error("of none that may be:", short(x))
	}
	for i, l := range tokens() {
		if len(l) > 400 {
			continue
		}
		var mixed []match.Token
		for k, x := range l {
			mixed = append(mixed, wrong[(i+k)%len(wrong)], x)
		}
		mixed = append(mixed, wrong[i%len(wrong)])
		if x, p := pack.Write(mixed), pack.Write(l); !bytes.Equal(x, p) {
			t.Error(i, short(x), "not", short(p))
		}
	}
}

// P11.1: tokens may be more than a segment has, and reach ahead of the beginning; but they are not read.
func TestWriteOnly(t *testing.T) {
	long := row("a", slices.Repeat([]match.Token{copied(258, 1), copied(257, 5), {Lit: 'x'}}, 400)...)
	for i, l := range [][]match.Token{long, {copied(3, 1)}, row("\xff", copied(3, 2), match.Token{Lit: 'b'}), row("abc", copied(3, 4), copied(9, mostWindow), copied(5, 3))} {
		x := pack.Write(l)
		if p := plainWrite(l); !bytes.Equal(x, p) {
			t.Error(i, short(x), "not", short(p))
		}
		if k, e := pack.Read(x, min(match.Size(l), most)); k != nil || e != api.ErrForm {
			t.Error("Read", i, len(k), e)
		}
	}
}

// P11.1, P11.3: what was packed is unpacked, in any window; and what is packed is its number, and its tokens.
func TestPacked(t *testing.T) {
	for i, b := range rows() {
		for _, window := range []int{1, 2, 3, 100, 4096, mostWindow - 1, mostWindow} {
			x, e := pack.Pack(b, window)
			p := slices.Concat(octet.Number(nil, len(b)), plainWrite(match.Parse(b, window)))
			if e != api.OK || !bytes.Equal(x, p) {
				t.Fatal("Pack", i, window, short(x), e)
			}
			if y, e := pack.Unpack(x); e != api.OK || !bytes.Equal(y, b) {
				t.Fatal("Unpack", i, window, short(y), e)
			}
		}
	}
}

// P11.1, P11.3: 2^16 bytes are packed, and what is alike takes little room; one more is too much.
func TestMost(t *testing.T) {
	r := rand.New(rand.NewSource(3))
	for i, x := range []struct {
		b    []byte
		room int
	}{
		{make([]byte, most), 300},
		{bytes.Repeat([]byte{255}, most), 300},
		{bytes.Repeat([]byte("0123456789"), most/10+1)[:most], 300},
		{random(r, most, 256), most + 3000},
		{random(r, most, 2), most / 8 * 2},
	} {
		for _, window := range []int{1, mostWindow} {
			p, e := pack.Pack(x.b, window)
			if e != api.OK || window > 1 && len(p) > x.room {
				t.Error("Pack", i, window, len(p), e)
			}
			if y, e := pack.Unpack(p); e != api.OK || !bytes.Equal(y, x.b) {
				t.Error("Unpack", i, window, len(y), e)
			}
		}
		if p, e := pack.Pack(append(x.b, 0), 1); p != nil || e != api.ErrLong {
			t.Error("one more", i, len(p), e)
		}
	}
}

// P11.1: a window that may not be goes ahead of too many bytes.
func TestPackWrong(t *testing.T) {
	for _, window := range []int{0, -1, mostWindow + 1, most, -mostWindow, math.MaxInt, math.MinInt, 1 << 32, 1<<32 + 1} {
		for _, n := range []int{0, 1, most, most + 1} {
			if x, e := pack.Pack(make([]byte, n), window); x != nil || e != api.ErrArg {
				t.Error(window, n, short(x), e)
			}
		}
	}
	for _, window := range []int{1, mostWindow} {
		for _, n := range []int{most + 1, 3 * most} {
			if x, e := pack.Pack(make([]byte, n), window); x != nil || e != api.ErrLong {
				t.Error(window, n, short(x), e)
			}
		}
	}
}

// P11.2: what is not to be read has its error.
func TestReadWrong(t *testing.T) {
	for i, x := range []struct {
		b string
		n int
		e api.Errno
	}{
		{"", -1, api.ErrArg}, {"\x00\x00\x00\x00", -1, api.ErrArg}, {"", most + 1, api.ErrArg}, {"\xff\xff\xff\xff", most + 1, api.ErrArg},
		{"", math.MaxInt, api.ErrArg}, {"", math.MinInt, api.ErrArg}, {"", 1 << 32, api.ErrArg}, {"", -most, api.ErrArg},
		{"", 0, api.ErrShort}, {"\xff", 0, api.ErrShort}, {"\xff\xff\xff", 0, api.ErrShort}, {"abcd", 0, api.OK}, {"\xff\xff\xff\xff", 0, api.OK},
		{"abcde", 0, api.ErrMore}, {"\xff\xff\xff\xff\xff", 0, api.ErrMore}, {"\x00\x00\x00\x00", 1, api.ErrShort}, {"\x00\x00\x00\x00\x00\x00", 1, api.ErrMore},
		{"", most, api.ErrShort}, {"", 1, api.ErrShort},
		// A match, that reaches ahead of the beginning: of whole bytes, too few, and too many.
		{"\xff\xff\xff\xff", 1, api.ErrForm}, {"\xff", 5, api.ErrForm}, {"\xff\xff\xff\xff" + "more, and still more", 5, api.ErrForm},
		{"\x80", most, api.ErrForm}, {"\xff\xff\xff\xff", most, api.ErrForm},
	} {
		if l, e := pack.Read([]byte(x.b), x.n); len(l) > 0 || e != x.e {
			t.Error(i, len(l), e)
		}
	}
	if l, e := pack.Read(nil, 0); l != nil || e != api.ErrShort {
		t.Error("nil", len(l), e)
	}
}

// P11.2: tokens that stand for more than n are amiss, be bytes missing or left too.
func TestBeyond(t *testing.T) {
	for _, l := range [][]match.Token{row("a", copied(3, 1)), row("a", copied(258, 1)), row("abc", copied(100, 3)), append(far(mostWindow), copied(258, 1))} {
		x, n := pack.Write(l), match.Size(l)
		last := l[len(l)-1].Length
		for _, less := range []int{1, 2, last - 1} {
			for _, b := range [][]byte{x, append(slices.Clone(x), 1), append(slices.Clone(x), "a few more"...)} {
				if k, e := pack.Read(b, n-less); k != nil || e != api.ErrForm {
					t.Error(n, less, len(b), len(k), e)
				}
			}
		}
		if k, e := pack.Read(x[:len(x)-1], n-1); n < most/4 && (k != nil || e != api.ErrForm) {
			t.Error("beyond, and too few:", n, len(k), e)
		}
	}
	// A token that begins where n ends isn't taken.
	x := pack.Write(row("a", copied(3, 1)))
	if k, e := pack.Read(x, 1); k != nil || e != api.ErrMore {
		t.Error("the first one alone:", len(k), e)
	}
}

// P11.2: a match reaches as far as the first byte, and no farther.
func TestAhead(t *testing.T) {
	for _, n := range []int{1, 2, 3, 4, 5, 255, 256, 300} {
		s := string(random(rand.New(rand.NewSource(int64(n))), n, 256))
		for _, back := range []int{1, 2, 3, n - 1, n, n + 1, n + 2, 2 * n, mostWindow} {
			if back < 1 {
				continue
			}
			l := row(s, copied(3, back))
			x := pack.Write(l)
			k, e := pack.Read(x, n+3)
			if back <= n && (e != api.OK || !slices.Equal(k, l)) || back > n && (e != api.ErrForm || k != nil) {
				t.Error(n, back, len(k), e)
			}
			if _, e := pack.Read(x[:len(x)-1], n+3); back > n+2 && n > 5 && e != api.ErrForm {
				t.Error("too few:", n, back, e)
			}
			if _, e := pack.Read(append(x, 9), n+3); back > n && e != api.ErrForm {
				t.Error("too many:", n, back, e)
			}
		}
	}
}

// P11.2: Unpack tells octet's error of the number, then Read's.
func TestUnpackWrong(t *testing.T) {
	for i, x := range []struct {
		b string
		e api.Errno
	}{
		{"", api.ErrShort}, {"\x80", api.ErrShort}, {"\xff\xff\xff\xff\xff", api.ErrShort}, {"\xff\xff\xff\xff\xff\xff", api.ErrForm},
		{"\x80\x00", api.ErrForm}, {"\x81\x00\x00\x00\x00\x00\x00", api.ErrForm}, {"\x80\x80\x00", api.ErrForm}, {"\x80\x80\x80\x80\x80\x80\x80\x01", api.ErrForm},
		{"\x81\x80\x04", api.ErrRange}, {"\xff\xff\xff\xff\x7f", api.ErrRange}, {"\xff\xff\xff\xff\xff\x7f", api.ErrRange}, {"\x81\x80\x04\xff\xff\xff\xff", api.ErrRange},
		{"\x00", api.ErrShort}, {"\x00\x00\x00\x00", api.ErrShort}, {"\x00\x00\x00\x00\x00\x00", api.ErrMore}, {"\x00\xff\xff\xff\xff", api.OK},
		{"\x01", api.ErrShort}, {"\x80\x80\x04", api.ErrShort}, {"\x80\x80\x04\x00\x00\x00\x00", api.ErrShort}, {"\x01\x00\x00\x00\x00", api.ErrShort},
		{"\x01\xff", api.ErrForm}, {"\x01\xff\xff\xff\xff", api.ErrForm}, {"\x80\x80\x04\xff\xff\xff\xff", api.ErrForm}, {"\x01\x00\x00\x00\x00\x00\x00", api.ErrMore},
		{"\x01\x30\x7f\xfc\x00\x00\x00", api.ErrMore}, {"\x01\x30\x7f\xfc\x00", api.ErrShort}, {"\x01\x30\x7f\xfc\x00\x00", api.OK}, {"\x81\x02\x3c\x7f\xbe\x00\x00\x00", api.ErrForm},
	} {
		b, e := pack.Unpack([]byte(x.b))
		if e != x.e || e != api.OK && b != nil {
			t.Error(i, short(b), e)
		}
	}
}

// P11.2: each byte of what is packed is needed.
func TestCut(t *testing.T) {
	for i, b := range rows() {
		x, _ := pack.Pack(b, mostWindow)
		for n := 0; n < len(x); n += 1 + len(x)/16 {
			if y, e := pack.Unpack(x[:n]); y != nil || e != api.ErrShort && e != api.ErrForm {
				t.Fatal(i, n, short(y), e)
			}
		}
		if y, e := pack.Unpack(append(x, 0)); y != nil || e != api.ErrMore {
			t.Fatal("more", i, short(y), e)
		}
	}
	x, _ := pack.Pack(make([]byte, 3), 1)
	for n := range x {
		if _, e := pack.Unpack(x[:n]); e != api.ErrShort {
			t.Error("noughts", n, e)
		}
	}
}

// again holds that what Read tells of bytes is as the words have it; that, written again, is read again as the same tokens. It tells whether they were read.
func again(t *testing.T, x []byte, n int) bool {
	t.Helper()
	l, e := pack.Read(x, n)
	if p, f := plainRead(x, n); !slices.Equal(l, p) || e != f {
		t.Fatal(short(x), n, len(l), e, "not", len(p), f)
	}
	if e != api.OK {
		return false
	}
	if match.Size(l) != n {
		t.Fatal(short(x), n, match.Size(l))
	}
	if k, e := pack.Read(pack.Write(l), n); !slices.Equal(k, l) || e != api.OK {
		t.Fatal("again:", short(x), n, len(k), e)
	}
	if b, e := match.Expand(l); len(b) != n || e != api.OK {
		t.Fatal("Expand:", short(x), n, len(b), e)
	}
	return true
}

// P11.2, P11.3: whatever is read of any bytes, written again, is read again.
func TestAny(t *testing.T) {
	r := rand.New(rand.NewSource(4))
	times := 0
	for i := range 6000 {
		x := random(r, r.Intn(14), []int{256, 4, 2}[i%3])
		if len(x) > 0 && i%2 == 0 {
			x[0] &= 127 // a literal comes first
		}
		if again(t, x, r.Intn(14)) {
			times++
		}
	}
	if times < 60 {
		t.Error("seldom read:", times)
	}
}

// P11.2, P11.3: so too of what was packed, and changed; with each number of bytes near.
func TestChanged(t *testing.T) {
	r := rand.New(rand.NewSource(5))
	times := 0
	for _, b := range rows() {
		if len(b) > 4000 {
			continue
		}
		whole := pack.Write(match.Parse(b, mostWindow))
		for k := range 40 {
			x := slices.Clone(whole)
			for range k % 3 {
				x[r.Intn(len(x))] ^= 1 << r.Intn(8)
			}
			if again(t, x, max(0, len(b)+r.Intn(5)-2)) {
				times++
			}
		}
	}
	if times < 60 {
		t.Error("seldom read:", times)
	}
}

// P11.1 to P11.3: nothing that is handed in is changed or kept, and what is answered is new.
func TestMemory(t *testing.T) {
	b := append(make([]byte, 0, 64), "abcabcabcabcabc, and more"...)
	room := slices.Clone(b[:cap(b)])
	x, _ := pack.Pack(b, 100)
	y, _ := pack.Pack(b, 100)
	l := append(make([]match.Token, 0, 64), match.Parse(b, 100)...)
	tokens := slices.Clone(l[:cap(l)])
	w := pack.Write(l)
	if !bytes.Equal(b[:cap(b)], room) || !slices.Equal(l[:cap(l)], tokens) || !bytes.Equal(w, x[1:]) {
		t.Error("what was handed in has changed")
	}
	clear(b[:cap(b)])
	clear(l[:cap(l)])
	clear(w[:cap(w)])
	if !bytes.Equal(x, y) {
		t.Error("what was packed hangs on what was handed in")
	}
	clear(y[:cap(y)])
	in := append(make([]byte, 0, 100), x...)
	room = slices.Clone(in[:cap(in)])
	u, e := pack.Unpack(in)
	v, f := pack.Unpack(in)
	k, g := pack.Read(in[1:], len(u))
	if !bytes.Equal(in[:cap(in)], room) || e != api.OK || f != api.OK || g != api.OK {
		t.Error("Unpack:", e, f, g)
	}
	clear(in[:cap(in)])
	clear(v[:cap(v)])
	if string(u) != "abcabcabcabcabc, and more" || !slices.Equal(k, match.Parse(u, 100)) {
		t.Error("what was unpacked hangs on what was handed in", short(u))
	}
}

// P11.1, P11.2: nil and empty mean the same; the answer is the same each time, many at once too.
func TestSame(t *testing.T) {
	if x, e := pack.Pack([]byte{}, 1); string(x) != "\x00\x00\x00\x00\x00" || e != api.OK {
		t.Error("empty:", short(x), e)
	}
	if x := pack.Write([]match.Token{}); string(x) != "\x00\x00\x00\x00" {
		t.Error("no tokens:", short(x))
	}
	if b, e := pack.Unpack([]byte{}); b != nil || e != api.ErrShort {
		t.Error("Unpack:", short(b), e)
	}
	b := bytes.Repeat([]byte("the same each time, "), 30)
	first, _ := pack.Pack(b, mostWindow)
	var all sync.WaitGroup
	for range 8 {
		all.Go(func() {
			for range 5 {
				x, _ := pack.Pack(b, mostWindow)
				if y, e := pack.Unpack(first); !bytes.Equal(x, first) || !bytes.Equal(y, b) || e != api.OK {
					t.Error("another answer:", short(x), short(y), e)
				}
			}
		})
	}
	all.Wait()
}
