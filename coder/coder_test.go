package coder_test

import (
	"bytes"
	"math"
	"math/big"
	"math/rand"
	"slices"
	"strconv"
	"sync"
	"testing"

	"portmanteau/api"
	"portmanteau/coder"
)

const (
	mostChances = 1 << 17
	mostTree    = 16
	mostEven    = 32
)

// plainChance is how likely 0 is, of 2048.
type plainChance int

// behind is the chance behind a bit.
func (c plainChance) behind(bit int) plainChance {
	if bit == 0 {
		return c + (2048-c)/32
	}
	return c - c/32
}

// plainChances are so many, at first.
func plainChances(n int) []plainChance {
	return slices.Repeat([]plainChance{1024}, n)
}

// plainWriter puts bits as the document's words tell it. Low is one number, with all bytes that were told ahead of its 32 bits: what is carried goes where it should of itself.
type plainWriter struct {
	low   big.Int
	width int64
	told  int
}

func plainBegin() *plainWriter { return &plainWriter{width: 1<<32 - 1} }

func (w *plainWriter) put(bound int64, bit int) {
	if bit == 0 {
		w.width = bound
	} else {
		w.low.Add(&w.low, big.NewInt(bound))
		w.width -= bound
	}
	for w.width < 1<<24 {
		w.low.Lsh(&w.low, 8)
		w.width *= 256
		w.told++
	}
}

func (w *plainWriter) bit(c *plainChance, bit int) {
	w.put(w.width/2048*int64(*c), bit)
	*c = c.behind(bit)
}

func (w *plainWriter) even(n, bits int) {
	for k := bits - 1; k >= 0; k-- {
		w.put(w.width/2, n>>k&1)
	}
}

func (w *plainWriter) tree(l []plainChance, n, bits int) {
	place := 1
	for k := bits - 1; k >= 0; k-- {
		w.bit(&l[place], n>>k&1)
		place = 2*place + n>>k&1
	}
}

func (w *plainWriter) end() []byte {
	return w.low.FillBytes(make([]byte, w.told+4))
}

// plainReader takes bits as the document's words tell it; its number may be as great as it will.
type plainReader struct {
	b      []byte
	number big.Int
	width  int64
	taken  int
}

func plainOpen(b []byte) *plainReader {
	r := &plainReader{b: b, width: 1<<32 - 1}
	for range 4 {
		r.next()
	}
	return r
}

func (r *plainReader) next() {
	r.number.Lsh(&r.number, 8)
	if r.taken < len(r.b) {
		r.number.Add(&r.number, big.NewInt(int64(r.b[r.taken])))
	}
	r.taken++
}

func (r *plainReader) take(bound int64) int {
	bit := 0
	if less := big.NewInt(bound); r.number.Cmp(less) < 0 {
		r.width = bound
	} else {
		bit = 1
		r.number.Sub(&r.number, less)
		r.width -= bound
	}
	for r.width < 1<<24 {
		r.next()
		r.width *= 256
	}
	return bit
}

func (r *plainReader) bit(c *plainChance) int {
	bit := r.take(r.width / 2048 * int64(*c))
	*c = c.behind(bit)
	return bit
}

func (r *plainReader) even(bits int) int {
	n := 0
	for range bits {
		n = 2*n + r.take(r.width/2)
	}
	return n
}

func (r *plainReader) tree(l []plainChance, bits int) int {
	n, place := 0, 1
	for range bits {
		bit := r.bit(&l[place])
		n, place = 2*n+bit, 2*place+bit
	}
	return n
}

func (r *plainReader) err() api.Errno {
	if r.taken > len(r.b) {
		return api.ErrShort
	}
	return api.OK
}

func (r *plainReader) left() int { return max(0, len(r.b)-r.taken) }

// step is one call.
type step struct {
	kind    byte // of Bit, Even or Tree the first letter
	chance  int  // of a Bit
	n, bits int
}

func bit(n int) step        { return step{kind: 'B', n: n} }
func even(n, bits int) step { return step{kind: 'E', n: n, bits: bits} }
func tree(n, bits int) step { return step{kind: 'T', n: n, bits: bits} }

// bitOf is a bit of one of the chances.
func bitOf(chance, n int) step { return step{kind: 'B', chance: chance, n: n} }

// bitsOf are bits of the first chance.
func bitsOf(s string) []step {
	var l []step
	for i := range len(s) {
		l = append(l, bit(int(s[i]-'0')))
	}
	return l
}

// number is what is taken of a step that was put.
func (s step) number() int {
	if s.kind == 'B' {
		return min(max(s.n, -s.n), 1)
	}
	return s.n & (1<<s.bits - 1)
}

// write puts steps.
func write(w *coder.Writer, c []coder.Chance, l []step) {
	for _, s := range l {
		switch s.kind {
		case 'B':
			w.Bit(&c[s.chance], s.n)
		case 'E':
			w.Even(s.n, s.bits)
		case 'T':
			w.Tree(c, s.n, s.bits)
		}
	}
}

// plainWrite puts steps.
func plainWrite(w *plainWriter, c []plainChance, l []step) {
	for _, s := range l {
		switch s.kind {
		case 'B':
			w.bit(&c[s.chance], s.number())
		case 'E':
			w.even(s.n, s.bits)
		case 'T':
			w.tree(c, s.n, s.bits)
		}
	}
}

// read takes the number of a step.
func read(r *coder.Reader, c []coder.Chance, s step) int {
	switch s.kind {
	case 'B':
		return r.Bit(&c[s.chance])
	case 'E':
		return r.Even(s.bits)
	}
	return r.Tree(c, s.bits)
}

// plainRead takes the number of a step.
func plainRead(r *plainReader, c []plainChance, s step) int {
	switch s.kind {
	case 'B':
		return r.bit(&c[s.chance])
	case 'E':
		return r.even(s.bits)
	}
	return r.tree(c, s.bits)
}

// enough is how many chances steps need.
func enough(l []step) int {
	n := 1
	for _, s := range l {
		n = max(n, s.chance+1)
		if s.kind == 'T' {
			n = max(n, 1<<s.bits)
		}
	}
	return n
}

// same tells whether chances are as they should be.
func same(t *testing.T, what string, c []coder.Chance, plain []plainChance) {
	t.Helper()
	for i := range plain {
		if c[i].Of() != int(plain[i]) {
			t.Fatal(what+": chance", i, "is", c[i].Of(), "not", plain[i])
		}
	}
}

// short is bytes for messages.
func short(b []byte) string {
	return strconv.Itoa(len(b)) + " bytes " + strconv.Quote(string(b[:min(len(b), 24)]))
}

// put is the bytes of steps, as the plain writer has them too.
func put(t *testing.T, what string, l []step) []byte {
	t.Helper()
	w, plain := coder.Begin(), plainBegin()
	c, plainC := coder.Chances(enough(l)), plainChances(enough(l))
	write(w, c, l)
	plainWrite(plain, plainC, l)
	b := w.End()
	if x := plain.end(); !bytes.Equal(b, x) {
		t.Fatal(what+": put", short(b), "not", short(x))
	}
	same(t, what+", put", c, plainC)
	return b
}

// take takes steps of bytes, as the plain reader does.
func take(t *testing.T, what string, b []byte, l []step) {
	t.Helper()
	r, plain := coder.Open(b), plainOpen(b)
	c, plainC := coder.Chances(enough(l)), plainChances(enough(l))
	if r.Err() != plain.err() || r.Left() != plain.left() {
		t.Fatal(what+": at first", r.Err(), r.Left(), "not", plain.err(), plain.left())
	}
	for i, s := range l {
		if n, x := read(r, c, s), plainRead(plain, plainC, s); n != x {
			t.Fatal(what+": step", i, "takes", n, "not", x)
		}
		if r.Err() != plain.err() || r.Left() != plain.left() {
			t.Fatal(what+": behind step", i, r.Err(), r.Left(), "not", plain.err(), plain.left())
		}
	}
	same(t, what+", taken", c, plainC)
}

// putAndTaken is the bytes of steps, which are taken of them again, and no byte is left, or missing.
func putAndTaken(t *testing.T, what string, l []step) []byte {
	t.Helper()
	b := put(t, what, l)
	for more := range 3 {
		r, c := coder.Open(append(slices.Clone(b), make([]byte, more)...)), coder.Chances(enough(l))
		for i, s := range l {
			if n := read(r, c, s); n != s.number() {
				t.Fatal(what+": step", i, "takes", n, "not", s.number())
			}
		}
		if r.Err() != api.OK || r.Left() != more {
			t.Fatal(what+": error", r.Err(), "left", r.Left(), "of", more)
		}
	}
	if l != nil {
		take(t, what, b, l)
	}
	return b
}

// row is steps of all kinds, mixed; of few chances, if of little room.
func row(r *rand.Rand, n, room int) []step {
	var l []step
	for range n {
		switch r.Intn(3) {
		case 0:
			l = append(l, bitOf(r.Intn(1<<room), r.Intn(2)))
		case 1:
			l = append(l, even(r.Int()>>r.Intn(63)-r.Intn(9), r.Intn(mostEven+1)))
		case 2:
			l = append(l, tree(r.Int()>>r.Intn(63)-r.Intn(9), r.Intn(room+1)))
		}
	}
	return l
}

// P10.1, P10.3: what is told of few steps is known.
func TestKnown(t *testing.T) {
	for _, x := range []struct {
		what string
		l    []step
		b    []byte
	}{
		{"no bits", nil, []byte{0, 0, 0, 0}},
		{"a bit 0", bitsOf("0"), []byte{0, 0, 0, 0}},
		{"a bit 1", bitsOf("1"), []byte{0x7f, 0xff, 0xfc, 0}},
		{"an even 0", []step{even(0, 1)}, []byte{0, 0, 0, 0}},
		{"an even 1", []step{even(1, 1)}, []byte{0x7f, 0xff, 0xff, 0xff}},
		{"two even 1", []step{even(3, 2)}, []byte{0xbf, 0xff, 0xff, 0xff}},
		{"an even 1 behind 0", []step{even(1, 2)}, []byte{0x3f, 0xff, 0xff, 0xff}},
		{"even bits, one byte told", []step{even(0x1ff, 9)}, []byte{0xff, 0x7f, 0xff, 0xff, 0}},
		{"nine even bits 0", []step{even(0, 9)}, []byte{0, 0, 0, 0, 0}},
		{"a tree of one bit", []step{tree(1, 1)}, []byte{0x7f, 0xff, 0xfc, 0}},
		{"a tree of no bits", []step{tree(1, 0)}, []byte{0, 0, 0, 0}},
		{"no even bits", []step{even(1, 0)}, []byte{0, 0, 0, 0}},
	} {
		if b := putAndTaken(t, x.what, x.l); !bytes.Equal(b, x.b) {
			t.Error(x.what+":", short(b), "not", short(x.b))
		}
	}
}

// P10.1, P10.2: a chance is more behind 0, less behind 1, and goes no farther than it goes.
func TestChance(t *testing.T) {
	var zero coder.Chance
	if zero.Of() != 1024 {
		t.Error("the zero one is", zero.Of())
	}
	for _, x := range []struct {
		what string
		bits func(i int) int
		ends []int // where it may be at the end
	}{
		{"bits 0", func(int) int { return 0 }, []int{2017}},
		{"bits 1", func(int) int { return 1 }, []int{31}},
		{"bits by turns", func(i int) int { return i & 1 }, nil},
		{"bits by turns, 1 first", func(i int) int { return i&1 ^ 1 }, nil},
		{"bits 0, and 1 behind them", func(i int) int { return i / 1000 }, []int{31}},
		{"bits 1, and 0 behind them", func(i int) int { return 1 - i/1000 }, []int{2017}},
		{"rows of either", func(i int) int { return i / 37 & 1 }, nil},
		{"seldom 1", func(i int) int { return 1 - min(i%50, 1) }, nil},
		{"seldom 0", func(i int) int { return min(i%50, 1) }, nil},
	} {
		w, of := coder.Begin(), 1024
		var c, d coder.Chance
		for i := range 2000 {
			w.Bit(&c, x.bits(i))
			of = int(plainChance(of).behind(x.bits(i)))
			if c.Of() != of {
				t.Fatal(x.what+": behind", i+1, "it is", c.Of(), "not", of)
			}
		}
		r := coder.Open(w.End())
		for i := range 2000 {
			if n := r.Bit(&d); n != x.bits(i) {
				t.Fatal(x.what+":", i, "takes", n)
			}
		}
		if d.Of() != of || x.ends != nil && x.ends[0] != of {
			t.Error(x.what+": at the end", d.Of(), of)
		}
	}
}

// P10.1: known chances.
func TestChanceKnown(t *testing.T) {
	for _, x := range []struct {
		bits string
		of   int
	}{
		{"", 1024}, {"0", 1056}, {"1", 992}, {"00", 1087}, {"11", 961}, {"01", 1023}, {"10", 1025},
		{"000", 1117}, {"111", 931}, {"0101", 1023}, {"1010", 1025},
	} {
		var c coder.Chance
		w := coder.Begin()
		for _, x := range x.bits {
			w.Bit(&c, int(x-'0'))
		}
		if c.Of() != x.of {
			t.Error(x.bits+":", c.Of(), "not", x.of)
		}
	}
}

// P10.1, P10.3: long rows, of one bit and of both.
func TestLongRows(t *testing.T) {
	for _, n := range []int{1, 2, 7, 8, 31, 32, 33, 100, 3000} {
		zeros, ones, turns := []step{}, []step{}, []step{}
		for i := range n {
			zeros, ones, turns = append(zeros, bit(0)), append(ones, bit(1)), append(turns, bit(i&1))
		}
		name := strconv.Itoa(n)
		long, short := putAndTaken(t, name+" by turns", turns), putAndTaken(t, name+" bits 0", zeros)
		putAndTaken(t, name+" bits 1", ones)
		putAndTaken(t, name+" bits 1 behind bits 0", append(slices.Clone(zeros), ones...))
		putAndTaken(t, name+" bits 0 behind bits 1", append(slices.Clone(ones), zeros...))
		if n == 3000 && (len(long) < 370 || len(short) > 30) {
			t.Error("likely bits have", len(short), "bytes, others", len(long))
		}
	}
}

// P10.1: a bit of another number than 0 is a 1.
func TestOtherBits(t *testing.T) {
	for _, n := range []int{2, 3, 255, 256, 1 << 16, 1 << 32, 1<<32 + 2, math.MaxInt, -1, -2, -256, -1 << 32, math.MinInt, math.MinInt + 1} {
		w, ones := coder.Begin(), coder.Begin()
		var c, d coder.Chance
		for range 100 {
			w.Bit(&c, n)
			ones.Bit(&d, 1)
		}
		if c.Of() != d.Of() || !bytes.Equal(w.End(), ones.End()) {
			t.Error(n, "is not put as 1")
		}
	}
}

// P10.1, P10.2: 0 to 32 bits, the highest first, the lowest ones of a number.
func TestEven(t *testing.T) {
	for bits := range mostEven + 1 {
		for _, n := range []int{0, 1, 2, 3, 0x5555555555555555, 0x1234567890abcdef, math.MaxInt, 1 << 31, 1 << 32, 1<<32 - 1, 1<<32 + 1, -1, -2, -0x1234567890abcdef, math.MinInt, math.MinInt + 1} {
			what := "Even of " + strconv.Itoa(n) + ", " + strconv.Itoa(bits) + " bits"
			b := putAndTaken(t, what, []step{even(n, bits)})
			var one []step // one by one
			for k := bits - 1; k >= 0; k-- {
				one = append(one, even(n>>k, 1))
			}
			if !bytes.Equal(b, put(t, what, one)) {
				t.Error(what + ": other bytes, one by one")
			}
			if n := n & (1<<bits - 1); !bytes.Equal(b, put(t, what, []step{even(n, bits)})) {
				t.Error(what + ": other bytes, of the lowest bits alone")
			}
			putAndTaken(t, what, []step{even(7, 5), bit(1), even(n, bits), bit(0), even(n, bits), tree(2, 2)})
		}
	}
}

// wrongBits are numbers of bits of which there are none.
func wrongBits(most int) []int {
	return []int{-1, -2, -32, -64, math.MinInt32, math.MinInt, math.MinInt + 1, most + 1, most + 2, 63, 64, 65, 1 << 16, 1 << 32, 1<<32 + 1, math.MaxInt32, math.MaxInt}
}

// P10.1, P10.2: of other numbers of bits none are put, and none taken.
func TestWrongEven(t *testing.T) {
	l := []step{bit(1), even(0x1234567, 30), tree(5, 3)}
	b := put(t, "bits", l)
	for _, bits := range wrongBits(mostEven) {
		w, c := coder.Begin(), coder.Chances(8)
		r, d := coder.Open(b), coder.Chances(8)
		for _, s := range l {
			w.Even(-1, bits)
			write(w, c, []step{s})
			w.Even(5, bits)
			if n := r.Even(bits); n != 0 {
				t.Fatal(bits, "bits are", n)
			}
			if read(r, d, s) != s.number() {
				t.Fatal("taken behind", bits, "bits")
			}
		}
		w.Even(1, bits)
		if !bytes.Equal(w.End(), b) {
			t.Fatal("put with", bits, "bits")
		}
		if r.Even(bits) != 0 || r.Err() != api.OK || r.Left() != 0 {
			t.Fatal("at the end,", bits, "bits")
		}
	}
}

// P10.1, P10.2: 0 to 16 bits, each of the chance at its own place.
func TestTree(t *testing.T) {
	for bits := range mostTree + 1 {
		for _, n := range []int{0, 1, 2, 0x5555, 0xaaaa, 0xffff, 0x10000, 0x12345678, math.MaxInt, -1, -2, -0x54321, math.MinInt} {
			what := "Tree of " + strconv.Itoa(n) + ", " + strconv.Itoa(bits) + " bits"
			b := putAndTaken(t, what, []step{tree(n, bits)})
			var one []step // one by one
			place := 1
			for k := bits - 1; k >= 0; k-- {
				one = append(one, bitOf(place, n>>k&1))
				place = 2*place + n>>k&1
			}
			if !bytes.Equal(b, put(t, what, one)) {
				t.Error(what + ": other bytes, one by one")
			}
			if bits < 12 {
				putAndTaken(t, what, []step{tree(n, bits), tree(n+1, bits), even(5, 3), tree(n, bits), bit(1), tree(^n, bits)})
			}
		}
	}
	c := coder.Chances(8)
	coder.Begin().Tree(c, 0b101, 3)
	for i, of := range []int{1024, 992, 1024, 1056, 1024, 1024, 992, 1024} {
		if c[i].Of() != of {
			t.Error("place", i, "is", c[i].Of())
		}
	}
}

// P10.1, P10.2: a tree has just 2 to the power of bits chances, or more; nothing is put, or taken, of fewer.
func TestTreeOfFewer(t *testing.T) {
	for bits := range mostTree + 1 {
		for _, n := range []int{0, 1, 1 << bits / 2, 1<<bits - 1, 1 << bits, 1<<bits + 1, 1<<bits + 1000} {
			w, c := coder.Begin(), coder.Chances(n)
			w.Even(1, 1)
			w.Tree(c, -1, bits)
			b := w.End()
			plain, plainC := plainBegin(), plainChances(max(n, 1<<bits))
			plain.even(1, 1)
			if n >= 1<<bits {
				plain.tree(plainC, -1, bits)
			}
			if !bytes.Equal(b, plain.end()) {
				t.Fatal(bits, "bits,", n, "chances:", short(b))
			}
			same(t, "put", c, plainC[:n])
			r, d, taken := coder.Open(b), coder.Chances(n), 0
			if n >= 1<<bits {
				taken = 1<<bits - 1
			}
			if r.Even(1) != 1 || r.Tree(d, bits) != taken || r.Err() != api.OK || r.Left() != 0 {
				t.Fatal(bits, "bits,", n, "chances: other ones taken")
			}
			same(t, "taken", d, plainC[:n])
		}
	}
	// How many there are counts, not for how many there is room.
	c := coder.Chances(16)
	w := coder.Begin()
	w.Tree(c[:15], 15, 4)
	if r := coder.Open([]byte{255, 0, 0, 0, 0}); !bytes.Equal(w.End(), []byte{0, 0, 0, 0}) || r.Tree(c[:15], 4) != 0 {
		t.Error("a tree in spare room")
	}
	same(t, "spare room", c, plainChances(16))
}

// P10.1, P10.2: of other numbers of bits none are put, and none taken, and no chance changes.
func TestWrongTree(t *testing.T) {
	all := coder.Chances(mostChances)
	b := put(t, "bits", []step{bit(1), even(0x1234567, 30), bit(0)})
	for _, bits := range wrongBits(mostTree) {
		for _, c := range [][]coder.Chance{all, nil, {}, coder.Chances(1), coder.Chances(1 << mostTree)} {
			var d, e coder.Chance
			w, r := coder.Begin(), coder.Open(b)
			w.Tree(c, 3, bits)
			w.Bit(&d, 1)
			w.Tree(c, -1, bits)
			w.Even(0x1234567, 30)
			w.Bit(&d, 0)
			w.Tree(c, 1, bits)
			if !bytes.Equal(w.End(), b) {
				t.Fatal("put with", bits, "bits")
			}
			if r.Tree(c, bits) != 0 || r.Bit(&e) != 1 || r.Tree(c, bits) != 0 || r.Even(30) != 0x1234567 || r.Bit(&e) != 0 || r.Tree(c, bits) != 0 || r.Left() != 0 || r.Err() != api.OK {
				t.Fatal("taken with", bits, "bits")
			}
			same(t, "wrong", c, plainChances(len(c)))
		}
	}
	w := coder.Begin()
	for bits := range mostTree + 1 {
		w.Tree(nil, -1, bits)
		if n := coder.Open([]byte{255, 1}).Tree(nil, bits); n != 0 {
			t.Error("of no chances", n)
		}
	}
	if !bytes.Equal(w.End(), make([]byte, 4)) {
		t.Error("put of no chances")
	}
}

// P10.1: so many chances, 2^17 at most, each as at first, and new ones each time.
func TestChances(t *testing.T) {
	for _, x := range []struct{ n, many int }{
		{0, 0}, {1, 1}, {2, 2}, {255, 255}, {1 << 16, 1 << 16}, {mostChances - 1, mostChances - 1}, {mostChances, mostChances},
		{mostChances + 1, mostChances}, {1 << 18, mostChances}, {1 << 31, mostChances}, {1 << 32, mostChances}, {1<<32 + 1, mostChances}, {math.MaxInt, mostChances},
		{-1, 0}, {-2, 0}, {-1 << 17, 0}, {-1 << 32, 0}, {1 - 1<<32, 0}, {math.MinInt, 0}, {math.MinInt + 1, 0},
	} {
		c := coder.Chances(x.n)
		if len(c) != x.many {
			t.Fatal(x.n, "chances are", len(c))
		}
		same(t, strconv.Itoa(x.n), c, plainChances(x.many))
		w := coder.Begin()
		for i := range c {
			w.Bit(&c[i], 1)
		}
		same(t, strconv.Itoa(x.n)+", again", coder.Chances(x.n), plainChances(x.many))
	}
}

// within is the steps, one bit each, by which a writer comes as near to a number of bytes as it may, from below; what then carries is a 1 where these bytes have a 0.
func within(b []byte, kinds []step, n int) ([]step, bool) {
	r := plainOpen(b)
	c := plainChances(4)
	var l []step
	last := -1
	for i := range n {
		s := kinds[i%len(kinds)]
		s.n = plainRead(r, c, s)
		if s.n == 0 {
			last = len(l)
		}
		l = append(l, s)
	}
	if last < 0 || r.number.Sign() == 0 {
		return nil, false // low is that number itself, and never goes past it
	}
	l = l[:last+1]
	l[last].n = 1
	return l, true
}

// P10.1, P10.3: what is carried goes through all bytes of 255 that were told.
func TestCarry(t *testing.T) {
	most := 0
	for _, kinds := range [][]step{
		{even(0, 1)}, {bitOf(1, 0)}, {bitOf(1, 0), even(0, 1)}, {bitOf(1, 0), bitOf(2, 0), even(0, 1)}, {tree(0, 1), bitOf(2, 0), even(0, 1), even(0, 1), bitOf(3, 0)},
	} {
		for first := 1; first < 256; first += 3 {
			for _, n := range []int{1, 9, 20, 33, 50, 100, 400, 1000} {
				l, may := within([]byte{byte(first)}, kinds, n)
				if !may {
					continue
				}
				putAndTaken(t, "carried", l)
				most = max(most, carried(l))
				putAndTaken(t, "carried, and more", append(l, even(-1, 32), bit(1), bit(1), tree(0, 1), even(12345, 20)))
			}
		}
	}
	if most < 50 {
		t.Error("no more than", most, "bytes of 255 are gone through")
	}
}

// carried is through how many bytes of 255 the last step carries.
func carried(l []step) int {
	w, c := plainBegin(), plainChances(4)
	plainWrite(w, c, l[:len(l)-1])
	before := w.end()[:w.told]
	plainWrite(w, c, l[len(l)-1:])
	after := w.end()[:len(before)]
	if bytes.Equal(before, after) {
		return 0
	}
	n := 0
	for n < len(before) && before[len(before)-1-n] == 255 {
		n++
	}
	return n
}

// P10.1, P10.3: all short rows of bits, even and not.
func TestShortRows(t *testing.T) {
	for n := range 9 {
		for x := range 1 << n {
			var l, mixed, likely []step
			for k := range n {
				l = append(l, bit(x>>k&1))
				mixed = append(mixed, bitOf(k%3, x>>k&1), even(x>>k, 1+k%2))
				likely = append(likely, bit(x>>k&1), even(-x, 4*k))
			}
			for _, l := range [][]step{l, mixed, likely} {
				putAndTaken(t, "short row", l)
			}
		}
	}
}

// P10.1, P10.2, P10.3: many rows of steps of all three kinds, mixed.
func TestRows(t *testing.T) {
	r := rand.New(rand.NewSource(10))
	for i := range 300 {
		putAndTaken(t, "row "+strconv.Itoa(i), row(r, r.Intn(60), r.Intn(9)))
	}
	for i := range 6 {
		putAndTaken(t, "long row "+strconv.Itoa(i), row(r, 2000, 3*i))
	}
}

// P10.3: the same chances, whoever puts or takes, of a text and of likely things.
func TestText(t *testing.T) {
	var l []step
	for i := range 3000 {
		l = append(l, tree(int("a text that is told again and again. "[i%37]), 8), bitOf(256+i%2, i%2), even(i, i%4))
	}
	b := putAndTaken(t, "text", l)
	if len(b) > 2500 {
		t.Error("the text has", len(b), "bytes")
	}
}

// P10.1: the end is told again; what is put behind it is not, and changes no chance.
func TestEnd(t *testing.T) {
	r := rand.New(rand.NewSource(11))
	for i := range 50 {
		l := row(r, i%20, 4)
		w, c, plain := coder.Begin(), coder.Chances(16), plainChances(16)
		write(w, c, l)
		plainWrite(plainBegin(), plain, l)
		b := w.End()
		want := slices.Clone(b)
		for range 3 {
			write(w, c, row(r, 20, 4))
			again := w.End()
			if !bytes.Equal(again, want) || !bytes.Equal(b, want) {
				t.Fatal("the end, told again:", short(again), "not", short(want))
			}
			same(t, "behind the end", c, plain)
			clear(again[:cap(again)])
			w.Even(-1, 32)
			clear(b[:cap(b)])
			if again = w.End(); !bytes.Equal(again, want) {
				t.Fatal("the end shares memory")
			}
			copy(b, want)
		}
	}
	w := coder.Begin()
	b := w.End()
	w.Even(-1, 32)
	w.Bit(new(coder.Chance), 1)
	if again := w.End(); !bytes.Equal(b, make([]byte, 4)) || !bytes.Equal(again, b) {
		t.Error("nothing, told again:", short(again))
	}
}

// P10.1: two writers know nothing of each other, and what was told stays.
func TestWriters(t *testing.T) {
	a, b := coder.Begin(), coder.Begin()
	a.Even(0xabcd, 16)
	b.Even(0x1234, 16)
	a.Even(0xef, 8)
	x := a.End()
	b.Even(0x56, 8)
	y := b.End()
	if !bytes.Equal(x, put(t, "a", []step{even(0xabcdef, 24)})) || !bytes.Equal(y, put(t, "b", []step{even(0x123456, 24)})) {
		t.Error(short(x), short(y))
	}
}

// P10.2: a reader takes 4 bytes at once; one that is missing counts as 0, and is told of from then on.
func TestShort(t *testing.T) {
	for n := range 9 {
		b := []byte{0x7a, 0xbc, 0xde, 0xf1, 0x23, 0x45, 0x67, 0x89}[:n]
		r := coder.Open(b)
		err := api.OK
		if n < 4 {
			err = api.ErrShort
		}
		if r == nil || r.Err() != err || r.Left() != max(0, n-4) {
			t.Fatal(n, "bytes:", r.Err(), r.Left())
		}
		if r.Even(0) != 0 || r.Tree(coder.Chances(1), 0) != 0 || r.Bit(nil) != 0 || r.Err() != err || r.Left() != max(0, n-4) {
			t.Error(n, "bytes: taken by nothing")
		}
		// Eight even bits 0 leave just less than 2^24 of the width: each time one more byte is taken.
		r = coder.Open(make([]byte, n))
		for taken := 5; taken < 12; taken++ {
			r.Even(8)
			if taken > n {
				err = api.ErrShort
			}
			if r.Err() != err || r.Left() != max(0, n-taken) {
				t.Error(n, "bytes, as", taken, "are taken:", r.Err(), r.Left())
			}
		}
	}
	if r := coder.Open(nil); r == nil || r.Err() != api.ErrShort || r.Left() != 0 {
		t.Error("nil bytes")
	}
	if r := coder.Open([]byte{0, 0, 0, 0}); r.Err() != api.OK || r.Left() != 0 || r.Even(8) != 0 || r.Err() != api.ErrShort || r.Even(8) != 0 || r.Err() != api.ErrShort {
		t.Error("four noughts")
	}
}

// P10.2: any bytes are taken as the words tell it, each beginning of them too, what is missing as 0.
func TestAnyBytes(t *testing.T) {
	r := rand.New(rand.NewSource(12))
	for i := range 400 {
		b := make([]byte, r.Intn(40))
		r.Read(b)
		switch i % 4 {
		case 0:
			b = put(t, "row", row(r, 6, 4))
		case 1:
			b = append(bytes.Repeat([]byte{255}, r.Intn(6)), b...)
		}
		l := row(r, 30, 6)
		for n := 0; n <= len(b); n += 1 + i%3 {
			take(t, "bytes "+strconv.Itoa(i), b[:n], l)
			whole, cut := coder.Open(append(slices.Clone(b[:n]), make([]byte, 200)...)), coder.Open(b[:n])
			c, d := coder.Chances(64), coder.Chances(64)
			for _, s := range l {
				if read(whole, c, s) != read(cut, d, s) {
					t.Fatal("a missing byte is not 0")
				}
			}
		}
	}
}

// P10.2: bytes that no writer tells: a number that is not below the width takes a 1 each time.
func TestHighest(t *testing.T) {
	r := rand.New(rand.NewSource(13))
	for i := range 100 {
		b := make([]byte, 4+r.Intn(30))
		r.Read(b)
		copy(b, []byte{255, 255, 255, 255})
		if i%4 == 0 {
			b = bytes.Repeat([]byte{255}, len(b))
		}
		l := row(r, 60, 5)
		take(t, "highest", b, l)
		x, c := coder.Open(b), coder.Chances(32)
		for _, s := range l {
			if s.n = -1; read(x, c, s) != s.number() {
				t.Fatal("a bit 0 of", short(b))
			}
		}
		b[3] = 254
		take(t, "highest but one", b, l)
	}
}

// P10.1, P10.2: of nothing nothing is put or taken.
func TestNil(t *testing.T) {
	var w *coder.Writer
	var r *coder.Reader
	c := coder.Chances(4)
	w.Bit(&c[0], 1)
	w.Bit(nil, 1)
	w.Even(-1, 32)
	w.Tree(c, 3, 2)
	if b := w.End(); len(b) != 0 {
		t.Error("a nil Writer tells", short(b))
	}
	if r.Bit(&c[0]) != 0 || r.Bit(nil) != 0 || r.Even(32) != 0 || r.Tree(c, 2) != 0 || r.Left() != 0 || r.Err() != api.ErrShort {
		t.Error("a nil Reader takes something")
	}
	same(t, "nil", c, plainChances(4))

	some := coder.Begin()
	some.Bit(nil, 1)
	some.Even(1, 1)
	some.Bit(nil, 0)
	b := some.End()
	if !bytes.Equal(b, put(t, "an even 1", []step{even(1, 1)})) {
		t.Error("a nil Chance: put", short(b))
	}
	x := coder.Open(append(b, 7))
	if x.Bit(nil) != 0 || x.Even(1) != 1 || x.Bit(nil) != 0 || x.Err() != api.OK || x.Left() != 1 {
		t.Error("a nil Chance is taken")
	}
}

// Rules, Ends: a Writer and a Reader that were not begun do nothing either.
func TestNotBegun(t *testing.T) {
	w, r, c := new(coder.Writer), new(coder.Reader), coder.Chances(4)
	write(w, c, []step{bit(1), even(5, 20), tree(2, 2), bit(0)})
	if b := w.End(); len(b) != 0 {
		t.Error("put", short(b))
	}
	if r.Bit(&c[0]) != 0 || r.Even(20) != 0 || r.Tree(c, 2) != 0 || r.Left() != 0 || r.Err() != api.ErrShort {
		t.Error("taken")
	}
	same(t, "not begun", c, plainChances(4))
}

// Rules, Ends: at all numbers.
func TestAnyNumbers(t *testing.T) {
	far := []int{math.MinInt, math.MinInt + 1, -1 << 32, -65, -2, -1, 0, 1, 2, 15, 16, 17, 31, 32, 33, 63, 64, 65, 1 << 31, 1 << 32, math.MaxInt - 1, math.MaxInt}
	c := coder.Chances(1 << mostTree)
	w, r := coder.Begin(), coder.Open([]byte{255, 255, 255, 255, 1, 2, 3})
	for _, n := range far {
		w.Bit(&c[3], n)
		for _, bits := range far {
			w.Even(n, bits)
			w.Tree(c, n, bits)
			w.Tree(c[:5], n, bits)
			if n := r.Even(bits); n < 0 || n >= 1<<32 {
				t.Error("taken", n)
			}
			if n := r.Tree(c, bits); n < 0 || n >= 1<<mostTree {
				t.Error("taken", n)
			}
		}
	}
}

// Rules, Memory: what a reader is given is neither changed nor kept.
func TestArguments(t *testing.T) {
	rnd := rand.New(rand.NewSource(14))
	for range 50 {
		l := row(rnd, 20, 5)
		told := put(t, "row", l)
		room := append(slices.Clone(told), 9, 8, 7)
		b := room[:len(told)]
		r, c := coder.Open(b), coder.Chances(32)
		if !bytes.Equal(room, append(slices.Clone(told), 9, 8, 7)) {
			t.Fatal("changed by Open")
		}
		clear(room)
		for _, s := range l {
			if read(r, c, s) != s.number() {
				t.Fatal("the bytes are kept")
			}
		}
		if !bytes.Equal(room, make([]byte, len(room))) || r.Left() != 0 || r.Err() != api.OK {
			t.Fatal("changed by a reader")
		}
	}
}

// Rules, Memory: of a list no more chances change than those of the bits.
func TestChancesAround(t *testing.T) {
	all := coder.Chances(40)
	l := all[8:24]
	w := coder.Begin()
	w.Tree(l, 0b1011, 4)
	coder.Open([]byte{200, 100, 50, 25}).Tree(l, 4)
	for i, c := range all {
		if inside := i >= 9 && i < 24; !inside && c.Of() != 1024 {
			t.Error("chance", i-8, "of 16 has changed")
		}
	}
}

// Rules, One answer: the same each time, whoever else puts and takes.
func TestOneAnswer(t *testing.T) {
	l := row(rand.New(rand.NewSource(15)), 500, 6)
	want := put(t, "row", l)
	var all sync.WaitGroup
	for range 8 {
		all.Go(func() {
			w, c := coder.Begin(), coder.Chances(64)
			write(w, c, l)
			if !bytes.Equal(w.End(), want) {
				t.Error("other bytes")
			}
			r, c := coder.Open(want), coder.Chances(64)
			for _, s := range l {
				if read(r, c, s) != s.number() {
					t.Error("another number")
					return
				}
			}
		})
	}
	all.Wait()
}
