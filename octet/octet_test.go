package octet_test

import (
	"bytes"
	"math"
	"slices"
	"testing"

	"portmanteau/api"
	"portmanteau/octet"
)

// numberCases holds numbers and the bytes that stand for them.
var numberCases = []struct {
	n int
	b string
}{
	{0, "\x00"},
	{1, "\x01"},
	{127, "\x7f"},
	{128, "\x80\x01"},
	{300, "\xac\x02"},
	{1<<14 - 1, "\xff\x7f"},
	{1 << 14, "\x80\x80\x01"},
	{1<<21 - 1, "\xff\xff\x7f"},
	{1 << 28, "\x80\x80\x80\x80\x01"},
	{1<<35 - 1, "\xff\xff\xff\xff\x7f"},
	{1 << 35, "\x80\x80\x80\x80\x80\x01"},
	{1<<40 - 2, "\xfe\xff\xff\xff\xff\x1f"},
	{1<<40 - 1, "\xff\xff\xff\xff\xff\x1f"},
}

// P1.1: a number's bytes stand behind what was there.
func TestPutNumber(t *testing.T) {
	for _, c := range numberCases {
		for _, before := range []string{"", "p", "a longer beginning"} {
			if b := octet.Number([]byte(before), c.n); string(b) != before+c.b {
				t.Errorf("Number(%q, %d): %x", before, c.n, b)
			}
		}
	}
}

// P1.1: a number that may not be is put as 0.
func TestPutNumberThatMayNotBe(t *testing.T) {
	for _, n := range []int{-1, -128, math.MinInt, 1 << 40, 1<<40 + 1, math.MaxInt} {
		if b := octet.Number([]byte("p"), n); string(b) != "p\x00" {
			t.Errorf("Number %d: %x", n, b)
		}
	}
}

// P1.1: bytes stand behind how many they are.
func TestPutBytes(t *testing.T) {
	for _, c := range []struct{ b, x, want string }{
		{"", "", "\x00"},
		{"p", "", "p\x00"},
		{"", "ab", "\x02ab"},
		{"p", "ab", "p\x02ab"},
		{"p", "\x00", "p\x01\x00"},
	} {
		if b := octet.Bytes([]byte(c.b), []byte(c.x)); string(b) != c.want {
			t.Errorf("Bytes(%q, %q): %x", c.b, c.x, b)
		}
	}
	if b := octet.Bytes(nil, nil); string(b) != "\x00" {
		t.Errorf("Bytes(nil, nil): %x", b)
	}
	for _, n := range []int{127, 128, 1 << 14} {
		x := bytes.Repeat([]byte{7}, n)
		if b := octet.Bytes([]byte("p"), x); !bytes.Equal(b, append(octet.Number([]byte("p"), n), x...)) {
			t.Errorf("Bytes of %d bytes: %x..", n, b[:4])
		}
	}
}

// P1.1: the lowest bytes of a number, the lowest first; none at a width that may not be.
func TestPutFixed(t *testing.T) {
	const n = 0x8877665544332211
	all := "\x11\x22\x33\x44\x55\x66\x77\x88"
	for width := range 9 {
		if b := octet.Fixed([]byte("p"), n, width); string(b) != "p"+all[:width] {
			t.Errorf("Fixed of width %d: %x", width, b)
		}
	}
	for _, width := range []int{-1, -8, math.MinInt, 9, 16, math.MaxInt} {
		if b := octet.Fixed([]byte("p"), n, width); string(b) != "p" {
			t.Errorf("Fixed of width %d: %x", width, b)
		}
		if b := octet.Fixed(nil, n, width); len(b) != 0 {
			t.Errorf("Fixed of nil and width %d: %x", width, b)
		}
	}
	if b := octet.Fixed(nil, 1, 4); string(b) != "\x01\x00\x00\x00" {
		t.Errorf("Fixed(1, 4): %x", b)
	}
}

// puts has every call that puts something behind b, those included that add nothing.
func puts(b []byte) [][]byte {
	return [][]byte{
		octet.Number(b, 5),
		octet.Number(b, 1<<40-1),
		octet.Bytes(b, nil),
		octet.Bytes(b, []byte("xyz")),
		octet.Bytes(b, b),
		octet.Fixed(b, math.MaxUint64, 8),
		octet.Fixed(b, 1, 0),
		octet.Fixed(b, 1, 9),
		octet.Fixed(b, 1, -1),
	}
}

// P1.1, and the rule 'Memory': what is handed in stays as it was, its spare room too, and no answer shares with it.
func TestPutSharesNothing(t *testing.T) {
	room := bytes.Repeat([]byte{0xaa}, 64)
	before := slices.Clone(room)
	answers := puts(room[:3])
	if !bytes.Equal(room, before) {
		t.Fatalf("what was handed in has changed: %x", room)
	}
	wanted := make([][]byte, len(answers))
	for i, a := range answers {
		wanted[i] = slices.Clone(a)
	}
	for i, a := range answers {
		if !bytes.Equal(a, wanted[i]) {
			t.Errorf("answer %d shares with another: %x", i, a)
		}
		clear(a[:cap(a)])
		if !bytes.Equal(room, before) {
			t.Fatalf("answer %d shares with what was handed in", i)
		}
	}
}

// P1.2: a number that is whole is read, and gone past.
func TestReadNumber(t *testing.T) {
	for _, c := range numberCases {
		for _, most := range []int{c.n, c.n + 1, 1<<40 - 1, 1 << 40, math.MaxInt} {
			r := octet.New([]byte(c.b + "z"))
			if n := r.Number(most); n != c.n || r.Err() != api.OK || r.Left() != 1 {
				t.Errorf("Number(%d) of %x: %d, %d, %d left", most, c.b, n, r.Err(), r.Left())
			}
		}
		r := octet.New([]byte(c.b))
		if n := r.Number(c.n - 1); n != 0 || r.Err() != api.ErrRange || r.Left() != 0 {
			t.Errorf("Number(%d) of %x: %d, %d, %d left", c.n-1, c.b, n, r.Err(), r.Left())
		}
	}
}

// P1.2: what is no number tells why.
func TestReadNumberThatIsNone(t *testing.T) {
	for _, c := range []struct {
		b    string
		most int
		e    api.Errno
	}{
		{"", 9, api.ErrShort},
		{"\x80", math.MaxInt, api.ErrShort},
		{"\xff\xff", math.MaxInt, api.ErrShort},
		{"\x80\x80\x80\x80\x80", math.MaxInt, api.ErrShort},
		{"\x80\x80\x80\x80\x80", -1, api.ErrShort},
		{"\x80\x80\x80\x80\x80\x80", math.MaxInt, api.ErrForm},
		{"\xff\xff\xff\xff\xff\xff", -1, api.ErrForm},
		{"\x80\x80\x80\x80\x80\x80\x01", math.MaxInt, api.ErrForm},
		{"\x80\x80\x80\x80\x80\x80\x80\x80\x80\x80", math.MaxInt, api.ErrForm},
		{"\x80\x00", math.MaxInt, api.ErrForm},
		{"\xff\x00", 0, api.ErrForm},
		{"\x80\x80\x80\x80\x80\x00", math.MaxInt, api.ErrForm},
		{"\x80\x00", -1, api.ErrForm},
		{"\x00", -1, api.ErrRange},
		{"\x00", math.MinInt, api.ErrRange},
		{"\x01", 0, api.ErrRange},
		{"\x80\x01", 127, api.ErrRange},
		{"\x80\x80\x80\x80\x80\x20", math.MaxInt, api.ErrRange},
		{"\x80\x80\x80\x80\x80\x20", 1 << 40, api.ErrRange},
		{"\xff\xff\xff\xff\xff\x7f", math.MaxInt, api.ErrRange},
	} {
		r := octet.New([]byte(c.b))
		if n := r.Number(c.most); n != 0 || r.Err() != c.e || r.End() != c.e || r.Left() != 0 {
			t.Errorf("Number(%d) of %x: %d, %d, want %d; End %d; %d left", c.most, c.b, n, r.Err(), c.e, r.End(), r.Left())
		}
	}
}

// P1.2: bytes behind their number.
func TestReadBytes(t *testing.T) {
	for _, c := range []struct {
		b    string
		most int
		want string
		e    api.Errno
		left int
	}{
		{"\x02abc", 2, "ab", api.OK, 1},
		{"\x02ab", 9, "ab", api.OK, 0},
		{"\x00c", 0, "", api.OK, 1},
		{"\x01\x00", 1, "\x00", api.OK, 0},
		{"\x02abc", 1, "", api.ErrRange, 0},
		{"\x00", -1, "", api.ErrRange, 0},
		{"\x03ab", 3, "", api.ErrShort, 0},
		{"\x01", 3, "", api.ErrShort, 0},
		{"", 3, "", api.ErrShort, 0},
		{"\xff\xff\xff\xff\xff\x1fab", math.MaxInt, "", api.ErrShort, 0},
		{"\x82\x00ab", 9, "", api.ErrForm, 0},
	} {
		r := octet.New([]byte(c.b))
		if x := r.Bytes(c.most); string(x) != c.want || r.Err() != c.e || r.Left() != c.left {
			t.Errorf("Bytes(%d) of %x: %x, %d, %d left", c.most, c.b, x, r.Err(), r.Left())
		}
	}
}

// P1.2: a number of a width.
func TestReadFixed(t *testing.T) {
	b := []byte("\x11\x22\x33\x44\x55\x66\x77\x88\x99")
	for width := range 9 {
		want := uint64(0x8877665544332211)
		if width < 8 {
			want %= 1 << (8 * width)
		}
		r := octet.New(b)
		if n := r.Fixed(width); n != want || r.Err() != api.OK || r.Left() != 9-width {
			t.Errorf("Fixed(%d): %x, %d, %d left", width, n, r.Err(), r.Left())
		}
		if r = octet.New(b[:width]); r.Fixed(width) != want || r.End() != api.OK {
			t.Errorf("Fixed(%d) of as many bytes: %d", width, r.End())
		}
		if width == 0 {
			continue
		}
		if r = octet.New(b[:width-1]); r.Fixed(width) != 0 || r.Err() != api.ErrShort {
			t.Errorf("Fixed(%d) of too few bytes: %d", width, r.Err())
		}
	}
	for _, width := range []int{-1, math.MinInt, 9, math.MaxInt} {
		for _, x := range [][]byte{nil, b} {
			r := octet.New(x)
			if n := r.Fixed(width); n != 0 || r.Err() != api.ErrRange {
				t.Errorf("Fixed(%d): %x, %d", width, n, r.Err())
			}
		}
	}
}

func digit(r *octet.Reader) int { return r.Number(9) }

// P1.2: a list is as long as is said, or nothing.
func TestList(t *testing.T) {
	for _, c := range []struct {
		b    string
		most int
		want []int
		e    api.Errno
		left int
	}{
		{"\x03\x05\x06\x07", 3, []int{5, 6, 7}, api.OK, 0},
		{"\x01\x05\x06\x07", 3, []int{5}, api.OK, 2},
		{"\x00\x05", 3, nil, api.OK, 1},
		{"\x03\x05\x06\x07", 2, nil, api.ErrRange, 0},
		{"\x00", -1, nil, api.ErrRange, 0},
		{"\x02\x05", 3, nil, api.ErrShort, 0},
		{"", 3, nil, api.ErrShort, 0},
		{"\x03\x05\x0a\x07", 3, nil, api.ErrRange, 0},
		{"\x02\x05\x80\x00", 3, nil, api.ErrForm, 0},
		{"\xff\xff\xff\xff\xff\x1f\x05", math.MaxInt, nil, api.ErrShort, 0},
	} {
		r := octet.New([]byte(c.b))
		if l := octet.List(r, c.most, digit); !slices.Equal(l, c.want) || r.Err() != c.e || r.Left() != c.left {
			t.Errorf("List(%d) of %x: %d, %d, %d left", c.most, c.b, l, r.Err(), r.Left())
		}
	}
}

// P1.2: an error that one itself tells, at the last too, leaves nothing; and one is asked no more behind it.
func TestListThatOneFails(t *testing.T) {
	for last := 1; last <= 3; last++ {
		asked := 0
		r := octet.New([]byte("\x03\x05\x06\x07"))
		l := octet.List(r, 3, func(r *octet.Reader) int {
			if asked++; asked == last {
				r.Fail(api.ErrPath)
			}
			return digit(r)
		})
		if len(l) != 0 || r.Err() != api.ErrPath || asked != last {
			t.Errorf("List failed at %d: %d, %d, asked %d times", last, l, r.Err(), asked)
		}
	}
}

// P1.2: lists within lists, and of other types than numbers.
func TestListOfLists(t *testing.T) {
	r := octet.New([]byte("\x02\x02\x01a\x02bc\x00z"))
	l := octet.List(r, 2, func(r *octet.Reader) []string {
		return octet.List(r, 9, func(r *octet.Reader) string { return string(r.Bytes(9)) })
	})
	if len(l) != 2 || !slices.Equal(l[0], []string{"a", "bc"}) || len(l[1]) != 0 || r.Left() != 1 {
		t.Errorf("List of lists: %q, %d left", l, r.Left())
	}
}

// The rule 'Ends': a list with nobody to tell its things is nothing.
func TestListOfNobody(t *testing.T) {
	for _, b := range []string{"", "\x00", "\x02ab", "\xff\xff\xff\xff\xff\x1f"} {
		if l := octet.List[int](octet.New([]byte(b)), math.MaxInt, nil); len(l) != 0 {
			t.Errorf("List of %x by nil: %d", b, l)
		}
	}
}

// tellsNothing asks a reader that has failed for all that it could tell.
func tellsNothing(t *testing.T, r *octet.Reader, e api.Errno) {
	t.Helper()
	asked := 0
	count := func(*octet.Reader) int { asked++; return 1 }
	if r.Number(math.MaxInt) != 0 || r.Number(-1) != 0 || len(r.Bytes(math.MaxInt)) != 0 ||
		r.Fixed(1) != 0 || r.Fixed(0) != 0 || r.Fixed(9) != 0 || len(octet.List(r, 9, count)) != 0 || asked != 0 {
		t.Errorf("behind error %d something is told", e)
	}
	r.Fail(api.ErrTwice)
	r.Fail(api.OK)
	if r.Err() != e || r.End() != e || r.Left() != 0 {
		t.Errorf("behind error %d: Err %d, End %d, %d left", e, r.Err(), r.End(), r.Left())
	}
}

// P1.2: behind the first error nothing is told, and it stays.
func TestBehindAnError(t *testing.T) {
	b := []byte("\x01\x01\x01\x01\x01")
	for e, fail := range map[api.Errno]func(r *octet.Reader){
		api.ErrRange:   func(r *octet.Reader) { r.Number(0) },
		api.ErrShort:   func(r *octet.Reader) { r.Fixed(8) },
		api.ErrCorrupt: func(r *octet.Reader) { r.Fail(api.ErrCorrupt) },
		-7:             func(r *octet.Reader) { r.Fail(-7) },
	} {
		r := octet.New(b)
		fail(r)
		tellsNothing(t, r, e)
	}
}

// P1.2: of a nil Reader the error is ErrShort.
func TestNilReader(t *testing.T) {
	tellsNothing(t, nil, api.ErrShort)
}

// P1.2: Fail with no error changes nothing; End tells of bytes that are left, and fails nothing by it.
func TestFailAndEnd(t *testing.T) {
	r := octet.New([]byte("\x01\x02"))
	r.Fail(api.OK)
	if r.Err() != api.OK || r.Left() != 2 || r.End() != api.ErrMore || r.Err() != api.OK {
		t.Errorf("at the beginning: %d, %d left, End %d", r.Err(), r.Left(), r.End())
	}
	if r.Number(9) != 1 || r.Left() != 1 || r.End() != api.ErrMore {
		t.Errorf("in the midst: %d left, End %d", r.Left(), r.End())
	}
	if r.Number(9) != 2 || r.Left() != 0 || r.End() != api.OK {
		t.Errorf("at the end: %d left, End %d", r.Left(), r.End())
	}
	for _, b := range [][]byte{nil, {}} {
		if r := octet.New(b); r.End() != api.OK || r.Left() != 0 || r.Err() != api.OK {
			t.Errorf("of no bytes: End %d", r.End())
		}
	}
}

// P1.2, and the rule 'Memory': a reader keeps nothing of what is handed in.
func TestReaderKeepsNothing(t *testing.T) {
	b := []byte("\x02ab\x02cd")
	r := octet.New(b)
	clear(b)
	if x := r.Bytes(9); string(x) != "ab" {
		t.Errorf("Bytes of what was changed behind New: %x", x)
	}
	b = []byte("\x02ab\x02cd")
	r = octet.New(b)
	clear(r.Bytes(9))
	if string(b) != "\x02ab\x02cd" {
		t.Errorf("what was handed in has changed: %x", b)
	}
}

// P1.2, and the rule 'Memory': no answer of a reader shares with another, or with what is still to be read.
func TestReaderSharesNothing(t *testing.T) {
	r := octet.New([]byte("\x02ab\x02cd"))
	twin := *r
	x := r.Bytes(9)
	for i := range x[:cap(x)] {
		x[:cap(x)][i] = 'z'
	}
	if y := append(x, "zzz"...); string(y) != "zzzzz" {
		t.Errorf("appended: %q", y)
	}
	if y := r.Bytes(9); string(y) != "cd" {
		t.Errorf("what is behind an answer has changed: %q", y)
	}
	if y := twin.Bytes(9); string(y) != "ab" {
		t.Errorf("a reader's copy shares its answers: %q", y)
	}
}

// P1.3: what was put is read, all kinds of it in a row.
func TestWhatWasPutIsRead(t *testing.T) {
	var b []byte
	long := bytes.Repeat([]byte("long"), 1000)
	for _, c := range numberCases {
		b = octet.Number(b, c.n)
		b = octet.Bytes(b, []byte(c.b))
		b = octet.Bytes(b, long)
		for width := range 9 {
			b = octet.Fixed(b, uint64(c.n)*0x0101010101010101, width)
		}
	}
	r := octet.New(b)
	for _, c := range numberCases {
		if n := r.Number(c.n); n != c.n {
			t.Fatalf("Number %d is read as %d", c.n, n)
		}
		if x := r.Bytes(len(c.b)); string(x) != c.b {
			t.Fatalf("Bytes %x are read as %x", c.b, x)
		}
		if x := r.Bytes(len(long)); !bytes.Equal(x, long) {
			t.Fatalf("%d bytes are read as %d", len(long), len(x))
		}
		for width := range 9 {
			want := uint64(c.n) * 0x0101010101010101
			if width < 8 {
				want %= 1 << (8 * width)
			}
			if n := r.Fixed(width); n != want {
				t.Fatalf("Fixed %x of width %d is read as %x", want, width, n)
			}
		}
	}
	if r.End() != api.OK {
		t.Errorf("End: %d", r.End())
	}
}

// onlyItsOwn checks that a number that is read of b has just those bytes of b that it is put as.
func onlyItsOwn(t *testing.T, b []byte) {
	t.Helper()
	r := octet.New(b)
	n := r.Number(math.MaxInt)
	if r.Err() != api.OK {
		return
	}
	if took := b[:len(b)-r.Left()]; !bytes.Equal(octet.Number(nil, n), took) {
		t.Fatalf("%x is read as %d, which is put as %x", took, n, octet.Number(nil, n))
	}
}

// P1.3: nothing else is read as what was put: all rows of up to two bytes, and all of six of bytes at the edges.
func TestNothingElseIsRead(t *testing.T) {
	for i := range 1 << 16 {
		onlyItsOwn(t, []byte{byte(i)})
		onlyItsOwn(t, []byte{byte(i), byte(i >> 8)})
	}
	edges := []byte{0, 1, 0x1f, 0x20, 0x7f, 0x80, 0x81, 0xff}
	for i := range 1 << 18 {
		b := make([]byte, 6)
		for k := range b {
			b[k] = edges[i>>(3*k)%8]
		}
		onlyItsOwn(t, b)
		onlyItsOwn(t, b[:5])
	}
}
