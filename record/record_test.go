package record_test

import (
	"bytes"
	"hash/crc32"
	"math"
	"math/rand"
	"slices"
	"strconv"
	"strings"
	"sync"
	"testing"

	"portmanteau/api"
	"portmanteau/record"
)

const (
	greatest   = 1<<40 - 1
	mostBody   = 1 << 18
	mostVolume = 63
	mostChunk  = 1 << 16
	mostWindow = 1 << 15
	mostTotal  = 1 << 22
)

// id is an ID no two bytes of which are the same.
var id = [16]byte{0xf0, 0xe1, 0xd2, 0xc3, 0xb4, 0xa5, 0x96, 0x87, 0x78, 0x69, 0x5a, 0x4b, 0x3c, 0x2d, 0x1e, 0x0f}

// some is a record, of which each field is something.
func some() record.Record {
	return record.Record{Kind: 3, ID: id, Volume: 5, Number: 300, Body: []byte("body\x00\xff")}
}

// someBytes is its bytes, but for the sum.
const someBytes = "TAPE\x03\xf0\xe1\xd2\xc3\xb4\xa5\x96\x87\x78\x69\x5a\x4b\x3c\x2d\x1e\x0f\x05\xac\x02\x06body\x00\xff"

func somePlan() record.Plan {
	p := record.Plan{Chunk: 300, Window: 7, Total: 70000}
	for i := range p.Digest {
		p.Digest[i] = byte(255 - 3*i)
	}
	return p
}

// summed is bytes, and their sum.
func summed(b []byte) []byte {
	n := crc32.Checksum(b, crc32.MakeTable(crc32.Castagnoli))
	return append(slices.Clone(b), byte(n), byte(n>>8), byte(n>>16), byte(n>>24))
}

func plainNumber(n int) []byte {
	if n < 128 {
		return []byte{byte(n)}
	}
	return append([]byte{byte(n%128 + 128)}, plainNumber(n/128)...)
}

// plainRight is the document's word of a record.
func plainRight(r record.Record) bool {
	return (r.Kind == 1 || r.Kind == 2 || r.Kind == 3 || r.Kind == 4) &&
		r.Volume >= 0 && r.Volume <= 63 && r.Number >= 0 && r.Number <= greatest && len(r.Body) <= 262144
}

// plainHeader is a record's bytes up to its body, of any one whose numbers are none below 0.
func plainHeader(r record.Record) []byte {
	b := append([]byte("TAPE"), byte(r.Kind))
	b = append(b, r.ID[:]...)
	b = append(b, plainNumber(r.Volume)...)
	return append(b, plainNumber(r.Number)...)
}

func plainBytes(r record.Record) []byte {
	b := append(plainHeader(r), plainNumber(len(r.Body))...)
	return summed(append(b, r.Body...))
}

func plainRightPlan(p record.Plan) bool {
	return p.Chunk >= 1 && p.Chunk <= 65536 && p.Window >= 1 && p.Window <= 32768 && p.Total >= 0 && p.Total <= 4194304
}

func plainBody(p record.Plan) []byte {
	b := append(plainNumber(p.Chunk), plainNumber(p.Window)...)
	return slices.Concat(b, plainNumber(p.Total), p.Digest[:])
}

// row is bytes that are taken from the front, by layer 1's words.
type row struct {
	b []byte
	e api.Errno
}

func (r *row) take(n int) []byte {
	if r.e == api.OK && n > len(r.b) {
		r.e = api.ErrShort
	}
	if r.e != api.OK {
		return make([]byte, min(n, 32))
	}
	x := r.b[:n]
	r.b = r.b[n:]
	return x
}

func (r *row) number(most int) int {
	n, size := 0, 1
	for r.e == api.OK {
		switch {
		case size > 6:
			r.e = api.ErrForm
		case size > len(r.b):
			r.e = api.ErrShort
		case r.b[size-1] >= 128:
			size++
		case r.b[size-1] == 0 && size > 1:
			r.e = api.ErrForm
		default:
			for i := size - 1; i >= 0; i-- {
				n = n*128 + int(r.b[i])%128
			}
			if n > most || n > greatest {
				r.e = api.ErrRange
				return 0
			}
			r.take(size)
			return n
		}
	}
	return 0
}

func (r *row) end() api.Errno {
	if r.e == api.OK && len(r.b) > 0 {
		return api.ErrMore
	}
	return r.e
}

// plainDecode is the record of bytes, by the document's words.
func plainDecode(b []byte) (record.Record, api.Errno) {
	if len(b) < 4 {
		return record.Record{}, api.ErrShort
	}
	front := b[:len(b)-4]
	if !bytes.Equal(summed(front), b) {
		return record.Record{}, api.ErrSum
	}
	if len(front) < 4 || string(front[:4]) != "TAPE" {
		return record.Record{}, api.ErrForm
	}
	r := &row{b: front[4:]}
	var x record.Record
	x.Kind = int(r.take(1)[0])
	x.ID = [16]byte(r.take(16))
	x.Volume, x.Number = r.number(63), r.number(greatest)
	x.Body = slices.Clone(r.take(r.number(262144)))
	if e := r.end(); e != api.OK {
		return record.Record{}, e
	}
	if x.Kind < 1 || x.Kind > 4 {
		return record.Record{}, api.ErrForm
	}
	return x, api.OK
}

// plainRead is the plan of a label's body, by the document's words.
func plainRead(b []byte) (record.Plan, api.Errno) {
	r := &row{b: b}
	var p record.Plan
	p.Chunk, p.Window, p.Total = r.number(65536), r.number(32768), r.number(4194304)
	p.Digest = [32]byte(r.take(32))
	if e := r.end(); e != api.OK {
		return record.Plan{}, e
	}
	if p.Chunk == 0 || p.Window == 0 {
		return record.Plan{}, api.ErrForm
	}
	return p, api.OK
}

func equal(a, b record.Record) bool {
	return a.Kind == b.Kind && a.ID == b.ID && a.Volume == b.Volume && a.Number == b.Number && string(a.Body) == string(b.Body)
}

func show(r record.Record) string {
	return strings.Join([]string{strconv.Itoa(r.Kind), strconv.Itoa(r.Volume), strconv.Itoa(r.Number), strconv.Itoa(len(r.Body)) + " bytes"}, ", ")
}

// one holds all calls of a record against the document's words.
func one(t *testing.T, r record.Record, right bool) {
	t.Helper()
	b, e := record.Encode(r)
	h := record.Header(r)
	if record.Right(r) != right || plainRight(r) != right {
		t.Errorf("%s: it may be: %v", show(r), record.Right(r))
	}
	if !right {
		if e != api.ErrArg || len(b) != 0 || len(h) != 0 {
			t.Errorf("%s: that may not be: %d, %d bytes, a header of %d", show(r), e, len(b), len(h))
		}
		return
	}
	if e != api.OK || !bytes.Equal(b, plainBytes(r)) || !bytes.Equal(h, plainHeader(r)) {
		t.Errorf("%s: %d, %d bytes, a header of %d", show(r), e, len(b), len(h))
	}
	if x, e := record.Decode(b); e != api.OK || !equal(x, r) {
		t.Errorf("%s: decoded as %s, %d", show(r), show(x), e)
	}
}

// decode holds Decode of bytes against the error that is known, and the document's words.
func decode(t *testing.T, what string, b []byte, want api.Errno) {
	t.Helper()
	x, e := record.Decode(b)
	y, f := plainDecode(b)
	if e != want || f != want || !equal(x, y) {
		t.Errorf("%s: %d and %s, not %d (%d) and %s", what, e, show(x), want, f, show(y))
	}
}

// read holds Read of bytes likewise.
func read(t *testing.T, what string, b []byte, want api.Errno) {
	t.Helper()
	p, e := record.Read(b)
	q, f := plainRead(b)
	if e != want || f != want || p != q {
		t.Errorf("%s: %d and %d %d %d, not %d (%d)", what, e, p.Chunk, p.Window, p.Total, want, f)
	}
}

// P14.1: the constants of kinds.
func TestKinds(t *testing.T) {
	if record.Label != 1 || record.Segment != 2 || record.Snapshot != 3 || record.Final != 4 {
		t.Error("kinds")
	}
}

// P14.1: a record's bytes by known answers.
func TestKnown(t *testing.T) {
	b, e := record.Encode(record.Record{Kind: 2, ID: [16]byte{1, 2}, Volume: 3, Number: 300, Body: []byte("body")})
	if want := "TAPE\x02\x01\x02" + strings.Repeat("\x00", 14) + "\x03\xac\x02\x04body\xf9\xcd\xfc\x04"; e != api.OK || string(b) != want {
		t.Errorf("%x, %d", b, e)
	}
	b, e = record.Encode(some())
	if e != api.OK || !bytes.Equal(b, summed([]byte(someBytes))) {
		t.Errorf("some: %x, %d", b, e)
	}
	if h := record.Header(some()); string(h) != someBytes[:24] {
		t.Errorf("its header: %x", h)
	}
	if x, e := record.Decode(b); e != api.OK || !equal(x, some()) {
		t.Errorf("it again: %v, %d", x, e)
	}
	b, e = record.Encode(record.Record{Kind: 1})
	if e != api.OK || !bytes.Equal(b, summed(append([]byte("TAPE\x01"), make([]byte, 19)...))) {
		t.Errorf("of noughts: %x, %d", b, e)
	}
}

// P14.1: each field at its edges, of each kind.
func TestFields(t *testing.T) {
	for _, kind := range []int{record.Label, record.Segment, record.Snapshot, record.Final} {
		for n, right := range map[int]bool{0: true, 1: true, 62: true, 63: true, 64: false, 127: false, 128: false, 256: false, -1: false, -64: false, math.MinInt: false, math.MaxInt: false} {
			one(t, record.Record{Kind: kind, ID: id, Volume: n, Number: 9}, right)
		}
		for n, right := range map[int]bool{0: true, 1: true, 127: true, 128: true, 1<<35 - 1: true, 1 << 35: true, greatest - 1: true, greatest: true, greatest + 1: false, 1 << 62: false, -1: false, -greatest: false, math.MinInt: false, math.MaxInt: false} {
			one(t, record.Record{Kind: kind, ID: id, Number: n, Body: []byte("x")}, right)
		}
		for n, right := range map[int]bool{0: true, 1: true, 127: true, 128: true, 1 << 16: true, mostBody - 1: true, mostBody: true, mostBody + 1: false, 1 << 20: false} {
			one(t, record.Record{Kind: kind, ID: id, Volume: mostVolume, Number: greatest, Body: bytes.Repeat([]byte("b"), n)}, right)
		}
	}
	for _, kind := range []int{0, 5, 6, -1, -2, -4, 1 + 256, 4 + 256, 1 << 32, 1 + 1<<32, math.MinInt, math.MaxInt} {
		one(t, record.Record{Kind: kind, ID: id, Volume: 1, Number: 1, Body: []byte("x")}, false)
	}
	one(t, record.Record{}, false)
	one(t, some(), true)
}

// P14.1: Decode's errors, by the document's words in their order.
func TestDecodeErrors(t *testing.T) {
	for n := range 4 {
		decode(t, "too short", make([]byte, n), api.ErrShort)
		decode(t, "too short", []byte("TAPE")[:n], api.ErrShort)
	}
	decode(t, "nil", nil, api.ErrShort)
	decode(t, "no sum", []byte("TAPE"), api.ErrSum)
	decode(t, "no sum", []byte(someBytes), api.ErrSum)
	for n := range 4 {
		decode(t, "a part of the mark", summed([]byte("TAPE")[:n]), api.ErrForm)
	}
	for _, s := range []string{"tape", "TAPF", "PTAP", "TAP\x00", "\x00\x00\x00\x00", "EPAT", "XTAPE"} {
		decode(t, s, summed([]byte(s)), api.ErrForm)
		decode(t, s, summed([]byte(s+someBytes[4:])), api.ErrForm)
		decode(t, s+", and no more", summed([]byte(s+someBytes[4:20])), api.ErrForm)
		decode(t, s+", without a sum", []byte(s+someBytes[4:]), api.ErrSum)
	}
	for n := 4; n < len(someBytes); n++ {
		decode(t, "the first "+strconv.Itoa(n), summed([]byte(someBytes[:n])), api.ErrShort)
		decode(t, "the first "+strconv.Itoa(n)+", without a sum", []byte(someBytes[:n]), api.ErrSum)
	}
	decode(t, "whole", summed([]byte(someBytes)), api.OK)
	decode(t, "one more", summed([]byte(someBytes+"\x00")), api.ErrMore)
	decode(t, "twice", summed([]byte(someBytes+someBytes)), api.ErrMore)
	decode(t, "one more behind the sum", append(summed([]byte(someBytes)), 0), api.ErrSum)
	decode(t, "a sum, and its sum", summed(summed([]byte(someBytes))), api.ErrMore)
}

// P14.1: layer 1's errors of each part, ahead of ErrForm of a kind that is none.
func TestDecodeParts(t *testing.T) {
	most := string(plainNumber(mostBody)) + strings.Repeat("b", mostBody)
	above := string(plainNumber(mostBody+1)) + strings.Repeat("b", mostBody+1)
	for i, c := range []struct {
		rest string
		want api.Errno
	}{
		{"\x00\x00\x00", api.OK}, {"\x3f\x00\x00", api.OK}, {"\x40\x00\x00", api.ErrRange}, {"\x80\x01\x00\x00", api.ErrRange}, {"\x80\x00\x00\x00", api.ErrForm}, {"\xbf\x00\x00\x00", api.ErrForm}, {"\x80\x80\x80\x80\x80\x80\x01", api.ErrForm}, {"\x80", api.ErrShort}, {"", api.ErrShort}, {"\xff\xff\xff\xff\xff\x7f\x00\x00", api.ErrRange},
		{"\x00\xff\xff\xff\xff\xff\x1f\x00", api.OK}, {"\x00\x80\x80\x80\x80\x80\x20\x00", api.ErrRange}, {"\x00\xff\xff\xff\xff\xff\x7f\x00", api.ErrRange}, {"\x00\xff\xff\xff\xff\xff\x80\x00", api.ErrForm}, {"\x00\x81\x00\x00", api.ErrForm}, {"\x00\x81", api.ErrShort}, {"\x00", api.ErrShort},
		{"\x00\x00\x01", api.ErrShort}, {"\x00\x00\x01b", api.OK}, {"\x00\x00\x01bb", api.ErrMore}, {"\x00\x00\x00b", api.ErrMore}, {"\x00\x00\x81\x00b", api.ErrForm}, {"\x00\x00", api.ErrShort}, {"\x00\x00\x80", api.ErrShort},
		{"\x00\x00" + most, api.OK}, {"\x00\x00" + most + "b", api.ErrMore}, {"\x00\x00" + most[:mostBody], api.ErrShort}, {"\x00\x00" + above, api.ErrRange}, {"\x00\x00" + above[:9], api.ErrRange}, {"\x00\x00\xff\xff\xff\xff\xff\x1fb", api.ErrRange},
		{"\x40\x80\x00\x00", api.ErrRange}, {"\x80\x00" + above, api.ErrForm}, {"\x00\x81\x00" + above[:9], api.ErrForm}, {"\x00\x80\x80\x80\x80\x80\x20\x81\x00", api.ErrRange}, {"\x40", api.ErrRange}, {"\x40\x00\x00b", api.ErrRange},
	} {
		for kind := range 256 {
			if kind > 5 && kind < 255 && len(c.rest) > 9 {
				continue
			}
			want := c.want
			if want == api.OK && (kind < 1 || kind > 4) {
				want = api.ErrForm
			}
			b := slices.Concat([]byte("TAPE"), []byte{byte(kind)}, id[:], []byte(c.rest))
			decode(t, "part "+strconv.Itoa(i)+", kind "+strconv.Itoa(kind), summed(b), want)
		}
	}
}

// P14.1: Same looks at each field, of records that may not be too.
func TestSame(t *testing.T) {
	first := id
	first[0]++
	last := id
	last[15]++
	list := []record.Record{
		{}, some(),
		{Kind: 2, ID: id, Volume: 5, Number: 300, Body: some().Body},
		{Kind: 3 + 256, ID: id, Volume: 5, Number: 300, Body: some().Body},
		{Kind: 3, ID: first, Volume: 5, Number: 300, Body: some().Body},
		{Kind: 3, ID: last, Volume: 5, Number: 300, Body: some().Body},
		{Kind: 3, ID: id, Volume: 6, Number: 300, Body: some().Body},
		{Kind: 3, ID: id, Volume: -5, Number: 300, Body: some().Body},
		{Kind: 3, ID: id, Volume: 5, Number: 301, Body: some().Body},
		{Kind: 3, ID: id, Volume: 300, Number: 5, Body: some().Body},
		{Kind: 3, ID: id, Volume: 5, Number: 300, Body: []byte("body\x00\xfe")},
		{Kind: 3, ID: id, Volume: 5, Number: 300, Body: []byte("body\x00")},
		{Kind: 3, ID: id, Volume: 5, Number: 300, Body: []byte("body\x00\xff\x00")},
		{Kind: 3, ID: id, Volume: 5, Number: 300},
		{Kind: math.MinInt, Volume: math.MaxInt, Number: math.MinInt},
		{Kind: 3, Body: make([]byte, mostBody+1)},
	}
	for i, a := range list {
		for k, b := range list {
			b.Body = slices.Clone(b.Body)
			if record.Same(a, b) != (i == k) {
				t.Errorf("Same of %d and %d", i, k)
			}
		}
	}
	if !record.Same(record.Record{Kind: 1}, record.Record{Kind: 1, Body: []byte{}}) || !record.Same(record.Record{Body: []byte{}}, record.Record{}) {
		t.Error("a nil and an empty body")
	}
}

// onePlan holds all calls of a plan against the document's words.
func onePlan(t *testing.T, p record.Plan, right bool) {
	t.Helper()
	b, e := record.Body(p)
	if plainRightPlan(p) != right || (e == api.OK) != right {
		t.Errorf("%d %d %d: %d", p.Chunk, p.Window, p.Total, e)
	}
	if !right {
		if e != api.ErrArg || len(b) != 0 || record.Segments(p) != 0 {
			t.Errorf("%d %d %d: that may not be: %d, %d bytes, %d segments", p.Chunk, p.Window, p.Total, e, len(b), record.Segments(p))
		}
		return
	}
	if !bytes.Equal(b, plainBody(p)) {
		t.Errorf("%d %d %d: %x", p.Chunk, p.Window, p.Total, b)
	}
	if q, e := record.Read(b); e != api.OK || q != p {
		t.Errorf("%d %d %d: read as %d %d %d, %d", p.Chunk, p.Window, p.Total, q.Chunk, q.Window, q.Total, e)
	}
}

// P14.2: a label's body by known answers, and each number at its edges.
func TestBody(t *testing.T) {
	p := somePlan()
	b, e := record.Body(p)
	if e != api.OK || string(b) != "\xac\x02\x07\xf0\xa2\x04"+string(p.Digest[:]) {
		t.Errorf("%x, %d", b, e)
	}
	onePlan(t, p, true)
	for n, right := range map[int]bool{1: true, 2: true, 127: true, 128: true, mostChunk - 1: true, mostChunk: true, mostChunk + 1: false, 0: false, -1: false, math.MinInt: false, math.MaxInt: false} {
		onePlan(t, record.Plan{Chunk: n, Window: 1}, right)
		onePlan(t, record.Plan{Chunk: n, Window: mostWindow, Total: mostTotal, Digest: p.Digest}, right)
	}
	for n, right := range map[int]bool{1: true, 2: true, 127: true, 128: true, mostWindow - 1: true, mostWindow: true, mostWindow + 1: false, 1 << 16: false, 0: false, -1: false, math.MinInt: false, math.MaxInt: false} {
		onePlan(t, record.Plan{Chunk: 1, Window: n}, right)
		onePlan(t, record.Plan{Chunk: mostChunk, Window: n, Total: mostTotal, Digest: p.Digest}, right)
	}
	for n, right := range map[int]bool{0: true, 1: true, 127: true, 128: true, mostTotal - 1: true, mostTotal: true, mostTotal + 1: false, -1: false, -mostTotal: false, math.MinInt: false, math.MaxInt: false} {
		onePlan(t, record.Plan{Chunk: 1, Window: 1, Total: n}, right)
		onePlan(t, record.Plan{Chunk: mostChunk, Window: mostWindow, Total: n, Digest: p.Digest}, right)
	}
	onePlan(t, record.Plan{}, false)
	onePlan(t, record.Plan{Digest: p.Digest}, false)
}

// P14.2: Read's errors: layer 1's first one, and then ErrForm of a 0.
func TestRead(t *testing.T) {
	d := string(bytes.Repeat([]byte{7}, 32))
	for i, c := range []struct {
		b    string
		want api.Errno
	}{
		{"", api.ErrShort}, {"\x01", api.ErrShort}, {"\x01\x01", api.ErrShort}, {"\x01\x01\x00", api.ErrShort}, {"\x01\x01\x00" + d[:31], api.ErrShort}, {"\x01\x01\x00" + d, api.OK}, {"\x01\x01\x00" + d + "\x00", api.ErrMore}, {"\x01\x01\x00" + d + d, api.ErrMore},
		{"\x80\x80\x04\x01\x00" + d, api.OK}, {"\x81\x80\x04\x01\x00" + d, api.ErrRange}, {"\x00\x01\x00" + d, api.ErrForm}, {"\x81\x00\x01\x00" + d, api.ErrForm}, {"\x80", api.ErrShort}, {"\xff\xff\xff\xff\xff\x1f\x01\x00" + d, api.ErrRange},
		{"\x01\x80\x80\x02\x00" + d, api.OK}, {"\x01\x81\x80\x02\x00" + d, api.ErrRange}, {"\x01\x80\x80\x04\x00" + d, api.ErrRange}, {"\x01\x00\x00" + d, api.ErrForm}, {"\x01\x81\x00\x00" + d, api.ErrForm}, {"\x01\x80", api.ErrShort},
		{"\x01\x01\x80\x80\x80\x02" + d, api.OK}, {"\x01\x01\x81\x80\x80\x02" + d, api.ErrRange}, {"\x01\x01\x80\x00" + d, api.ErrForm}, {"\x01\x01\x80", api.ErrShort}, {"\x01\x01\x80\x80\x80\x80\x80\x80\x01" + d, api.ErrForm},
		{"\x00\x00\x00" + d, api.ErrForm}, {"\x00\x00\x00" + d[:31], api.ErrShort}, {"\x00\x01\x00" + d + "\x00", api.ErrMore}, {"\x01\x00\x00" + d + "\x00", api.ErrMore}, {"\x00\x81\x80\x02\x00" + d, api.ErrRange}, {"\x00\x01\x81\x80\x80\x02" + d, api.ErrRange}, {"\x00", api.ErrShort}, {"\x00\x01", api.ErrShort},
		{"\x81\x80\x04\x80\x00", api.ErrRange}, {"\x80\x00\x81\x80\x02", api.ErrForm}, {"\x01\x81\x80\x02\x80\x00", api.ErrRange},
	} {
		read(t, "body "+strconv.Itoa(i), []byte(c.b), c.want)
	}
	read(t, "nil", nil, api.ErrShort)
	read(t, "noughts", make([]byte, 35), api.ErrForm)
	read(t, "many", make([]byte, 1<<20), api.ErrMore)
}

// P14.2: how many segments there are, known, and counted.
func TestSegments(t *testing.T) {
	for _, c := range [][3]int{{10, 4, 3}, {10, 5, 2}, {10, 3, 4}, {10, 1, 10}, {10, 10, 1}, {10, 9, 2}, {10, 11, 1}, {10, mostChunk, 1}, {0, 1, 0}, {0, mostChunk, 0}, {1, 1, 1}, {mostTotal, 1, mostTotal}, {mostTotal, mostChunk, 64}, {mostTotal - 1, mostChunk, 64}, {mostTotal - mostChunk, mostChunk, 63}, {mostTotal - mostChunk + 1, mostChunk, 64}, {mostTotal, 3, 1398102}} {
		if n := record.Segments(record.Plan{Chunk: c[1], Window: 1, Total: c[0]}); n != c[2] {
			t.Errorf("%d in %d: %d", c[0], c[1], n)
		}
	}
	for chunk := 1; chunk < 20; chunk++ {
		for total := range 100 {
			want := 0
			for left := total; left > 0; left -= chunk {
				want++
			}
			if n := record.Segments(record.Plan{Chunk: chunk, Window: mostWindow, Total: total, Digest: somePlan().Digest}); n != want {
				t.Errorf("%d in %d: %d", total, chunk, n)
			}
		}
	}
	for _, p := range []record.Plan{{Chunk: 0, Window: 1, Total: 10}, {Chunk: -1, Window: 1, Total: 10}, {Chunk: mostChunk + 1, Window: 1, Total: 10}, {Chunk: 4, Total: 10}, {Chunk: 4, Window: -1, Total: 10}, {Chunk: 4, Window: mostWindow + 1, Total: 10}, {Chunk: 4, Window: 1, Total: -10}, {Chunk: 4, Window: 1, Total: mostTotal + 1}, {Chunk: math.MinInt, Window: 1, Total: math.MinInt}} {
		if n := record.Segments(p); n != 0 {
			t.Errorf("%d in %d, window %d: %d", p.Total, p.Chunk, p.Window, n)
		}
	}
}

// anyRecord is a record that may be, by chance.
func anyRecord(r *rand.Rand) record.Record {
	x := record.Record{Kind: 1 + r.Intn(4), Volume: r.Intn(64), Number: r.Intn(greatest+1) >> r.Intn(40), Body: make([]byte, r.Intn(1+r.Intn(1000)))}
	r.Read(x.ID[:])
	r.Read(x.Body)
	return x
}

// P14.3: what was encoded is decoded.
func TestAgain(t *testing.T) {
	r := rand.New(rand.NewSource(1))
	for range 2000 {
		one(t, anyRecord(r), true)
		p := record.Plan{Chunk: 1 + r.Intn(mostChunk)>>r.Intn(16), Window: 1 + r.Intn(mostWindow)>>r.Intn(15), Total: r.Intn(mostTotal+1) >> r.Intn(22)}
		r.Read(p.Digest[:])
		onePlan(t, p, true)
	}
}

// P14.3: bits that are turned within one byte, of the sum too, leave nothing.
func TestTurned(t *testing.T) {
	r := rand.New(rand.NewSource(2))
	for _, x := range []record.Record{some(), {Kind: 1}, {Kind: 4, Volume: mostVolume, Number: greatest, Body: make([]byte, 100)}, anyRecord(r)} {
		b := plainBytes(x)
		for i := range b {
			for turn := 1; turn < 256; turn++ {
				b[i] ^= byte(turn)
				if y, e := record.Decode(b); e != api.ErrSum || !equal(y, record.Record{}) {
					t.Fatalf("%s: byte %d turned by %d: %d", show(x), i, turn, e)
				}
				b[i] ^= byte(turn)
			}
		}
	}
	big := plainBytes(record.Record{Kind: 2, Body: bytes.Repeat([]byte{0xa5}, mostBody)})
	for i := 0; i < len(big); i += 5003 {
		turn := byte(1 + i%255)
		big[i] ^= turn
		decode(t, "the greatest, byte "+strconv.Itoa(i), big, api.ErrSum)
		big[i] ^= turn
	}
}

// near is bytes that differ a little from others: a byte is another one, or missing, or there is one more.
func near(b []byte, yield func(b []byte)) {
	for i := range len(b) + 1 {
		for _, n := range []int{0, 1, 2, 3, 4, 5, 6, 7, 31, 32, 62, 63, 64, 65, 127, 128, 129, 130, 131, 132, 191, 192, 254, 255} {
			if i < len(b) {
				c := slices.Clone(b)
				c[i] = byte(n)
				yield(c)
			}
			yield(slices.Insert(slices.Clone(b), i, byte(n)))
		}
		if i < len(b) {
			yield(slices.Delete(slices.Clone(b), i, i+1))
			yield(slices.Delete(slices.Clone(b), i, min(i+2, len(b))))
		}
	}
}

// P14.3: nothing else is decoded as what was encoded, though its sum holds.
func TestNothingElse(t *testing.T) {
	for _, x := range []record.Record{some(), {Kind: 1}, {Kind: 4, ID: id, Volume: mostVolume, Number: greatest, Body: make([]byte, 130)}, {Kind: 2, Number: 1 << 14, Body: []byte("\x00")}} {
		b := plainBytes(x)
		near(b[:len(b)-4], func(c []byte) {
			c = summed(c)
			y, e := record.Decode(c)
			z, f := plainDecode(c)
			if e != f || !equal(y, z) || e == api.OK && !bytes.Equal(plainBytes(y), c) {
				t.Errorf("%x: %d and %s, not %d and %s", c, e, show(y), f, show(z))
			}
		})
	}
	for _, p := range []record.Plan{somePlan(), {Chunk: 1, Window: 1}, {Chunk: mostChunk, Window: mostWindow, Total: mostTotal}} {
		near(plainBody(p), func(c []byte) {
			q, e := record.Read(c)
			z, f := plainRead(c)
			if e != f || q != z || e == api.OK && !bytes.Equal(plainBody(q), c) {
				t.Errorf("%x: %d and %d %d %d, not %d", c, e, q.Chunk, q.Window, q.Total, f)
			}
		})
	}
}

// P14.3: any bytes are decoded, or read, as just what has these bytes.
func TestAnyBytes(t *testing.T) {
	r := rand.New(rand.NewSource(3))
	for range 20000 {
		b := make([]byte, r.Intn(60))
		r.Read(b)
		for i := range b {
			b[i] >>= r.Intn(8)
		}
		for _, c := range [][]byte{b, summed(b), summed(append([]byte("TAPE"), b...))} {
			x, e := record.Decode(c)
			if y, f := plainDecode(c); e != f || !equal(x, y) || e == api.OK && !bytes.Equal(plainBytes(x), c) {
				t.Fatalf("%x: %d and %s, not %d", c, e, show(x), f)
			}
		}
		p, e := record.Read(b)
		if q, f := plainRead(b); e != f || p != q || e == api.OK && !bytes.Equal(plainBody(p), b) {
			t.Fatalf("%x: %d, not %d", b, e, f)
		}
	}
}

// What is handed in is not changed, the room behind it neither.
func TestNothingChanged(t *testing.T) {
	room := func(b []byte) []byte { return append(b, "room for more"...)[:len(b)] }
	x := some()
	x.Body = room(x.Body)
	b := room(plainBytes(x))
	p := room(plainBody(somePlan()))
	lists := [][]byte{x.Body, b, p}
	var before [][]byte
	for _, l := range lists {
		before = append(before, slices.Clone(l[:cap(l)]))
	}
	record.Right(x)
	record.Same(x, x)
	record.Header(x)
	record.Encode(x)
	record.Decode(b)
	record.Read(p)
	for i, l := range lists {
		if !bytes.Equal(l[:cap(l)], before[i]) {
			t.Errorf("list %d has changed", i)
		}
	}
}

// spoil writes over bytes, their spare room too.
func spoil(b []byte) {
	b = b[:cap(b)]
	for i := range b {
		b[i] = 'z'
	}
}

// An answer shares nothing with an argument, nor with another answer.
func TestNewMemory(t *testing.T) {
	x := some()
	want := plainBytes(x)
	head := string(plainHeader(x))
	for i, call := range []func() []byte{
		func() []byte { b, _ := record.Encode(x); return b },
		func() []byte { return record.Header(x) },
		func() []byte { b, _ := record.Body(somePlan()); return b },
		func() []byte { y, _ := record.Decode(want); return y.Body },
	} {
		first, second := call(), call()
		keep := string(second)
		spoil(first)
		if len(keep) == 0 || string(second) != keep || string(call()) != keep || !equal(x, some()) {
			t.Errorf("answer %d shares", i)
		}
	}
	y, _ := record.Decode(want)
	b, _ := record.Encode(x)
	h := record.Header(x)
	spoil(want)
	spoil(x.Body)
	if !equal(y, some()) || !bytes.Equal(b, plainBytes(some())) || string(h) != head {
		t.Error("what was handed in is kept")
	}
}

// Calls side by side answer the same.
func TestSideBySide(t *testing.T) {
	x := some()
	b, p := plainBytes(x), somePlan()
	c := plainBody(p)
	var all sync.WaitGroup
	for range 8 {
		all.Go(func() {
			for range 200 {
				y, e := record.Decode(b)
				d, f := record.Encode(x)
				q, g := record.Read(c)
				l, h := record.Body(p)
				if e+f+g+h != api.OK || !record.Same(x, y) || !bytes.Equal(d, b) || q != p || !bytes.Equal(l, c) || record.Segments(p) != 234 || string(record.Header(x)) != someBytes[:24] {
					t.Error("another answer")
				}
			}
		})
	}
	all.Wait()
}
