package entry_test

import (
	"bytes"
	"math"
	"math/rand"
	"slices"
	"strconv"
	"strings"
	"sync"
	"testing"

	"portmanteau/api"
	"portmanteau/entry"
)

const (
	mostFiles = 1 << 10
	mostSize  = 1 << 20
	mostTotal = 1 << 22
	mostText  = 256
	greatest  = 1<<40 - 1
)

// zeros is data of any size that may be, and some more.
var zeros = make([]byte, mostTotal+2)

// plainPath is the document's word of a path.
func plainPath(s string) bool {
	for _, part := range strings.Split(s, "/") {
		if len(part) < 1 || len(part) > 64 || part == "." || part == ".." {
			return false
		}
		for i := 0; i < len(part); i++ {
			if part[i] < 33 || part[i] > 126 || part[i] == '\\' {
				return false
			}
		}
	}
	return len(s) <= 256
}

func plainAhead(a, b string) bool {
	return slices.Compare(strings.Split(a, "/"), strings.Split(b, "/")) < 0
}

// plainFile is the document's word of a file, but for its path and how much data it has.
func plainFile(f entry.File) bool {
	if f.Mode < 0 || f.Mode > 4095 || f.Time < 0 || f.Time > greatest {
		return false
	}
	switch f.Kind {
	case 1:
		return len(f.To) == 0
	case 2:
		return len(f.To) == 0 && len(f.Data) == 0
	case 3:
		return len(f.To) >= 1 && len(f.To) <= 256 && len(f.Data) == 0
	}
	return false
}

// plainError is the error of files, by the document's words.
func plainError(l []entry.File) api.Errno {
	for _, f := range l {
		if !plainPath(f.Path) {
			return api.ErrPath
		}
	}
	for i := 1; i < len(l); i++ {
		if !plainAhead(l[i-1].Path, l[i].Path) {
			return api.ErrTwice
		}
	}
	sum := 0
	for _, f := range l {
		sum += len(f.Data)
		if len(f.Data) > mostSize {
			return api.ErrLong
		}
	}
	if len(l) > mostFiles || sum > mostTotal {
		return api.ErrLong
	}
	for _, f := range l {
		if !plainFile(f) {
			return api.ErrArg
		}
	}
	return api.OK
}

func plainEntries(l []entry.File) []entry.Entry {
	var out []entry.Entry
	for i, f := range l {
		e := entry.Entry{Path: f.Path, Kind: f.Kind, Mode: f.Mode, Time: f.Time, To: f.To, Size: len(f.Data)}
		for _, g := range l[:i] {
			e.Begin += len(g.Data)
		}
		out = append(out, e)
	}
	return out
}

// plainFine asks whether entries are those of some files.
func plainFine(l []entry.Entry) bool {
	var files []entry.File
	for _, e := range l {
		if e.Size < 0 || e.Size > mostSize {
			return false
		}
		files = append(files, entry.File{Path: e.Path, Kind: e.Kind, Mode: e.Mode, Time: e.Time, To: e.To, Data: zeros[:e.Size]})
	}
	return plainError(files) == api.OK && slices.Equal(plainEntries(files), l)
}

func plainNumber(n int) []byte {
	if n < 128 {
		return []byte{byte(n)}
	}
	return append([]byte{byte(n%128 + 128)}, plainNumber(n/128)...)
}

func plainText(s string) []byte {
	return append(plainNumber(len(s)), s...)
}

// plainBytes is the bytes of any entries whose numbers are none below 0.
func plainBytes(l []entry.Entry) []byte {
	b := plainNumber(len(l))
	for _, e := range l {
		for _, n := range []int{e.Kind, e.Mode, e.Time, e.Begin, e.Size} {
			b = append(b, plainNumber(n)...)
		}
		b = append(b, plainText(e.Path)...)
		b = append(b, plainText(e.To)...)
	}
	return b
}

func stream(l []entry.File) []byte {
	var b []byte
	for _, f := range l {
		b = append(b, f.Data...)
	}
	return b
}

func sameFiles(a, b []entry.File) bool {
	return slices.EqualFunc(a, b, func(x, y entry.File) bool {
		data := bytes.Equal(x.Data, y.Data)
		return data && x.Path == y.Path && x.Kind == y.Kind && x.Mode == y.Mode && x.Time == y.Time && x.To == y.To
	})
}

// cloneFiles copies files, their data too.
func cloneFiles(l []entry.File) []entry.File {
	out := slices.Clone(l)
	for i := range out {
		out[i].Data = slices.Clone(out[i].Data)
	}
	return out
}

// name is the nth of names in order.
func name(n int) string { return "f" + strconv.Itoa(100000+n) }

// many is so many files, in order.
func many(n int) []entry.File {
	var l []entry.File
	for i := range n {
		l = append(l, entry.File{Path: name(i), Kind: 1})
	}
	return l
}

// sized is plain files of such sizes.
func sized(sizes ...int) []entry.File {
	l := many(len(sizes))
	for i, n := range sizes {
		l[i].Data = zeros[:n]
	}
	return l
}

func x(n int) string { return strings.Repeat("x", n) }

// some is a few files of all kinds.
func some() []entry.File {
	return []entry.File{
		{Path: "a", Kind: 2, Mode: 0o755, Time: 300},
		{Path: "a/x", Kind: 1, Mode: 0o644, Time: 7, Data: []byte("hello")},
		{Path: "a/y", Kind: 3, To: "../x y/\x00\xff"},
		{Path: "a/z", Kind: 1},
		{Path: "a.b", Kind: 1, Mode: 4095, Time: greatest, Data: []byte("!!")},
		{Path: "b", Kind: 2},
		{Path: "b/c/d", Kind: 1, Data: []byte("\x00")},
	}
}

func someEntries(t *testing.T) []entry.Entry {
	l, e := entry.Of(some())
	if e != api.OK || len(l) != 7 {
		t.Fatal("entries:", e)
	}
	return l
}

// anyFiles is files that may be, by chance.
func anyFiles(r *rand.Rand, most int) []entry.File {
	var l []entry.File
	var names []string
	for range r.Intn(most + 1) {
		s := ""
		for k := range 1 + r.Intn(3) {
			if k > 0 {
				s += "/"
			}
			s += string("ab-.~"[r.Intn(3)]) + string("abz.-!"[r.Intn(6)])
		}
		names = append(names, s)
	}
	slices.SortFunc(names, func(a, b string) int { return slices.Compare(strings.Split(a, "/"), strings.Split(b, "/")) })
	for _, s := range slices.Compact(names) {
		f := entry.File{Path: s, Kind: 1 + r.Intn(3), Mode: r.Intn(4096), Time: r.Intn(greatest+1) >> r.Intn(40)}
		switch f.Kind {
		case 1:
			f.Data = make([]byte, r.Intn(1+r.Intn(300)))
			r.Read(f.Data)
		case 3:
			to := make([]byte, 1+r.Intn(1+r.Intn(256)))
			r.Read(to)
			f.To = string(to)
		}
		l = append(l, f)
	}
	return l
}

// one holds Right and Of of files against the error that is known, and the document's words.
func one(t *testing.T, what string, l []entry.File, want api.Errno) {
	t.Helper()
	list, e := entry.Of(l)
	if e != want || plainError(l) != want || entry.Right(l) != (want == api.OK) {
		t.Errorf("%s: %d, not %d; %v", what, e, want, entry.Right(l))
	}
	if e == api.OK && !slices.Equal(list, plainEntries(l)) || e != api.OK && len(list) != 0 {
		t.Errorf("%s: other entries", what)
	}
}

// P13.1: the constants of kinds.
func TestKinds(t *testing.T) {
	if entry.Plain != 1 || entry.Dir != 2 || entry.Link != 3 {
		t.Error("kinds")
	}
}

// P13.1: entries by known answers.
func TestOf(t *testing.T) {
	l, e := entry.Of([]entry.File{{Path: "a", Kind: 1, Data: []byte("abc")}, {Path: "b", Kind: 1, Data: []byte("de")}})
	if e != api.OK || !slices.Equal(l, []entry.Entry{{Path: "a", Kind: 1, Size: 3}, {Path: "b", Kind: 1, Begin: 3, Size: 2}}) {
		t.Error("two:", l, e)
	}
	want := []entry.Entry{
		{Path: "a", Kind: 2, Mode: 0o755, Time: 300},
		{Path: "a/x", Kind: 1, Mode: 0o644, Time: 7, Size: 5},
		{Path: "a/y", Kind: 3, To: "../x y/\x00\xff", Begin: 5},
		{Path: "a/z", Kind: 1, Begin: 5},
		{Path: "a.b", Kind: 1, Mode: 4095, Time: greatest, Begin: 5, Size: 2},
		{Path: "b", Kind: 2, Begin: 7},
		{Path: "b/c/d", Kind: 1, Begin: 7, Size: 1},
	}
	if l := someEntries(t); !slices.Equal(l, want) {
		t.Error("some:", l)
	}
	one(t, "some", some(), api.OK)
	one(t, "nil", nil, api.OK)
	one(t, "empty", []entry.File{}, api.OK)
}

// P13.1: of one file: each field at its edges.
func TestOneFile(t *testing.T) {
	for _, kind := range []int{entry.Plain, entry.Dir, entry.Link} {
		to := ""
		if kind == entry.Link {
			to = "x"
		}
		for n, want := range map[int]api.Errno{0: api.OK, 1: api.OK, 4094: api.OK, 4095: api.OK, 4096: api.ErrArg, 1 << 13: api.ErrArg, -1: api.ErrArg, math.MinInt: api.ErrArg, math.MaxInt: api.ErrArg} {
			one(t, "mode", []entry.File{{Path: "a", Kind: kind, Mode: n, To: to}}, want)
		}
		for n, want := range map[int]api.Errno{0: api.OK, 1: api.OK, greatest - 1: api.OK, greatest: api.OK, greatest + 1: api.ErrArg, -1: api.ErrArg, math.MinInt: api.ErrArg, math.MaxInt: api.ErrArg} {
			one(t, "time", []entry.File{{Path: "a", Kind: kind, Time: n, To: to}}, want)
		}
	}
	for _, kind := range []int{0, 4, 5, -1, -2, -3, 1 + 256, math.MinInt, math.MaxInt} {
		for _, f := range []entry.File{{}, {To: "x"}, {Data: []byte("x")}, {Data: []byte{}}} {
			f.Path, f.Kind = "a", kind
			one(t, "kind "+strconv.Itoa(kind), []entry.File{f}, api.ErrArg)
		}
	}
}

// P13.1: only a plain file has data, only a link has what it links to.
func TestWhatKindsHave(t *testing.T) {
	for _, c := range []struct {
		f    entry.File
		want api.Errno
	}{
		{entry.File{Kind: 1}, api.OK}, {entry.File{Kind: 1, Data: []byte{}}, api.OK}, {entry.File{Kind: 1, Data: []byte{0}}, api.OK}, {entry.File{Kind: 1, Data: zeros[:mostSize-1]}, api.OK}, {entry.File{Kind: 1, Data: zeros[:mostSize]}, api.OK}, {entry.File{Kind: 1, Data: zeros[:mostSize+1]}, api.ErrLong}, {entry.File{Kind: 1, Data: zeros}, api.ErrLong},
		{entry.File{Kind: 1, To: "x"}, api.ErrArg}, {entry.File{Kind: 1, To: "x", Data: []byte("x")}, api.ErrArg}, {entry.File{Kind: 1, To: x(257)}, api.ErrArg},
		{entry.File{Kind: 2}, api.OK}, {entry.File{Kind: 2, Data: []byte{}}, api.OK}, {entry.File{Kind: 2, Data: []byte{0}}, api.ErrArg}, {entry.File{Kind: 2, Data: zeros[:mostSize]}, api.ErrArg}, {entry.File{Kind: 2, Data: zeros[:mostSize+1]}, api.ErrLong}, {entry.File{Kind: 2, To: "x"}, api.ErrArg}, {entry.File{Kind: 2, To: x(257)}, api.ErrArg},
		{entry.File{Kind: 3}, api.ErrArg}, {entry.File{Kind: 3, To: "x"}, api.OK}, {entry.File{Kind: 3, To: x(255)}, api.OK}, {entry.File{Kind: 3, To: x(256)}, api.OK}, {entry.File{Kind: 3, To: x(257)}, api.ErrArg}, {entry.File{Kind: 3, To: x(1 << 20)}, api.ErrArg}, {entry.File{Kind: 3, To: "x", Data: []byte{0}}, api.ErrArg}, {entry.File{Kind: 3, To: "x", Data: zeros[:mostSize+1]}, api.ErrLong}, {entry.File{Kind: 3, Data: []byte("x")}, api.ErrArg}, {entry.File{Kind: 3, To: "x", Data: []byte{}}, api.OK},
		{entry.File{Kind: 3, To: "\x00"}, api.OK}, {entry.File{Kind: 3, To: "/"}, api.OK}, {entry.File{Kind: 3, To: ".."}, api.OK}, {entry.File{Kind: 3, To: "\xff\n é"}, api.OK}, {entry.File{Kind: 3, To: strings.Repeat("é", 128)}, api.OK}, {entry.File{Kind: 3, To: strings.Repeat("é", 128) + "x"}, api.ErrArg},
	} {
		c.f.Path = "p/a"
		one(t, "kind "+strconv.Itoa(c.f.Kind)+", to "+strconv.Itoa(len(c.f.To))+", data "+strconv.Itoa(len(c.f.Data)), []entry.File{c.f}, c.want)
	}
}

// P13.1: ErrPath of each that may not be, wherever; ErrTwice of any that do not stand in order.
func TestPaths(t *testing.T) {
	for _, s := range []string{"", "/", "/a", "a/", "a//b", ".", "..", "a/./b", "a/..", "a b", "a\\b", "a\x00", "a\x7f", "é", "\xff", x(65), strings.Repeat("x/", 128) + "x"} {
		for at := range 4 {
			l := slices.Insert(sized(1, 2, 3), at, entry.File{Path: s, Kind: 1})
			one(t, strconv.Quote(s)+" at "+strconv.Itoa(at), l, api.ErrPath)
		}
	}
	for _, s := range []string{"a", x(64), strings.Repeat("x/", 127) + "xy", "...", "a/b.c/-", "~"} {
		one(t, s, []entry.File{{Path: s, Kind: 1}}, api.OK)
	}
	for _, c := range []struct {
		l    []string
		want api.Errno
	}{
		{[]string{"a", "a"}, api.ErrTwice}, {[]string{"b", "a"}, api.ErrTwice}, {[]string{"a", "b", "b"}, api.ErrTwice}, {[]string{"a", "b", "a"}, api.ErrTwice}, {[]string{"a", "a.b", "a/b"}, api.ErrTwice}, {[]string{"a/b", "a"}, api.ErrTwice}, {[]string{"a", "c", "b", "d"}, api.ErrTwice},
		{[]string{"a", "a/b", "a.b"}, api.OK}, {[]string{"a/b", "a.b"}, api.OK}, {[]string{"a", "a-", "a-/b", "a-b", "b"}, api.OK}, {[]string{"A", "a"}, api.OK},
	} {
		for _, kind := range []int{1, 2} {
			var l []entry.File
			for _, s := range c.l {
				l = append(l, entry.File{Path: s, Kind: kind})
			}
			one(t, strings.Join(c.l, " "), l, c.want)
		}
	}
}

// P13.1: ErrLong of more files, or of more data, of one or of all.
func TestLong(t *testing.T) {
	one(t, "all but one file", many(mostFiles-1), api.OK)
	one(t, "all files", many(mostFiles), api.OK)
	one(t, "one more file", many(mostFiles+1), api.ErrLong)
	one(t, "many more files", many(3*mostFiles), api.ErrLong)
	const m = mostSize
	for i, c := range []struct {
		sizes []int
		want  api.Errno
	}{
		{[]int{m, m, m, m}, api.OK}, {[]int{m, m, m, m, 0}, api.OK}, {[]int{0, m, m, 0, m, m, 0, 0}, api.OK}, {[]int{m, m, m, m - 1, 1}, api.OK}, {[]int{1, m, m, m, m - 1}, api.OK},
		{[]int{m, m, m, m, 1}, api.ErrLong}, {[]int{1, m, m, m, m}, api.ErrLong}, {[]int{m, m, m, m, 0, 1}, api.ErrLong}, {[]int{m, m, m, m - 1, 2}, api.ErrLong}, {[]int{m, m, m, m, m}, api.ErrLong}, {[]int{m + 1}, api.ErrLong}, {[]int{1, m + 1, 1}, api.ErrLong}, {[]int{1, 1, m + 1}, api.ErrLong}, {[]int{mostTotal}, api.ErrLong}, {[]int{m + 1, m, m, m - 1}, api.ErrLong},
	} {
		one(t, "sizes "+strconv.Itoa(i), sized(c.sizes...), c.want)
	}
}

// P13.1: where several are amiss, the error that is named first.
func TestFirstError(t *testing.T) {
	path := func(l []entry.File) []entry.File { return append(l, entry.File{Path: "g/", Kind: 1}) }
	twice := func(l []entry.File) []entry.File { return append(l, entry.File{Path: "f", Kind: 1}) }
	files := func(l []entry.File) []entry.File { return append(many(mostFiles), l...) }
	size := func(l []entry.File) []entry.File {
		return append(l, entry.File{Path: "h", Kind: 1, Data: zeros[:mostSize+1]})
	}
	full := func(l []entry.File) []entry.File { return append(sized(mostSize, mostSize, mostSize, mostSize), l...) }
	sum := func(l []entry.File) []entry.File {
		return append(full(l), entry.File{Path: "i", Kind: 1, Data: zeros[:1]})
	}
	arg := func(l []entry.File) []entry.File { return append([]entry.File{{Path: "e", Kind: 2, To: "x"}}, l...) }
	dir := func(l []entry.File) []entry.File {
		return append([]entry.File{{Path: "d", Kind: 2, Data: []byte("x")}}, l...)
	}
	type add = func(l []entry.File) []entry.File
	for i, c := range []struct {
		adds []add
		want api.Errno
	}{
		{[]add{twice, path}, api.ErrPath}, {[]add{path, files}, api.ErrPath}, {[]add{size, path}, api.ErrPath}, {[]add{path, sum}, api.ErrPath}, {[]add{path, arg}, api.ErrPath}, {[]add{twice, path, files, arg}, api.ErrPath},
		{[]add{twice, files}, api.ErrTwice}, {[]add{size, twice}, api.ErrTwice}, {[]add{twice, sum}, api.ErrTwice}, {[]add{twice, arg}, api.ErrTwice}, {[]add{twice, dir}, api.ErrTwice}, {[]add{sum, files, twice, arg}, api.ErrTwice},
		{[]add{files, arg}, api.ErrLong}, {[]add{size, arg}, api.ErrLong}, {[]add{sum, arg}, api.ErrLong}, {[]add{files, dir}, api.ErrLong}, {[]add{arg}, api.ErrArg}, {[]add{dir}, api.ErrArg}, {[]add{dir, dir}, api.ErrTwice},
		// The data of a directory is counted too.
		{[]add{full, dir}, api.ErrLong}, {[]add{full}, api.OK}, {nil, api.OK},
	} {
		l := []entry.File{{Path: "g", Kind: 1}}
		for _, a := range c.adds {
			l = a(l)
		}
		one(t, "several, "+strconv.Itoa(i), l, c.want)
	}
}

// turned is entries with one field of one of them turned, in all ways that are near.
func turned(l []entry.Entry) [][]entry.Entry {
	var out [][]entry.Entry
	put := func(i int, e entry.Entry) {
		m := slices.Clone(l)
		m[i] = e
		out = append(out, m)
	}
	for i, e := range l {
		for _, n := range []int{-1, 1, 2, -e.Size, -e.Begin, mostSize, mostTotal, math.MinInt, math.MaxInt, 1 << 62} {
			f := e
			f.Begin += n
			put(i, f)
			f = e
			f.Size += n
			put(i, f)
			f = e
			f.Begin, f.Size = f.Begin+n, f.Size-n
			put(i, f)
			f = e
			f.Kind += n
			put(i, f)
			f = e
			f.Mode += n
			put(i, f)
			f = e
			f.Time += n
			put(i, f)
		}
		for _, s := range []string{"", "a", "a/", "zz", x(256), x(257)} {
			f := e
			f.Path = s
			put(i, f)
			f = e
			f.To = s
			put(i, f)
		}
		out = append(out, slices.Delete(slices.Clone(l), i, i+1), slices.Insert(slices.Clone(l), i, e), slices.Insert(slices.Clone(l), i, entry.Entry{}))
	}
	return out
}

// P13.1: entries may be, if they are those of some files.
func TestFine(t *testing.T) {
	l := someEntries(t)
	if !entry.Fine(nil) || !entry.Fine([]entry.Entry{}) || !entry.Fine(l) || !entry.Fine(l[:4]) {
		t.Error("those of files may not be")
	}
	if entry.Fine(l[2:]) || entry.Fine([]entry.Entry{{}}) || entry.Fine([]entry.Entry{{Path: "a"}}) {
		t.Error("those of no files may be")
	}
	right, wrong := 0, 0
	for i, m := range turned(l) {
		ok := plainFine(m)
		if entry.Fine(m) != ok {
			t.Errorf("%d turned: %v: %v", i, m, !ok)
		}
		if ok {
			right++
		} else {
			wrong++
		}
	}
	if right < 30 || wrong < 300 {
		t.Error("turned in few ways:", right, wrong)
	}
}

// P13.1: entries at the limits.
func TestFineLimits(t *testing.T) {
	const m = mostSize
	for i, c := range []struct {
		sizes []int
		want  bool
	}{
		{[]int{m}, true}, {[]int{m + 1}, false}, {[]int{m, m, m, m}, true}, {[]int{m, m, m, m, 0}, true}, {[]int{m, m, m, m, 1}, false}, {[]int{m, m, m, m - 1, 1}, true}, {[]int{m, m, m, m - 1, 2}, false}, {[]int{m, m, m, m, m}, false}, {[]int{m, m, m, m, 1, -1}, false},
		{[]int{-1}, false}, {[]int{-1, 1}, false}, {[]int{1, -1}, false}, {[]int{0}, true}, {[]int{math.MaxInt, math.MaxInt, 2}, false}, {[]int{math.MinInt, math.MinInt}, false}, {[]int{1 << 62, 1 << 62, 1 << 62, 1 << 62}, false},
		{make([]int, mostFiles), true}, {make([]int, mostFiles+1), false}, {make([]int, 2*mostFiles), false},
	} {
		begin := 0
		var l []entry.Entry
		for k, n := range c.sizes {
			l = append(l, entry.Entry{Path: name(k), Kind: 1, Begin: begin, Size: n})
			begin += n
		}
		if entry.Fine(l) != c.want {
			t.Errorf("sizes %d: %v", i, !c.want)
		}
		if n := entry.Total(l); c.want && n != begin || !c.want && n != 0 {
			t.Errorf("sizes %d: total %d", i, n)
		}
		if _, e := entry.Encode(l); (e == api.OK) != c.want {
			t.Errorf("sizes %d: Encode %d", i, e)
		}
	}
}

// P13.1: the sum of all sizes of entries that may be; else 0.
func TestTotal(t *testing.T) {
	l := someEntries(t)
	for i, want := range []int{0, 0, 5, 5, 5, 7, 7, 8} {
		if n := entry.Total(l[:i]); n != want {
			t.Errorf("total of %d: %d", i, n)
		}
	}
	for i, m := range turned(l) {
		want := 0
		for _, e := range m {
			want += e.Size
		}
		if !plainFine(m) {
			want = 0
		}
		if n := entry.Total(m); n != want {
			t.Errorf("%d turned: %d", i, n)
		}
	}
}

// P13.1: the first entry of a path, be the entries as they may.
func TestFind(t *testing.T) {
	l := someEntries(t)
	for i, want := range l {
		if e, ok := entry.Find(l, strings.Clone(want.Path)); !ok || e != want {
			t.Errorf("%q: %v", want.Path, e)
		}
		if e, ok := entry.Find(l[:i], want.Path); ok || e != (entry.Entry{}) {
			t.Errorf("%q, that is not there: %v", want.Path, e)
		}
	}
	for _, s := range []string{"", "a/", "c", "A", "a/xx", "b/c", "x", "/a", "a\x00"} {
		if e, ok := entry.Find(l, s); ok || e != (entry.Entry{}) {
			t.Errorf("%q: %v", s, e)
		}
	}
	none := []entry.Entry{{Path: "b", Size: -1}, {Path: "", Mode: 3}, {Path: "a", Kind: 9}, {Path: "b", Size: 2}, {Path: "/"}}
	for s, i := range map[string]int{"b": 0, "": 1, "a": 2, "/": 4} {
		if e, ok := entry.Find(none, s); !ok || e != none[i] {
			t.Errorf("%q of any: %v", s, e)
		}
	}
	if e, ok := entry.Find(nil, ""); ok || e != (entry.Entry{}) {
		t.Error("of none:", e)
	}
}

// P13.1: the first entries, up to the first one that ends behind n bytes.
func TestWithin(t *testing.T) {
	l := someEntries(t)
	for n, want := range map[int]int{math.MinInt: 0, -1: 0, 0: 1, 1: 1, 4: 1, 5: 4, 6: 4, 7: 6, 8: 7, 9: 7, math.MaxInt: 7} {
		if m := entry.Within(l, n); !slices.Equal(m, l[:want]) {
			t.Errorf("within %d: %d", n, len(m))
		}
	}
	empty := plainEntries(many(3))
	if len(entry.Within(empty, -1)) != 0 || len(entry.Within(empty, 0)) != 3 || len(entry.Within(nil, 5)) != 0 {
		t.Error("within none")
	}
	for i, m := range turned(l) {
		ok := plainFine(m)
		for n := -1; n < 12; n++ {
			want := 0
			for ok && want < len(m) && m[want].Begin+m[want].Size <= n {
				want++
			}
			if got := entry.Within(m, n); !slices.Equal(got, m[:want]) {
				t.Errorf("%d turned, within %d: %d", i, n, len(got))
			}
		}
	}
}

// P13.2: bytes by known answers.
func TestEncode(t *testing.T) {
	for _, c := range []struct {
		l    []entry.File
		want string
	}{
		{nil, "\x00"},
		{[]entry.File{}, "\x00"},
		{[]entry.File{{Path: "a", Kind: 1}}, "\x01" + "\x01\x00\x00\x00\x00\x01a\x00"},
		{[]entry.File{{Path: "a", Kind: 1, Data: []byte("abc")}, {Path: "b", Kind: 1, Data: []byte("de")}}, "\x02" + "\x01\x00\x00\x00\x03\x01a\x00" + "\x01\x00\x00\x03\x02\x01b\x00"},
		{some()[:3], "\x03" + "\x02\xed\x03\xac\x02\x00\x00\x01a\x00" + "\x01\xa4\x03\x07\x00\x05\x03a/x\x00" + "\x03\x00\x00\x05\x00\x03a/y\x09../x y/\x00\xff"},
		{[]entry.File{{Path: "a", Kind: 1, Mode: 4095, Time: greatest, Data: zeros[:300]}}, "\x01" + "\x01\xff\x1f\xff\xff\xff\xff\xff\x1f\x00\xac\x02\x01a\x00"},
		{[]entry.File{{Path: "a", Kind: 3, To: x(256)}}, "\x01" + "\x03\x00\x00\x00\x00\x01a\x80\x02" + x(256)},
	} {
		b, e := entry.Encode(plainEntries(c.l))
		if e != api.OK || string(b) != c.want {
			t.Errorf("%q: %q, %d", c.want, b, e)
		}
		if l, e := entry.Decode([]byte(c.want)); e != api.OK || !slices.Equal(l, plainEntries(c.l)) {
			t.Errorf("%q: %v, %d", c.want, l, e)
		}
	}
}

// P13.2: ErrArg of entries that may not be, else their bytes.
func TestEncodeAny(t *testing.T) {
	for i, m := range turned(someEntries(t)) {
		b, e := entry.Encode(m)
		if !plainFine(m) {
			if e != api.ErrArg || len(b) != 0 {
				t.Errorf("%d turned, may not be: %q, %d", i, b, e)
			}
		} else if e != api.OK || !bytes.Equal(b, plainBytes(m)) {
			t.Errorf("%d turned: %q, %d", i, b, e)
		}
	}
	l := plainEntries(many(mostFiles))
	for i := range l {
		l[i] = entry.Entry{Path: strings.Repeat(x(62)+"/", 4)[:245] + name(i), Kind: 3, Mode: 4095, Time: greatest, To: x(256 - i%2)}
	}
	b, e := entry.Encode(l)
	if e != api.OK || !bytes.Equal(b, plainBytes(l)) {
		t.Error("the longest:", e)
	}
	if m, e := entry.Decode(b); e != api.OK || !slices.Equal(m, l) {
		t.Error("the longest again:", e)
	}
}

// P13.2: the errors of bytes: layer 1's first one, then ErrForm.
func TestDecodeErrors(t *testing.T) {
	const head, tail = "\x01\x00\x00\x00\x00", "\x01a\x00"
	for _, c := range []struct {
		b    string
		want api.Errno
	}{
		{"", api.ErrShort}, {"\x80", api.ErrShort}, {"\x01", api.ErrShort}, {"\x80\x08", api.ErrShort}, {"\x01\x01", api.ErrShort}, {"\x01" + head, api.ErrShort}, {"\x01" + head + "\x01", api.ErrShort}, {"\x01" + head + "\x01a", api.ErrShort}, {"\x02" + head + tail, api.ErrShort},
		{"\x81\x08", api.ErrRange}, {"\xff\xff\xff\xff\xff\x1f", api.ErrRange}, {"\xff\xff\xff\xff\xff\x20", api.ErrRange}, {"\x80\x00", api.ErrForm}, {"\x80\x80\x80\x80\x80\x80", api.ErrForm}, {"\x80\x80\x80\x80\x80", api.ErrShort},
		{"\x00\x00", api.ErrMore}, {"\x00" + head + tail, api.ErrMore}, {"\x01" + head + tail + "\x00", api.ErrMore}, {"\x01" + head + tail + head + tail, api.ErrMore},
		// Texts of at most 256 bytes.
		{"\x01" + head + "\x80\x02" + x(256) + "\x00", api.ErrForm}, {"\x01" + head + "\x81\x02" + x(257) + "\x00", api.ErrRange}, {"\x01" + head + "\x81\x02", api.ErrRange}, {"\x01\x03\x00\x00\x00\x00\x01a\x81\x02" + x(257), api.ErrRange}, {"\x01\x03\x00\x00\x00\x00\x01a\xff\xff\xff\xff\xff\x1f", api.ErrRange}, {"\x01\x03\x00\x00\x00\x00\x01a\x80\x02" + x(255), api.ErrShort},
		// Any numbers, but none above the greatest one.
		{"\x01\xff\xff\xff\xff\xff\x1f\x00\x00\x00\x00\x01a\x00", api.ErrForm}, {"\x01\x01\xff\xff\xff\xff\xff\x1f\x00\x00\x00\x01a\x00", api.ErrForm}, {"\x01\x01\x00\x00\xff\xff\xff\xff\xff\x1f\x00\x01a\x00", api.ErrForm}, {"\x01\x01\x00\x00\x00\xff\xff\xff\xff\xff\x1f\x01a\x00", api.ErrForm},
		{"\x01\xff\xff\xff\xff\xff\x3f\x00\x00\x00\x00\x01a\x00", api.ErrRange}, {"\x01\x01\xff\xff\xff\xff\xff\x20\x00\x00\x00\x01a\x00", api.ErrRange}, {"\x01\x01\x00\xff\xff\xff\xff\xff\x20\x00\x00\x01a\x00", api.ErrRange}, {"\x01\x01\x00\x00\xff\xff\xff\xff\xff\x20\x00\x01a\x00", api.ErrRange}, {"\x01\x01\x00\x00\x00\xff\xff\xff\xff\xff\x20\x01a\x00", api.ErrRange},
		{"\x01\x81\x00\x00\x00\x00\x00\x01a\x00", api.ErrForm}, {"\x01" + head + "\x81\x00a\x00", api.ErrForm}, {"\x01" + head + "\x01a\x80\x00", api.ErrForm},
		// What is read, and may not be.
		{"\x01\x00\x00\x00\x00\x00" + tail, api.ErrForm}, {"\x01\x04\x00\x00\x00\x00" + tail, api.ErrForm}, {"\x01\x01\x80\x20\x00\x00\x00" + tail, api.ErrForm}, {"\x01\x01\x00\x00\x01\x00" + tail, api.ErrForm}, {"\x01\x02\x00\x00\x00\x01" + tail, api.ErrForm}, {"\x01\x03\x00\x00\x00\x00" + tail, api.ErrForm}, {"\x01" + head + "\x01a\x01x", api.ErrForm}, {"\x01" + head + "\x00\x00", api.ErrForm}, {"\x01" + head + "\x01/\x00", api.ErrForm}, {"\x02" + head + tail + head + tail, api.ErrForm}, {"\x02" + head + "\x01b\x00" + head + tail, api.ErrForm}, {"\x01\x01\x00\x00\x00\x81\x80\x40" + tail, api.ErrForm},
		// Layer 1's first error comes ahead of what may not be.
		{"\x01\x00\x00\x00\x00\x00" + tail + "\x00", api.ErrMore}, {"\x02\x00\x00\x00\x00\x00" + tail + "\x01", api.ErrShort}, {"\x02\x00\x00\x00\x00\x00" + tail + "\x80\x00", api.ErrForm}, {"\x02\x04\x00\x00\x00\x00\x00\x00" + head + "\x81\x02", api.ErrRange},
	} {
		if l, e := entry.Decode([]byte(c.b)); e != c.want || len(l) != 0 {
			t.Errorf("%.40q: %d, not %d", c.b, e, c.want)
		}
	}
	b := plainBytes(plainEntries(many(mostFiles + 1)))
	if l, e := entry.Decode(b); e != api.ErrRange || len(l) != 0 {
		t.Error("one more file:", e)
	}
	if l, e := entry.Decode(plainBytes(plainEntries(sized(mostSize, mostSize, mostSize, mostSize, 1)))); e != api.ErrForm || len(l) != 0 {
		t.Error("more data:", e)
	}
}

// P13.2: bytes that end too early, or go on.
func TestDecodeParts(t *testing.T) {
	b := plainBytes(someEntries(t))
	for i := range b {
		if l, e := entry.Decode(b[:i]); e != api.ErrShort || len(l) != 0 {
			t.Errorf("%d bytes: %d", i, e)
		}
	}
	for i := range 256 {
		if l, e := entry.Decode(append(slices.Clone(b), byte(i))); e != api.ErrMore || len(l) != 0 {
			t.Errorf("%d behind: %d", i, e)
		}
	}
}

// P13.2: files of entries and their data.
func TestFill(t *testing.T) {
	l := someEntries(t)
	if f, e := entry.Fill(l, []byte("hello!!\x00")); e != api.OK || !sameFiles(f, some()) {
		t.Error("some:", f, e)
	}
	for _, data := range []string{"", "hello", "hello!!", "hello!!\x00\x00", x(9), x(100)} {
		if f, e := entry.Fill(l, []byte(data)); e != api.ErrArg || len(f) != 0 {
			t.Errorf("%q: %d", data, e)
		}
	}
	for _, none := range [][]entry.Entry{nil, {}} {
		if f, e := entry.Fill(none, nil); e != api.OK || len(f) != 0 {
			t.Error("none:", f, e)
		}
		if f, e := entry.Fill(none, []byte("x")); e != api.ErrArg || len(f) != 0 {
			t.Error("none, and data:", f, e)
		}
	}
	if f, e := entry.Fill(l[:1], []byte{}); e != api.OK || len(f) != 1 || len(f[0].Data) != 0 {
		t.Error("a directory:", f, e)
	}
	for i, m := range turned(l) {
		for n := range 12 {
			f, e := entry.Fill(m, zeros[:n])
			if !plainFine(m) || n != entry.Total(m) {
				if e != api.ErrArg || len(f) != 0 {
					t.Errorf("%d turned, %d bytes: %d", i, n, e)
				}
			} else if e != api.OK || !slices.Equal(plainEntries(f), m) {
				t.Errorf("%d turned: %d", i, e)
			}
		}
	}
}

// P13.3: what was encoded is decoded; files, told as entries and filled, are themselves.
func TestAgain(t *testing.T) {
	r := rand.New(rand.NewSource(13))
	for i := range 3000 {
		files := anyFiles(r, 12)
		l, e := entry.Of(files)
		if e != api.OK || !entry.Right(files) || !entry.Fine(l) || !slices.Equal(l, plainEntries(files)) {
			t.Fatal(i, "Of:", e)
		}
		data := stream(files)
		if entry.Total(l) != len(data) {
			t.Fatal(i, "Total:", entry.Total(l))
		}
		b, e := entry.Encode(l)
		if e != api.OK || !bytes.Equal(b, plainBytes(l)) {
			t.Fatal(i, "Encode:", e)
		}
		again, e := entry.Decode(b)
		if e != api.OK || !slices.Equal(again, l) {
			t.Fatal(i, "Decode:", e)
		}
		full, e := entry.Fill(again, data)
		if e != api.OK || !sameFiles(full, files) {
			t.Fatal(i, "Fill:", e)
		}
	}
	files := sized(mostSize, 0, mostSize, mostSize, mostSize)
	data := make([]byte, mostTotal)
	r.Read(data)
	l, _ := entry.Of(files)
	full, e := entry.Fill(l, data)
	if e != api.OK || !bytes.Equal(stream(full), data) || !slices.Equal(plainEntries(full), l) {
		t.Error("the most data:", e)
	}
}

// P13.3: nothing else is decoded as what was encoded.
func TestNothingElse(t *testing.T) {
	r := rand.New(rand.NewSource(31))
	seen := 0
	for range 20000 {
		b := plainBytes(plainEntries(anyFiles(r, 3)))
		for range 1 + r.Intn(2) {
			switch at := r.Intn(len(b)); r.Intn(4) {
			case 0:
				b[at] ^= 1 << r.Intn(8)
			case 1:
				b[at] = byte(r.Intn(256))
			case 2:
				b = slices.Insert(b, at, byte(r.Intn(256)))
			case 3:
				b = append(b[:at:at], b[at+r.Intn(len(b)-at):]...)
			}
		}
		l, e := entry.Decode(b)
		if e != api.OK {
			if len(l) != 0 {
				t.Fatalf("%q: %d, and entries", b, e)
			}
			continue
		}
		seen++
		if !plainFine(l) || !bytes.Equal(plainBytes(l), b) {
			t.Fatalf("%q: %v", b, l)
		}
		if again, e := entry.Encode(l); e != api.OK || !bytes.Equal(again, b) {
			t.Fatalf("%q: %q", b, again)
		}
	}
	if seen < 1000 {
		t.Error("few are decoded:", seen)
	}
}

// Any bytes are decoded to an end.
func TestAnyBytes(t *testing.T) {
	r := rand.New(rand.NewSource(7))
	for range 20000 {
		b := make([]byte, r.Intn(40))
		r.Read(b)
		for i := range b {
			b[i] >>= r.Intn(8)
		}
		if l, e := entry.Decode(b); e == api.OK && !bytes.Equal(plainBytes(l), b) {
			t.Fatalf("%q: %v", b, l)
		}
	}
}

// What is handed in is not changed, the room behind it neither.
func TestNothingChanged(t *testing.T) {
	files := append(some(), entry.File{Path: "room"})
	for i := range files {
		files[i].Data = append(files[i].Data, "room"...)[:len(files[i].Data)]
	}
	before := cloneFiles(files)
	f := files[:7]
	entry.Right(f)
	l, _ := entry.Of(f)
	room := append(slices.Clone(l), entry.Entry{Path: "room"})
	data := append(stream(f), "room"...)
	b := append(plainBytes(l), "room"...)
	l2, data2, b2 := slices.Clone(room), slices.Clone(data), slices.Clone(b)
	l = room[:7]
	entry.Fine(l)
	entry.Total(l)
	entry.Find(l, "b")
	for n := range 10 {
		entry.Within(l, n)
	}
	entry.Encode(l)
	entry.Decode(b[:len(b)-4])
	entry.Fill(l, data[:8])
	if !slices.Equal(room, l2) || !bytes.Equal(data, data2) || !bytes.Equal(b, b2) || !sameFiles(files, before) {
		t.Error("changed")
	}
	for i := range files {
		if own := files[i].Data; string(own[len(own):len(own)+4]) != "room" {
			t.Error("changed behind the data of", i)
		}
	}
}

// spoil writes over a list, its spare room too.
func spoil[T any](l []T, x T) {
	l = l[:cap(l)]
	for i := range l {
		l[i] = x
	}
}

// An answer shares nothing with an argument, nor with another list of this or another answer.
func TestNewMemory(t *testing.T) {
	files := some()
	l := someEntries(t)
	data := stream(files)
	b := plainBytes(l)
	want := slices.Clone(l)

	first, _ := entry.Of(files)
	second, _ := entry.Of(files)
	spoil(first, entry.Entry{})
	if !slices.Equal(second, want) || !sameFiles(files, some()) {
		t.Error("Of shares")
	}
	for n := range 9 {
		m := entry.Within(l, n)
		again := slices.Clone(m)
		spoil(entry.Within(l, n), entry.Entry{})
		if !slices.Equal(m, again) || !slices.Equal(l, want) {
			t.Error("Within shares", n)
		}
	}
	out, _ := entry.Encode(l)
	again, _ := entry.Encode(l)
	spoil(out, 9)
	if !bytes.Equal(again, b) {
		t.Error("Encode shares")
	}
	first, _ = entry.Decode(b)
	second, _ = entry.Decode(b)
	spoil(first, entry.Entry{})
	spoil(b, 'z')
	if !slices.Equal(second, want) {
		t.Error("Decode shares")
	}
	full, _ := entry.Fill(l, data)
	other, _ := entry.Fill(l, data)
	for i := range full {
		spoil(full[i].Data, 'z')
		if !sameFiles(full[i+1:], some()[i+1:]) || !bytes.Equal(data, stream(some())) {
			t.Error("Fill shares", i)
		}
	}
	spoil(data, 'y')
	if !sameFiles(other, some()) || !slices.Equal(l, want) {
		t.Error("Fill keeps")
	}
}

// Calls side by side answer the same.
func TestSideBySide(t *testing.T) {
	files, l := some(), someEntries(t)
	b := plainBytes(l)
	var all sync.WaitGroup
	for range 8 {
		all.Go(func() {
			for range 50 {
				m, e := entry.Of(files)
				k, f := entry.Decode(b)
				c, g := entry.Encode(l)
				full, h := entry.Fill(l, []byte("hello!!\x00"))
				if e+f+g+h != api.OK || !slices.Equal(m, l) || !slices.Equal(k, l) || !bytes.Equal(c, b) || !sameFiles(full, files) || entry.Total(l) != 8 || len(entry.Within(l, 5)) != 4 {
					t.Error("another answer")
				}
			}
		})
	}
	all.Wait()
}
