package path_test

import (
	"math/rand"
	"slices"
	"strconv"
	"strings"
	"sync"
	"testing"

	"portmanteau/path"
)

const (
	most     = 256
	mostPart = 64
)

// plainParts is what stands between the /, of any text.
func plainParts(s string) []string {
	l := []string{""}
	for i := 0; i < len(s); i++ {
		if s[i] == '/' {
			l = append(l, "")
		} else {
			l[len(l)-1] += s[i : i+1]
		}
	}
	return l
}

// plainPart is the document's word of a part.
func plainPart(s string) bool {
	for i := 0; i < len(s); i++ {
		if s[i] < 33 || s[i] > 126 || s[i] == '/' || s[i] == '\\' {
			return false
		}
	}
	return len(s) >= 1 && len(s) <= mostPart && s != "." && s != ".."
}

// plainRight is the document's word of a path.
func plainRight(s string) bool {
	if len(s) > most {
		return false
	}
	for _, p := range plainParts(s) {
		if !plainPart(p) {
			return false
		}
	}
	return true
}

// ahead is the document's word of order: may the parts of one stand ahead of those of another one?
func ahead(a, b []string) bool {
	for i := range b {
		if i == len(a) {
			return true
		}
		if a[i] != b[i] {
			return lesser(a[i], b[i])
		}
	}
	return false
}

// lesser compares unlike parts byte by byte; what ends is less.
func lesser(a, b string) bool {
	for i := 0; i < len(b); i++ {
		if i == len(a) {
			return true
		}
		if a[i] != b[i] {
			return a[i] < b[i]
		}
	}
	return false
}

func plainCompare(a, b string) int {
	x, y := plainParts(a), plainParts(b)
	switch {
	case ahead(x, y):
		return -1
	case ahead(y, x):
		return 1
	}
	return 0
}

func plainBelow(s, of string) bool {
	if !plainRight(s) || !plainRight(of) {
		return false
	}
	x, y := plainParts(s), plainParts(of)
	return len(x) >= len(y) && slices.Equal(x[:len(y)], y)
}

func plainParent(s string) string {
	l := plainParts(s)
	if !plainRight(s) {
		return ""
	}
	return strings.Join(l[:len(l)-1], "/")
}

// texts is all texts of up to so many of these letters.
func texts(letters []string, most int) []string {
	l := []string{""}
	for from := 0; most > 0; most-- {
		to := len(l)
		for _, s := range l[from:to] {
			for _, x := range letters {
				l = append(l, s+x)
			}
		}
		from = to
	}
	return l
}

// rightOf is those of texts that are paths.
func rightOf(l []string) []string {
	var out []string
	for _, s := range l {
		if plainRight(s) {
			out = append(out, s)
		}
	}
	return out
}

func x(n int) string { return strings.Repeat("x", n) }

// ofLength is a path of so many bytes, of parts of at most 64.
func ofLength(n int) string {
	s := ""
	for n-len(s) > mostPart {
		s += x(min(mostPart, n-len(s)-2)) + "/"
	}
	return s + x(n-len(s))
}

var rights = []string{
	"a", "~", "!", "...", "....", ".a", "a.", "..a", "a..", "-", "a.b", "a/b", "a/b.c/d-e", "a/...", ".../a", "a/.../b", "a/.b/c", "0/1/2/3/4/5/6/7/8/9",
	"\"#$%&'()*+,-", ":;<=>?@[]^_`{|}", "a/!/~", "C:/x", "%2e%2e/x",
}

var wrongs = []string{
	"", "/", "//", "///", "/a", "a/", "/a/", "a//b", "//a", "a//", "a/b/", "a/b//c", "/a/b",
	".", "..", "./a", "../a", "a/./b", "a/../b", "a/.", "a/..", "./.", "../..", "/.", "./", "/..", "../", ".//a",
	"\\", "a\\", "\\a", "a\\b", "a/\\", "\\/a", "a/b\\c/d",
	" ", "a b", " a", "a ", "a/ ", "\t", "a\n", "a\x00", "\x00", "\x00a", "a/\x1f/b", "\x7f", "a\x7f", "\x7fa", "a/\x7f",
	"\x80", "a\x80", "\x80a", "\xff", "a\xffb", "a/\xff", "\xff/a", "\xc3", "\xc3(", "\xe2\x82", "\xed\xa0\x80", "\xf4\x90\x80\x80", "\xc0\xaf", "a\xc0\xae",
	"é", "aé", "éa", "a/é/b", "ß", "日本", "a/日本", "\U0001f600", "a\u0301", "\u00a0", "\u2024\u2024", "\u2215", "\uff0f", "\ufffd", "a\u200b", "\ufeffa",
}

// withLengths is those beside what is long, just right and just wrong.
func withLengths() (right, wrong []string) {
	right = append(right, rights...)
	wrong = append(wrong, wrongs...)
	for _, s := range []string{x(1), x(63), x(mostPart), ofLength(255), ofLength(most), strings.Repeat("x/", 127) + "x", strings.Repeat("x/", 127) + "xy", x(mostPart) + "/" + x(mostPart) + "/a", "a/" + x(mostPart), "..." + x(61)} {
		right = append(right, s)
	}
	for _, s := range []string{x(mostPart + 1), x(most), x(most + 1), ofLength(most + 1), strings.Repeat("x/", 128) + "x", strings.Repeat("x/", 128), strings.Repeat("/", most), strings.Repeat("/", most+1), "a/" + x(mostPart+1), x(mostPart+1) + "/a", "a/" + x(mostPart+1) + "/a", "..." + x(62), strings.Repeat("é", 32), x(1 << 20), ofLength(1 << 16), strings.Repeat("/", 1<<20)} {
		wrong = append(wrong, s)
	}
	return right, wrong
}

// same holds all calls of two texts against the document's words.
func same(t *testing.T, a, b string) {
	if n, want := path.Compare(a, b), plainCompare(a, b); n != want {
		t.Errorf("Compare %.40q %.40q: %d, not %d", a, b, n, want)
	}
	if ok := path.Below(a, b); ok != plainBelow(a, b) {
		t.Errorf("Below %.40q %.40q: %v", a, b, ok)
	}
}

// P12.1: what may be a path, by known answers.
func TestRight(t *testing.T) {
	right, wrong := withLengths()
	for _, s := range right {
		if !path.Right(s) || !plainRight(s) {
			t.Errorf("%.40q may not be", s)
		}
	}
	for _, s := range wrong {
		if path.Right(s) || plainRight(s) {
			t.Errorf("%.40q may be", s)
		}
	}
}

// P12.1: of each byte whether it may be in a part, alone, first, amid and last, in each part.
func TestBytes(t *testing.T) {
	for i := range 256 {
		c := string([]byte{byte(i)})
		want := i >= 33 && i <= 126 && i != '\\'
		for _, s := range []string{"a" + c + "b", "p/a" + c + "b", "a" + c + "b/q", "p/a" + c + "b/q"} {
			if path.Right(s) != want {
				t.Errorf("%q: %v", s, !want)
			}
		}
		want = want && i != '/'
		for _, s := range []string{c + "a", "a" + c, "p/" + c + "a", "a" + c + "/q", "p/" + c + "a/q", "p/a" + c + "/q"} {
			if path.Right(s) != want {
				t.Errorf("%q: %v", s, !want)
			}
		}
		want = want && i != '.'
		for _, s := range []string{c, "p/" + c, c + "/q", "p/" + c + "/q"} {
			if path.Right(s) != want {
				t.Errorf("%q: %v", s, !want)
			}
		}
	}
}

// P12.1: of each length whether a part and a path may have it.
func TestLengths(t *testing.T) {
	for n := range 300 {
		if path.Right(x(n)) != (n >= 1 && n <= 64) {
			t.Errorf("a part of %d: %v", n, path.Right(x(n)))
		}
		if path.Right("a/"+x(n)+"/b") != (n >= 1 && n <= 64) {
			t.Errorf("a part amid of %d: %v", n, path.Right("a/"+x(n)+"/b"))
		}
		if s := ofLength(n); len(s) != n || path.Right(s) != (n >= 1 && n <= 256) {
			t.Errorf("a path of %d: %v", n, path.Right(s))
		}
	}
}

// P12.1: parts, one behind the other; none of what is no path.
func TestParts(t *testing.T) {
	known := map[string][]string{"a": {"a"}, "a/b": {"a", "b"}, "a/b.c/d-e": {"a", "b.c", "d-e"}, ".../a/a": {"...", "a", "a"}, x(64): {x(64)}}
	for s, want := range known {
		if l := path.Parts(s); !slices.Equal(l, want) {
			t.Errorf("%q: %q", s, l)
		}
	}
	if l := path.Parts(strings.Repeat("x/", 127) + "xy"); len(l) != 128 || l[0] != "x" || l[126] != "x" || l[127] != "xy" {
		t.Errorf("128 parts: %q", l)
	}
	right, wrong := withLengths()
	for _, s := range right {
		if l := path.Parts(s); !slices.Equal(l, plainParts(s)) || strings.Join(l, "/") != s {
			t.Errorf("%.40q: %q", s, l)
		}
	}
	for _, s := range wrong {
		if l := path.Parts(s); len(l) != 0 {
			t.Errorf("%.40q: %d parts", s, len(l))
		}
	}
}

// P12.1: all but the last part; empty of one part, and of what is no path.
func TestParent(t *testing.T) {
	known := map[string]string{"a": "", "a/b": "a", "a/b/c": "a/b", "a/b.c/d-e": "a/b.c", "abc/a": "abc", "...": "", ".../...": "...", x(64): "", x(64) + "/a": x(64), "aa/aa/aa": "aa/aa"}
	for s, want := range known {
		if p := path.Parent(s); p != want {
			t.Errorf("%q: %q", s, p)
		}
	}
	right, wrong := withLengths()
	for _, s := range right {
		if p := path.Parent(s); p != plainParent(s) {
			t.Errorf("%.40q: %q", s, p)
		}
	}
	for _, s := range wrong {
		if p := path.Parent(s); p != "" {
			t.Errorf("%.40q: %.40q", s, p)
		}
	}
}

// P12.1: what is below a path, and what only begins as it does.
func TestBelow(t *testing.T) {
	for _, c := range []struct {
		s, of string
		want  bool
	}{
		{"a", "a", true}, {"a/b", "a", true}, {"a/b/c", "a", true}, {"a/b/c", "a/b", true}, {"a/b/c", "a/b/c", true}, {"a/a", "a", true},
		{"a", "a/b", false}, {"a.b", "a", false}, {"ab", "a", false}, {"a-b/c", "a", false}, {"a", "ab", false}, {"b/a", "a", false}, {"a/bc", "a/b", false}, {"a/b", "a/bc", false}, {"a/b/c", "a/c", false}, {"a/b/c", "b", false}, {"A/b", "a", false},
		{"a/", "a", false}, {"a/b/", "a", false}, {"a//b", "a", false}, {"a/..", "a", false}, {"a/.", "a", false}, {"a/b\\c", "a", false}, {"a/é", "a", false}, {"a/\xff", "a", false}, {"a/ ", "a", false}, {"/a", "a", false},
		{"a/b", "a/", false}, {"a/b", "", false}, {"a/b", "/", false}, {"/a", "", false}, {"/a/b", "/a", false}, {"", "a", false}, {"", "", false}, {"../a", "..", false}, {".", ".", false}, {"a//b", "a/", false}, {"/", "/", false},
		{"a/" + x(64), "a", true}, {"a/" + x(65), "a", false}, {x(64) + "/a", x(64), true}, {x(65) + "/a", x(65), false}, {x(65), x(65), false},
		{ofLength(256), x(64), true}, {ofLength(257), x(64), false}, {ofLength(256), ofLength(256), true}, {ofLength(257), ofLength(257), false},
	} {
		if path.Below(c.s, c.of) != c.want {
			t.Errorf("%.40q of %.40q: %v", c.s, c.of, !c.want)
		}
	}
	right, wrong := withLengths()
	for _, s := range right {
		if !path.Below(s, s) {
			t.Errorf("%.40q is not below itself", s)
		}
		if p := path.Parent(s); p != "" && (!path.Below(s, p) || path.Below(p, s)) {
			t.Errorf("%.40q is not below its parent", s)
		}
		for _, no := range wrong {
			if path.Below(s, no) || path.Below(no, s) {
				t.Errorf("%.40q, no path, and %.40q", no, s)
			}
		}
	}
	for _, s := range wrong {
		for _, of := range wrong {
			if path.Below(s, of) {
				t.Errorf("%.40q of %.40q, neither a path", s, of)
			}
		}
	}
}

// inOrder stands in order, what is no path too; / is ahead of all bytes, and the end ahead of it.
var inOrder = []string{
	"", "/", "//", "//a", "/\x00", "/a", "/a/", "/a/b", "/\xff",
	"\x00", "\x00/", "\x00\x00", " ", "!", "-", "-/a", "-a", ".", "./a", "..", "../a", "...", "0",
	"a", "a/", "a//", "a//b", "a/\x00", "a/!", "a/-", "a/.", "a/..", "a/A", "a/a", "a/b", "a/b/", "a/b/c", "a/b!", "a/b-c", "a/b.c", "a/bb", "a/c", "a/~", "a/\x7f", "a/\xff",
	"a\x00", "a\x00/b", "a ", "a!", "a-", "a-/b", "a-b", "a.", "a.b", "a.b/c", "a.c", "a0", "a\\", "aa", "aa/b", "ab", "a~", "a\x7f", "a\x80", "aé", "a\xff", "a\xff/b", "a\xff\xff",
	"b", "b/a", "é", "é/a", "日", "\xff", "\xff/", "\xff\xff",
}

// P12.2: Compare by known answers: -1 of the one order, 1 of the other, 0 of like ones alone.
func TestCompare(t *testing.T) {
	for i, a := range inOrder {
		for k, b := range inOrder {
			want := 0
			if i < k {
				want = -1
			} else if i > k {
				want = 1
			}
			if n := path.Compare(a, strings.Clone(b)); n != want {
				t.Errorf("%q %q: %d", a, b, n)
			}
		}
	}
}

// P12.2: Compare of all short texts, and of long ones that differ late.
func TestCompareAll(t *testing.T) {
	for _, letters := range [][]string{{"/", "a"}, {"/", ".", "a"}, {"/", "-", "a", "b"}, {"/", "\x00", "\xff", "0"}} {
		l := texts(letters, 11-2*len(letters))
		for _, a := range l {
			for _, b := range l {
				if n := path.Compare(a, b); n != plainCompare(a, b) {
					t.Fatalf("%q %q: %d", a, b, n)
				}
			}
		}
	}
	for _, s := range []string{x(1 << 16), strings.Repeat("/", 1<<16), strings.Repeat("a/", 1<<15), ofLength(257), "a/" + x(65)} {
		l := []string{s, s + "/", s + "/a", s + "\x00", s + "a", s + "\xff"}
		for i, a := range l {
			for k, b := range l {
				if n := path.Compare(a, b); n < 0 != (i < k) || n > 0 != (i > k) || n*n > 1 {
					t.Errorf("%d, %d behind %.10q: %d", i, k, s, n)
				}
			}
		}
	}
}

// P12.2: Sorted by known answers.
func TestSorted(t *testing.T) {
	for _, c := range []struct {
		l    []string
		want bool
	}{
		{nil, true}, {[]string{}, true}, {[]string{"a"}, true}, {[]string{x(64)}, true}, {[]string{ofLength(256)}, true}, {[]string{"a", "b"}, true}, {[]string{"a", "a/b", "a.b"}, true}, {[]string{"a", "a/b", "a-b", "a.b", "aa"}, true},
		{[]string{"a", "a"}, false}, {[]string{"b", "a"}, false}, {[]string{"a", "a.b", "a/b"}, false}, {[]string{"a/b", "a"}, false}, {[]string{"a", "b", "a"}, false}, {[]string{"a", "b", "b"}, false}, {[]string{"a", "a", "b"}, false}, {[]string{"a", "c", "b", "d"}, false},
		{[]string{""}, false}, {[]string{"", "a"}, false}, {[]string{"a", ""}, false}, {[]string{"/a"}, false}, {[]string{"a/"}, false}, {[]string{"a", "a/"}, false}, {[]string{"a", "a//b", "b"}, false}, {[]string{"a/..", "b"}, false}, {[]string{"."}, false}, {[]string{x(65)}, false}, {[]string{ofLength(257)}, false}, {[]string{"a", "b\\c"}, false}, {[]string{"a", "é"}, false}, {[]string{"a", "\xff"}, false},
	} {
		if path.Sorted(c.l) != c.want {
			t.Errorf("%.60q: %v", c.l, !c.want)
		}
	}
	right, wrong := withLengths()
	for _, s := range right {
		if !path.Sorted([]string{s}) || path.Sorted([]string{s, strings.Clone(s)}) {
			t.Errorf("%.40q, once or twice", s)
		}
	}
	for _, s := range wrong {
		if path.Sorted([]string{s}) {
			t.Errorf("%.40q alone", s)
		}
	}
}

// P12.2: Sorted of many: not with any two exchanged, with any one twice, or with what is no path anywhere.
func TestSortedMany(t *testing.T) {
	l := rightOf(texts([]string{"/", ".", "-", "a", "b"}, 3))
	slices.SortFunc(l, plainCompare)
	if !path.Sorted(l) {
		t.Fatal("in order")
	}
	_, wrong := withLengths()
	for i := range l {
		if !path.Sorted(l[:i]) || !path.Sorted(l[i:]) || !path.Sorted(slices.Delete(slices.Clone(l), i, i+1)) {
			t.Errorf("a part of it, at %d", i)
		}
		if path.Sorted(slices.Insert(slices.Clone(l), i, l[i])) {
			t.Errorf("%d twice", i)
		}
		if no := wrong[i%len(wrong)]; path.Sorted(slices.Insert(slices.Clone(l), i, no)) {
			t.Errorf("%.40q at %d", no, i)
		}
		for k := range i {
			m := slices.Clone(l)
			m[i], m[k] = m[k], m[i]
			if path.Sorted(m) {
				t.Errorf("%d and %d exchanged", k, i)
			}
		}
	}
	// What is no path may well stand in order.
	at := slices.Clone(inOrder)
	if path.Sorted(at) || !path.Sorted(rightOf(at)) {
		t.Error("what is no path, in order")
	}
	var names []string
	for i := range 1 << 15 {
		names = append(names, "d"+strconv.Itoa(1<<15+i))
	}
	if !path.Sorted(names) || path.Sorted(append(names, "d0")) || path.Sorted(append(names, "")) {
		t.Error("a long list")
	}
}

// P12.3: what is below a path stands behind it, all together, in order.
func TestTogether(t *testing.T) {
	for _, letters := range [][]string{{"/", "a", "b"}, {"/", "a", "."}, {"/", "a", "-", "0"}, {"/", "!", "~"}} {
		l := rightOf(texts(letters, 5))
		r := rand.New(rand.NewSource(12))
		r.Shuffle(len(l), func(i, k int) { l[i], l[k] = l[k], l[i] })
		slices.SortFunc(l, path.Compare)
		if !path.Sorted(l) {
			t.Fatalf("%q: not in order", letters)
		}
		for i, of := range l {
			n := 0
			for n < len(l)-i && path.Below(l[i+n], of) {
				n++
			}
			for k, s := range l {
				if inside := k >= i && k < i+n; path.Below(s, of) != inside || plainBelow(s, of) != inside || strings.HasPrefix(s, of+"/") != (inside && k > i) {
					t.Fatalf("%q and %q", s, of)
				}
			}
		}
	}
	// Bytes below / in a part stand behind what is below its beginning.
	l := []string{"a", "a/~", "a/~/~", "a!", "a+", "a,", "a-", "a.", "a0"}
	if !path.Sorted(l) {
		t.Error("bytes below /")
	}
}

// P12.1, P12.2: all calls of any texts, against the document's words.
func TestAny(t *testing.T) {
	r := rand.New(rand.NewSource(1))
	letters := []string{"/", "/", "/", "a", "a", "b", ".", "..", "-", "!", "~", "a.b", x(62), x(64), "\\", " ", "\x7f", "\x80", "é", "\xff", "\x00"}
	last := ""
	for range 20000 {
		few := letters[:1+r.Intn(len(letters))]
		s := ""
		for range r.Intn(12) {
			s += few[r.Intn(len(few))]
		}
		if r.Intn(2) == 0 {
			s = last[:r.Intn(len(last)+1)] + s
		}
		if len(s) > 400 {
			s = s[:200]
		}
		ok := plainRight(s)
		if path.Right(s) != ok || path.Parent(s) != plainParent(s) {
			t.Fatalf("%q: %v, %q", s, path.Right(s), path.Parent(s))
		}
		if l := path.Parts(s); ok && !slices.Equal(l, plainParts(s)) || !ok && len(l) != 0 {
			t.Fatalf("%q: %q", s, l)
		}
		same(t, s, last)
		same(t, last, s)
		if path.Sorted([]string{last, s}) != (ok && plainRight(last) && plainCompare(last, s) < 0) {
			t.Fatalf("Sorted %q %q", last, s)
		}
		last = s
	}
}

// What is handed in is not changed, and what is answered is new memory.
func TestMemory(t *testing.T) {
	room := []string{"b", "a/b", "a", "spare"}
	before := slices.Clone(room)
	path.Sorted(room[:3])
	if !slices.Equal(room, before) {
		t.Error("Sorted changes what it is told")
	}
	s := "a/b/c"
	l := path.Parts(s)
	m := path.Parts(s)
	for i := range l[:cap(l)] {
		l[:cap(l)][i] = "z"
	}
	if !slices.Equal(m, []string{"a", "b", "c"}) || s != "a/b/c" || !slices.Equal(path.Parts(s), m) {
		t.Error("Parts shares")
	}
}

// Calls side by side answer the same.
func TestSideBySide(t *testing.T) {
	var all sync.WaitGroup
	for range 8 {
		all.Go(func() {
			for i := range inOrder {
				for k := range inOrder {
					same(t, inOrder[i], inOrder[k])
				}
			}
		})
	}
	all.Wait()
}
