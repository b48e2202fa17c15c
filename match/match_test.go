package match_test

import (
	"bytes"
	"math"
	"math/rand"
	"slices"
	"strconv"
	"strings"
	"testing"

	"portmanteau/api"
	"portmanteau/match"
)

const (
	widest   = 1 << 15
	fullest  = 1 << 16
	shortest = 3
	longest  = 258
)

// lit is a literal.
func lit(x byte) match.Token { return match.Token{Lit: x} }

// back is a match.
func back(length, back int) match.Token { return match.Token{Length: length, Back: back} }

// litBack is a literal with a Back.
func litBack(back int) match.Token { return match.Token{Lit: 'x', Back: back} }

// lits is a text as literals.
func lits(s string) []match.Token {
	var l []match.Token
	for i := range len(s) {
		l = append(l, lit(s[i]))
	}
	return l
}

// behind is literals, and tokens behind them.
func behind(s string, more ...match.Token) []match.Token {
	return append(lits(s), more...)
}

// rightMatches are matches at all edges, and within them.
func rightMatches() []match.Token {
	var l []match.Token
	for _, length := range []int{3, 4, 5, 100, 255, 256, 257, 258} {
		for _, b := range []int{1, 2, 3, 255, 256, 258, 1 << 14, widest - 1, widest} {
			l = append(l, back(length, b))
		}
	}
	return l
}

// rightLiterals are all literals.
func rightLiterals() []match.Token {
	var l []match.Token
	for x := range 256 {
		l = append(l, lit(byte(x)))
	}
	return l
}

// wrongTokens are tokens that may not be, for each reason alone, and for several.
func wrongTokens() []match.Token {
	far := []int{-1, -2, -3, -258, -widest, math.MinInt32, math.MinInt, math.MinInt + 1, 1 << 20, 1 << 32, 1<<32 + 3, 1<<40 - 1, math.MaxInt32, math.MaxInt}
	lengths := append([]int{1, 2, 259, 260, 512, 259 + 255, 1 << 15}, far...)
	backs := append([]int{0, widest + 1, widest + 2, 1 << 16, 1<<16 + 1}, far...)
	l := []match.Token{}
	for _, length := range lengths {
		for _, b := range []int{0, 1, 2, widest} {
			l = append(l, back(length, b))
		}
		for _, b := range backs {
			l = append(l, back(length, b))
		}
		l = append(l, match.Token{Lit: 'a', Length: length}, match.Token{Lit: 'a', Length: length, Back: 1})
	}
	for _, b := range backs {
		for _, length := range []int{3, 4, 257, 258} {
			l = append(l, back(length, b))
		}
		if b != 0 {
			l = append(l, back(0, b), match.Token{Lit: 'a', Back: b})
		}
	}
	for _, b := range []int{1, 2, 3, widest} {
		l = append(l, back(0, b), match.Token{Lit: 255, Back: b})
	}
	for _, t := range rightMatches() {
		for _, x := range []byte{1, 'a', 128, 255} {
			l = append(l, match.Token{Lit: x, Length: t.Length, Back: t.Back})
		}
	}
	return l
}

// row is how many bytes at a place are those at another one, 258 at most.
func row(b []byte, place, at int) int {
	n := 0
	for n < longest && at+n < len(b) && b[place+n] == b[at+n] {
		n++
	}
	return n
}

// plainParse parses as the document's words tell it: all places are gone through, the nearest one last.
func plainParse(b []byte, window int) []match.Token {
	var l []match.Token
	for at := 0; at < len(b); {
		t := lit(b[at])
		for place := max(0, at-window); place < at; place++ {
			if n := row(b, place, at); n >= shortest && n >= t.Length {
				t = back(n, at-place)
			}
		}
		l = append(l, t)
		at += max(1, t.Length)
	}
	return l
}

// plainExpand expands tokens that may be.
func plainExpand(l []match.Token) []byte {
	var b []byte
	for _, t := range l {
		if t.Length == 0 {
			b = append(b, t.Lit)
		}
		begin := len(b) - t.Back
		for i := range t.Length {
			b = append(b, b[begin+i])
		}
	}
	return b
}

// short is a text for messages.
func short(b []byte) string {
	if len(b) > 60 {
		return strconv.Quote(string(b[:60])) + ".., " + strconv.Itoa(len(b)) + " bytes"
	}
	return strconv.Quote(string(b))
}

// few is some tokens from a place on, for messages.
func few(l []match.Token, i int) []match.Token {
	return l[min(i, len(l)):min(i+5, len(l))]
}

// wantParse wants just these tokens, and that they are expanded to what was parsed.
func wantParse(t *testing.T, b []byte, window int, want []match.Token) {
	t.Helper()
	l := match.Parse(b, window)
	for i := range max(len(l), len(want)) {
		if i >= len(l) || i >= len(want) || l[i] != want[i] {
			t.Fatalf("%s, window %d: from token %d on %v, not %v", short(b), window, i, few(l, i), few(want, i))
		}
	}
	wantBack(t, b, window, l)
}

// wantBack wants of what was parsed that all tokens may be, their Backs within the window, and that they stand for what was parsed (P9.3).
func wantBack(t *testing.T, b []byte, window int, l []match.Token) {
	t.Helper()
	for i, x := range l {
		if !match.Right(x) || x.Back > window {
			t.Fatalf("%s, window %d: token %d is %v", short(b), window, i, x)
		}
	}
	if n := match.Size(l); n != len(b) {
		t.Fatalf("%s, window %d: Size is %d", short(b), window, n)
	}
	got, e := match.Expand(l)
	if len(b) > fullest {
		if len(got) > 0 || e != api.ErrLong {
			t.Fatalf("%s, window %d: expanded: %s, %d", short(b), window, short(got), e)
		}
		got, e = plainExpand(l), api.OK
	}
	if !bytes.Equal(got, b) || e != api.OK {
		t.Fatalf("%s, window %d: expanded: %s, %d", short(b), window, short(got), e)
	}
}

// wantLongest wants of each token of a text of any length what the words ask: that no place in the window has a longer row, and none that is nearer one as long.
func wantLongest(t *testing.T, b []byte, window int) {
	t.Helper()
	l := match.Parse(b, window)
	at := 0
	for i, x := range l {
		size := max(1, x.Length)
		if at+size > len(b) {
			t.Fatalf("%s, window %d: token %d, %v, goes beyond the end", short(b), window, i, x)
		}
		first := max(0, at-window)
		if more := max(shortest, x.Length+1); more <= longest && at+more <= len(b) {
			if place := bytes.Index(b[first:at+more-1], b[at:at+more]); place >= 0 {
				t.Fatalf("%s, window %d: token %d, at %d, is %v, but %d bytes begin at %d", short(b), window, i, at, x, more, first+place)
			}
		}
		if x.Length > 0 {
			if place := bytes.LastIndex(b[first:at+size-1], b[at:at+size]); at-(first+place) != x.Back {
				t.Fatalf("%s, window %d: token %d, at %d, is %v, but the nearest place is %d", short(b), window, i, at, x, first+place)
			}
		}
		at += size
	}
	wantBack(t, b, window, l)
}

// noise is bytes below a number, the same ones each time.
func noise(seed int64, n, below int) []byte {
	r := rand.New(rand.NewSource(seed))
	b := make([]byte, n)
	for i := range b {
		b[i] = byte(r.Intn(below))
	}
	return b
}

// apart is n bytes (up to 3 times 85 to the power of 3) of which no three that follow one another stand anywhere else in them; none is 0.
func apart(n int) []byte {
	var b []byte
	for x := 0; len(b) < n; x++ {
		b = append(b, byte(1+x/85/85%85), byte(86+x/85%85), byte(171+x%85))
	}
	return b[:n]
}

// P9.1: what may be and what may not.
func TestRight(t *testing.T) {
	for _, x := range append(rightLiterals(), rightMatches()...) {
		if !match.Right(x) {
			t.Error("may be:", x)
		}
	}
	for _, x := range wrongTokens() {
		if match.Right(x) {
			t.Error("may not be:", x)
		}
	}
}

// P9.1: of all Lengths and Backs just these may be.
func TestRightOfAll(t *testing.T) {
	for length := -600; length <= 1100; length++ {
		if is := match.Right(back(length, 7)); is != (length >= 3 && length <= 258) {
			t.Error("Length", length, is)
		}
		if is := match.Right(back(length, 0)); is != (length == 0) {
			t.Error("Length", length, "Back 0:", is)
		}
	}
	for b := -70000; b <= 140000; b++ {
		if is := match.Right(back(3, b)); is != (b >= 1 && b <= 32768) {
			t.Error("Back", b, is)
		}
		if is := match.Right(litBack(b)); is != (b == 0) {
			t.Error("literal of Back", b, is)
		}
	}
}

// P9.1: the limits are those of package api.
func TestLimits(t *testing.T) {
	if api.MaxWindow != widest || api.MaxSegment != fullest {
		t.Error(api.MaxWindow, api.MaxSegment)
	}
}

// P9.1: 1 of a literal, Length of a match, 0 of what may not be; where a Back reaches doesn't matter.
func TestSize(t *testing.T) {
	for i, c := range []struct {
		l    []match.Token
		want int
	}{
		{nil, 0},
		{[]match.Token{}, 0},
		{[]match.Token{{}}, 1},
		{lits("abc"), 3},
		{[]match.Token{back(3, 1)}, 3},
		{[]match.Token{back(258, widest)}, 258},
		{behind("a", back(3, 1), lit('b'), back(258, 5)), 263},
		{[]match.Token{lit('a'), back(2, 1), lit('b')}, 2},
		{[]match.Token{back(259, 1), lit('b'), back(3, 0), back(4, widest+1), back(5, 9)}, 6},
		{[]match.Token{litBack(1), {Lit: 1, Length: 3, Back: 1}}, 0},
		{slices.Repeat([]match.Token{back(258, 1)}, 10000), 2580000},
		{slices.Repeat([]match.Token{lit(0)}, fullest+1), fullest + 1},
	} {
		if n := match.Size(c.l); n != c.want {
			t.Errorf("case %d: %d, not %d", i, n, c.want)
		}
	}
	for _, x := range rightLiterals() {
		if n := match.Size([]match.Token{x, x}); n != 2 {
			t.Error(x, n)
		}
	}
	for _, x := range rightMatches() {
		if n := match.Size([]match.Token{x, lit(0), x}); n != 2*x.Length+1 {
			t.Error(x, n)
		}
	}
}

// P9.1: each token that may not be stands for nothing, wherever it stands; the others count all the same.
func TestSizeOfWrong(t *testing.T) {
	wrong := wrongTokens()
	if n := match.Size(wrong); n != 0 {
		t.Error("all:", n)
	}
	for _, x := range wrong {
		if n := match.Size([]match.Token{x}); n != 0 {
			t.Error(x, n)
		}
		if n := match.Size([]match.Token{x, lit('a'), x, back(7, 1), x}); n != 8 {
			t.Error(x, "among others:", n)
		}
	}
}

// P9.1: known tokens, the chapter's example among them.
func TestParseKnown(t *testing.T) {
	for _, c := range []struct {
		s      string
		window int
		want   []match.Token
	}{
		{"abcabcabcd", widest, behind("abc", back(6, 3), lit('d'))},
		{"abcabcabcd", 3, behind("abc", back(6, 3), lit('d'))},
		{"abcabcabcd", 2, lits("abcabcabcd")},
		{"abcd", 9, lits("abcd")},
		{"ababab", 9, behind("ab", back(4, 2))},
		{"banana", 9, behind("ban", back(3, 2))},
		{"banana", 1, lits("banana")},
		{"mississippi", 99, behind("miss", back(4, 3), lit('p'), lit('p'), lit('i'))},
		{"abcdeabcdX", 99, behind("abcde", back(4, 5), lit('X'))},
		{"\x00\x00\x00\x00\x00", 1, behind("\x00", back(4, 1))},
		{"\x00\x00\x01\x00\x00\x00\x01", 99, behind("\x00\x00\x01\x00", back(3, 4))},
		{"\xff\xfe\xfd\xff\xfe\xfd", 3, behind("\xff\xfe\xfd", back(3, 3))},
	} {
		wantParse(t, []byte(c.s), c.window, c.want)
	}
}

// P9.1: nothing in a window that may not be, of any bytes.
func TestParseWrongWindow(t *testing.T) {
	for _, window := range []int{0, -1, -2, -3, -widest, -widest - 1, math.MinInt32, math.MinInt, math.MinInt + 1, widest + 1, widest + 2, 2 * widest, 1 << 32, 1<<32 + 1, math.MaxInt32, math.MaxInt - 1, math.MaxInt} {
		for _, s := range []string{"", "a", "aaaa", "abcabcX", strings.Repeat("abc", 1000)} {
			if l := match.Parse([]byte(s), window); len(l) > 0 {
				t.Error("window", window, short([]byte(s)), l)
			}
		}
	}
}

// P9.1: the narrowest windows and the widest ones.
func TestParseRightWindow(t *testing.T) {
	for _, window := range []int{1, 2, 3, widest - 1, widest} {
		wantParse(t, []byte("aaaaa"), window, behind("a", back(4, 1)))
		wantParse(t, []byte("abc"), window, lits("abc"))
	}
	wantParse(t, []byte("ababababab"), 1, lits("ababababab"))
	wantParse(t, []byte("ababababab"), 2, behind("ab", back(8, 2)))
	wantParse(t, []byte("abcabcabcc"), 2, lits("abcabcabcc"))
	wantParse(t, []byte("abcabcabccccc"), 1, behind("abcabcabc", back(4, 1)))
	wantParse(t, []byte("aababbb"), 1, lits("aababbb"))
	wantParse(t, []byte("aababbbb"), 1, behind("aabab", back(3, 1)))
}

// P9.1: no bytes, 1, 2 and 3 of them, of any kind, are literals, as a match needs one ahead of its 3.
func TestParseFew(t *testing.T) {
	for _, window := range []int{1, 2, 3, widest} {
		if l := match.Parse(nil, window); len(l) > 0 {
			t.Error("of nil:", l)
		}
		for _, s := range []string{"", "a", "\x00", "\xff", "ab", "aa", "\x00\x00", "abc", "aaa", "aba", "abb", "\x00\x00\x00"} {
			wantParse(t, []byte(s), window, lits(s))
		}
	}
}

// P9.1: a row of one byte, of two and of three by turns, is matched with what it makes itself, 258 bytes a time; what is left, if it is less than 3 bytes, is literals.
func TestParseRows(t *testing.T) {
	for _, turn := range []string{"a", "\x00", "ab", "\x00\xff", "abc", "aab", "abcd", "abcdefg"} {
		for _, n := range []int{1, 2, 3, 4, 5, 6, 7, 8, 9, 10, 11, 100, 257, 258, 259, 260, 261, 262, 263, 264, 265, 266, 515, 516, 517, 518, 519, 520, 521, 522, 523, 1000} {
			b := []byte(strings.Repeat(turn, n))[:n]
			for _, window := range []int{len(turn), len(turn) + 1, 2*len(turn) - 1, 2 * len(turn), 300, widest} {
				wantParse(t, b, window, turned(turn, n))
			}
		}
	}
	for _, turn := range []string{"ab", "abc", "aab", "abcdefg"} {
		b := []byte(strings.Repeat(turn, 300))
		wantParse(t, b, len(turn)-1, lits(string(b)))
	}
}

// turned is the tokens of n bytes of a turn.
func turned(turn string, n int) []match.Token {
	text := strings.Repeat(turn, n)[:n]
	at := min(len(turn), n)
	l := lits(text[:at])
	for ; n-at >= shortest; at += l[len(l)-1].Length {
		l = append(l, back(min(n-at, longest), len(turn)))
	}
	return append(l, lits(text[at:])...)
}

// P9.1: rows of one byte fewer than 3, of 3, of 258, and of more: 258 are matched, and what is left, if it is 3 bytes or more, as far back again.
func TestParseLengths(t *testing.T) {
	for n := 1; n <= 800; n++ {
		x := apart(n)
		b := slices.Concat(x, []byte{0}, x)
		want := lits(string(b[:n+1]))
		left := n
		for ; left >= shortest; left -= min(left, longest) {
			want = append(want, back(min(left, longest), n+1))
		}
		want = append(want, lits(string(x[n-left:]))...)
		wantParse(t, b, widest, want)
		wantParse(t, b, n+1, want)
		wantParse(t, b, n, lits(string(b)))
		if n <= longest && n >= shortest {
			// What comes behind is another byte than that behind the first row: the match is no longer.
			wantParse(t, append(slices.Clip(b), 255), widest, append(slices.Clip(want), lit(255)))
		}
	}
}

// P9.1: a match lies just as far back as the window has, and no byte further.
func TestParseFar(t *testing.T) {
	for _, far := range []int{3, 4, 5, 7, 8, 100, 255, 256, 257, 258, 259, 1000, 4096, widest - 2, widest - 1, widest} {
		for _, n := range []int{3, 4, 5, 100, 257, 258} {
			x := apart(far)
			x[0] = 0 // what stands across the seam stands nowhere else
			n = min(n, far)
			b := slices.Concat(x, x[:n])
			want := behind(string(x), back(n, far))
			wantParse(t, b, far, want)
			wantParse(t, b, min(far+1, widest), want)
			wantParse(t, b, widest, want)
			wantParse(t, b, far-1, lits(string(b)))
		}
	}
	// One byte further than the widest window has.
	x := apart(widest + 1)
	x[0] = 0
	b := slices.Concat(x, x[:shortest])
	wantParse(t, b, widest, lits(string(b)))
}

// P9.1: of rows as long the nearest; of a nearer shorter one and a farther longer one the longer; what is out of the window doesn't count.
func TestParseWhich(t *testing.T) {
	for _, c := range []struct {
		s      string
		window int
		want   []match.Token
	}{
		{"abcXabcYabcZ", 99, behind("abcX", back(3, 4), lit('Y'), back(3, 4), lit('Z'))},
		{"abcXabcYabcZ", 4, behind("abcX", back(3, 4), lit('Y'), back(3, 4), lit('Z'))},
		{"abcdXabcYabcdZ", 99, behind("abcdX", back(3, 5), lit('Y'), back(4, 9), lit('Z'))},
		{"abcdXabcYabcdZ", 9, behind("abcdX", back(3, 5), lit('Y'), back(4, 9), lit('Z'))},
		{"abcdXabcYabcdZ", 8, behind("abcdX", back(3, 5), lit('Y'), back(3, 4), lit('d'), lit('Z'))},
		{"abcXabcdYabcdZ", 99, behind("abcX", back(3, 4), lit('d'), lit('Y'), back(4, 5), lit('Z'))},
		{"abcdeXabcdYabcZabcdeW", 99, behind("abcdeX", back(4, 6), lit('Y'), back(3, 5), lit('Z'), back(5, 15), lit('W'))},
		{"abcdeXabcdYabcZabcdeW", 14, behind("abcdeX", back(4, 6), lit('Y'), back(3, 5), lit('Z'), back(4, 9), lit('e'), lit('W'))},
		{"abcdeXabcdYabcZabcdeW", 8, behind("abcdeX", back(4, 6), lit('Y'), back(3, 5), lit('Z'), back(3, 4), lit('d'), lit('e'), lit('W'))},
		// Three of four bytes: the nearest of them, behind a nearer one of three.
		{"abcdVabcdWabceXabcdY", 99, behind("abcdV", back(4, 5), lit('W'), back(3, 5), lit('e'), lit('X'), back(4, 10), lit('Y'))},
		// The text's end makes both as long.
		{"abcdXabcYabc", 99, behind("abcdX", back(3, 5), lit('Y'), back(3, 4))},
		// A place within a match that was gone past.
		{"abcabcabcabXbcabY", 99, behind("abc", back(8, 3), lit('X'), back(4, 5), lit('Y'))},
		// The longer one begins in what was just gone past, and reaches into what comes.
		{"aaabXaaaaaaY", 99, behind("aaabX", back(3, 5), back(3, 1), lit('Y'))},
	} {
		wantParse(t, []byte(c.s), c.window, c.want)
	}
}

// P9.1: of two places at which 258 bytes and more are the same the nearest one, though the farther one has more; not where it has one byte fewer.
func TestParseWhichOfLongest(t *testing.T) {
	x := apart(longest + 2)
	for _, c := range []struct {
		near, want int
	}{
		{longest - 2, len(x) + 2 + longest - 2 + 3},
		{longest - 1, len(x) + 2 + longest - 1 + 3},
		{longest, longest + 3},
		{longest + 1, longest + 1 + 3},
		{longest + 2, longest + 2 + 3},
	} {
		b := slices.Concat(x, []byte{2, 3}, x[:c.near], []byte{4, 5, 6}, x[:longest])
		l := match.Parse(b, widest)
		if last := l[len(l)-1]; last != back(longest, c.want) {
			t.Errorf("%d bytes at the nearer place: %v", c.near, last)
		}
		wantLongest(t, b, widest)
	}
}

// P9.1: at each place what is longest is taken, though a literal there would make room for a longer match behind it.
func TestParseAtOnce(t *testing.T) {
	wantParse(t, []byte("abcXbcdefgYabcdefg"), 99, behind("abcXbcdefgY", back(3, 11), back(4, 8)))
	wantParse(t, []byte("abXbcdefYabcdef"), 99, behind("abXbcdefYa", back(5, 7)))
}

// P9.1: all texts of two and of three different bytes, up to a length, in all windows up to that and the widest one.
func TestParseAll(t *testing.T) {
	for _, c := range []struct {
		letters string
		most    int
	}{{"ab", 12}, {"abc", 8}} {
		texts := []string{""}
		for n := 0; n <= c.most; n++ {
			var longer []string
			for _, s := range texts {
				for window := 1; window <= max(n, 1); window++ {
					wantParse(t, []byte(s), window, plainParse([]byte(s), window))
				}
				wantParse(t, []byte(s), widest, plainParse([]byte(s), widest))
				for _, x := range c.letters {
					longer = append(longer, s+string(x))
				}
			}
			texts = longer
		}
	}
}

// P9.1: texts of hundreds of bytes, held against the words of the chapter.
func TestParseMany(t *testing.T) {
	for seed := range int64(60) {
		for _, below := range []int{1, 2, 3, 4, 8, 256} {
			b := noise(seed, int(seed*13%701), below)
			for _, window := range []int{1, 2, 3, 5, 16, 63, 200, 258, 259, widest} {
				wantParse(t, b, window, plainParse(b, window))
			}
		}
		b := copied(seed, int(seed*37%1201))
		for _, window := range []int{1, 4, 50, 257, 258, 600, widest} {
			wantParse(t, b, window, plainParse(b, window))
		}
	}
}

// copied is n bytes of pieces of all lengths, new ones and such as stood there already.
func copied(seed int64, n int) []byte {
	r := rand.New(rand.NewSource(seed))
	var b []byte
	for len(b) < n {
		if len(b) == 0 || r.Intn(2) == 0 {
			b = append(b, byte(r.Intn(256)))
			continue
		}
		from, length := r.Intn(len(b)), 1+r.Intn(1<<(1+r.Intn(9)))
		for i := range length {
			b = append(b, b[from+i])
		}
	}
	return b[:n]
}

// kinds are texts of so many bytes, of many kinds.
func kinds(n int) map[string][]byte {
	l := map[string][]byte{
		"noughts":   make([]byte, n),
		"apart":     apart(n),
		"bits":      noise(1, n, 2),
		"letters":   noise(2, n, 4),
		"bytes":     noise(3, n, 256),
		"copied":    copied(4, n),
		"words":     words(n),
		"rows":      rows(n),
		"rare":      rare(n),
		"fibonacci": fibonacci(n),
	}
	for _, turn := range []int{2, 3, 257, 258, 259, 5000, widest - 1, widest, widest + 1} {
		l["turns of "+strconv.Itoa(turn)] = bytes.Repeat(noise(6, turn, 256), 1+n/turn)[:n]
	}
	return l
}

func words(n int) []byte {
	list := strings.Fields("tapes volumes that are written from one end to the other and may be full and lists restores verifies them by reading forward alone")
	var b []byte
	for i := 0; len(b) < n; i++ {
		b = append(append(b, list[i*i*7%len(list)]...), ' ')
	}
	return b[:n]
}

// rows is rows of one byte, longer and longer ones.
func rows(n int) []byte {
	var b []byte
	for i := 1; len(b) < n; i++ {
		b = append(b, bytes.Repeat([]byte{byte(i * i)}, 1+i%300)...)
	}
	return b[:n]
}

// rare is noughts, and ones here and there.
func rare(n int) []byte {
	b := noise(5, n, 60)
	for i, x := range b {
		b[i] = x / 59
	}
	return b
}

// fibonacci is a text in which each beginning comes back at ever new places.
func fibonacci(n int) []byte {
	short, b := []byte("a"), []byte("ab")
	for len(b) < n {
		short, b = b, slices.Concat(b, short)
	}
	return b[:n]
}

// wantKinds wants of texts of all kinds, of a length, in all these windows, the longest row each time.
func wantKinds(t *testing.T, n int, windows ...int) {
	t.Helper()
	for name, b := range kinds(n) {
		for _, window := range windows {
			wantLongest(t, b, window)
			if t.Failed() {
				t.Fatal(name, n)
			}
		}
	}
}

// P9.1, P9.3: texts of many kinds and lengths, in narrow and in wide windows: the longest row each time, and what is parsed is expanded to what it was.
func TestKinds(t *testing.T) {
	for _, n := range []int{0, 1, 2, 3, 4, 5, 17, 256, 257, 258, 259, 260, 261, 262, 516, 517, 1000, 4096} {
		wantKinds(t, n, 1, 2, 3, 100, 258, 259, 4096, widest-1, widest)
	}
	wantKinds(t, widest+3, 300)
	wantKinds(t, fullest-1, 1)
	wantKinds(t, fullest, widest)
}

// P9.3: what is parsed is expanded to what it was, of texts of many lengths.
func TestBack(t *testing.T) {
	all := kinds(fullest)
	for _, n := range []int{7, 515, 3000, widest + 1, fullest - 1, fullest} {
		for _, b := range all {
			for _, window := range []int{1, 1000, widest} {
				wantBack(t, b[:n], window, match.Parse(b[:n], window))
			}
		}
	}
}

// P9.1: bytes that are more than a segment may have are parsed like others; what is told of them is too long to be expanded.
func TestParseLong(t *testing.T) {
	wantKinds(t, fullest+1, 259)
	for _, b := range [][]byte{words(3*fullest + 77), copied(9, 3*fullest), rows(4 * fullest), fibonacci(5 * fullest), noise(7, 2*fullest, 3)} {
		wantLongest(t, b, widest)
	}
}

// P9.2: known tokens.
func TestExpandKnown(t *testing.T) {
	for _, c := range []struct {
		l    []match.Token
		want string
	}{
		{nil, ""},
		{[]match.Token{}, ""},
		{[]match.Token{{}}, "\x00"},
		{[]match.Token{lit(255)}, "\xff"},
		{lits("abc"), "abc"},
		{behind("abc", back(6, 3), lit('d')), "abcabcabcd"},
		{behind("a", back(3, 1)), "aaaa"},
		{behind("ab", back(5, 2), lit('c')), "abababac"},
		{behind("ab", back(3, 1)), "abbbb"},
		{behind("abcd", back(3, 4), back(3, 4), back(4, 3)), "abcdabcdabdabd"},
		{behind("abcde", back(3, 4), lit('X'), back(4, 9)), "abcdebcdXabcd"},
		{behind("x", back(258, 1)), strings.Repeat("x", 259)},
		{behind("xyz", back(258, 3)), strings.Repeat("xyz", 87)},
		{behind("xyz", back(257, 2)), "xyz" + strings.Repeat("yz", 128) + "y"},
	} {
		b, e := match.Expand(c.l)
		if string(b) != c.want || e != api.OK {
			t.Errorf("%v: %s, %d", c.l, short(b), e)
		}
	}
	for _, x := range rightLiterals() {
		if b, e := match.Expand([]match.Token{x}); !bytes.Equal(b, []byte{x.Lit}) || e != api.OK {
			t.Error(x, b, e)
		}
	}
}

// P9.2: all right Lengths and many Backs, each behind as many bytes as it reaches back, and behind more.
func TestExpandMatches(t *testing.T) {
	for _, n := range []int{1, 2, 3, 4, 100, 257, 258, 259, 5000, widest - 1, widest, widest + 1, fullest - longest} {
		l := slices.Clip(lits(string(apart(n))))
		for _, b := range []int{1, 2, 3, 4, 99, 100, 256, 257, 258, 259, 5000, widest - 1, widest} {
			for _, length := range []int{3, 4, 100, 257, 258} {
				if b <= n {
					wantExpand(t, append(l, back(length, b)))
				}
			}
		}
	}
	for length := shortest; length <= longest; length++ {
		wantExpand(t, behind("abcde", back(length, 5), back(length, 4), lit('X'), back(length, 3)))
	}
}

// wantExpand wants of tokens that may be the bytes they stand for.
func wantExpand(t *testing.T, l []match.Token) {
	t.Helper()
	want := plainExpand(l)
	if b, e := match.Expand(l); !bytes.Equal(b, want) || e != api.OK {
		t.Errorf("%d tokens, the last one %v: %s, %d, not %s", len(l), l[len(l)-1], short(b), e, short(want))
	}
}

// P9.2: many rows of tokens as nobody would parse them.
func TestExpandMany(t *testing.T) {
	for seed := range int64(200) {
		r := rand.New(rand.NewSource(seed))
		l := lits("a")
		for n := 1; len(l) < int(seed*7%300); {
			x := lit(byte(r.Intn(256)))
			if r.Intn(3) > 0 {
				x = back(3+r.Intn(1+r.Intn(256)), 1+r.Intn(min(n, widest)))
			}
			if n+max(1, x.Length) > fullest {
				break
			}
			l = append(l, x)
			n += max(1, x.Length)
		}
		wantExpand(t, l)
		if n := match.Size(l); n != len(plainExpand(l)) {
			t.Error("Size", n)
		}
	}
}

// wantError wants an error, and no bytes beside it.
func wantError(t *testing.T, l []match.Token, want api.Errno) {
	t.Helper()
	if b, e := match.Expand(l); len(b) > 0 || e != want {
		t.Errorf("%d tokens, the last one %v: %s, %d, not %d", len(l), l[len(l)-1], short(b), e, want)
	}
}

// P9.2: a token that may not be, alone, first, last and among others.
func TestExpandWrong(t *testing.T) {
	ahead := apart(widest + 300)
	some, many := lits("abcde"), lits(string(ahead))
	for _, x := range wrongTokens() {
		wantError(t, []match.Token{x}, api.ErrForm)
		wantError(t, []match.Token{x, lit('a'), back(3, 1)}, api.ErrForm)
		wantError(t, append(slices.Clip(some), x), api.ErrForm)
		wantError(t, append(slices.Clip(some), x, lit('a')), api.ErrForm)
	}
	// Behind so many that none reaches ahead of the beginning.
	for i, x := range wrongTokens() {
		if i%7 == 0 || x.Back > widest && x.Back < widest+9 {
			wantError(t, append(slices.Clip(many), x), api.ErrForm)
		}
	}
}

// P9.2: a Back that reaches just to the beginning, and one byte ahead of it.
func TestExpandAhead(t *testing.T) {
	for _, n := range []int{0, 1, 2, 3, 4, 10, 257, 258, 259, 1000, widest - 1} {
		l := lits(string(apart(n)))
		for _, length := range []int{3, 4, 257, 258} {
			if n > 0 {
				wantExpand(t, append(slices.Clip(l), back(length, n)))
			}
			wantError(t, append(slices.Clip(l), back(length, n+1)), api.ErrForm)
			wantError(t, append(slices.Clip(l), back(length, n+1), lit('a')), api.ErrForm)
			wantError(t, append(slices.Clip(l), back(length, widest)), api.ErrForm)
		}
	}
	wantExpand(t, append(lits(string(apart(widest))), back(258, widest)))
	// What a match stood for counts, not how many tokens there are.
	wantExpand(t, behind("ab", back(9, 2), back(3, 11)))
	wantError(t, behind("ab", back(9, 2), back(3, 12)), api.ErrForm)
	wantError(t, behind("", back(3, 1)), api.ErrForm)
}

// filled are rows of tokens that stand for just so many bytes, with matches and without.
func filled(n int) [][]match.Token {
	mixed := lits("abc")
	for i := 3; i < n; i = match.Size(mixed) {
		mixed = append(mixed, back(min(3+i%256, n-i), 1+i%3))
		if n-i < 3 {
			mixed[len(mixed)-1] = lit('z')
		}
	}
	full := append(lits("a"), slices.Repeat([]match.Token{back(258, 1)}, (n-1)/258)...)
	return [][]match.Token{
		lits(string(apart(n))),
		append(full, lits(strings.Repeat("z", (n-1)%258))...),
		mixed,
	}
}

// P9.2: tokens that stand for just 2^16 bytes, and for one more, and for many more.
func TestExpandLong(t *testing.T) {
	for _, l := range filled(fullest) {
		wantExpand(t, l)
		wantError(t, append(slices.Clip(l), lit('a')), api.ErrLong)
		wantError(t, append(slices.Clip(l), back(3, 1)), api.ErrLong)
		wantError(t, append(slices.Clip(l), back(258, widest)), api.ErrLong)
		wantError(t, slices.Concat(l, l), api.ErrLong)
	}
	for _, length := range []int{3, 4, 100, 257, 258} {
		for _, l := range filled(fullest - length) {
			wantExpand(t, append(slices.Clip(l), back(length, 7)))
			wantError(t, append(slices.Clip(l), lit('a'), back(length, 7)), api.ErrLong)
			wantError(t, append(slices.Clip(l), back(length, widest), lit('a')), api.ErrLong)
		}
	}
	for _, left := range []int{1, 2} {
		for _, l := range filled(fullest - left) {
			wantError(t, append(slices.Clip(l), back(3, 1)), api.ErrLong)
			wantExpand(t, append(slices.Clip(l), lits("ab")[:left]...))
		}
	}
	wantError(t, append(lits("a"), slices.Repeat([]match.Token{back(258, 1)}, 1<<18)...), api.ErrLong)
}

// P9.2: of two tokens that are amiss the first one is told.
func TestExpandFirst(t *testing.T) {
	for _, l := range filled(fullest) {
		for _, wrong := range []match.Token{back(2, 1), back(259, 1), back(3, 0), back(3, widest+1), litBack(1), {Lit: 1, Length: 3, Back: 1}, back(math.MaxInt, 1), back(math.MinInt, 1)} {
			// Behind so many bytes it is the first one itself.
			wantError(t, append(slices.Clip(l), wrong), api.ErrForm)
			wantError(t, append(slices.Clip(l), wrong, lit('a')), api.ErrForm)
			wantError(t, append(slices.Clip(l), lit('a'), wrong), api.ErrLong)
			wantError(t, append(slices.Clip(l), back(3, 1), wrong), api.ErrLong)
			wantError(t, append([]match.Token{wrong}, append(slices.Clip(l), lit('a'))...), api.ErrForm)
		}
		ahead := append([]match.Token{lit('a'), back(3, 2)}, append(slices.Clip(l), lit('a'))...)
		wantError(t, ahead, api.ErrForm)
	}
	wantError(t, behind("ab", back(3, 3), back(2, 1)), api.ErrForm)
	wantError(t, behind("ab", back(2, 1), back(3, 3)), api.ErrForm)
}

// P9.1, P9.2: what is handed in is not changed, nor is the room behind its end.
func TestHandedIn(t *testing.T) {
	room := append(bytes.Repeat([]byte("abcab"), 40), "spare room"...)
	was := slices.Clone(room)
	for _, window := range []int{0, 1, 5, widest} {
		match.Parse(room[:150], window)
	}
	if !bytes.Equal(room, was) {
		t.Error("Parse changed bytes")
	}
	for _, l := range [][]match.Token{
		behind("abc", back(258, 3), lit('d'), lit('e'), back(3, 1)),
		behind("abc", back(258, 4), lit('d'), lit('e'), back(3, 1)),
		append(behind("a", slices.Repeat([]match.Token{back(258, 1)}, 300)...), lit(1)),
	} {
		wasTokens := slices.Clone(l)
		match.Expand(l[:len(l)-1])
		match.Size(l[:len(l)-1])
		if !slices.Equal(l, wasTokens) {
			t.Error("Expand or Size changed tokens")
		}
	}
}

// P9.1, P9.2: an answer is new memory: what is done with it, spare room too, is seen in no argument and in no other answer.
func TestNewMemory(t *testing.T) {
	b := bytes.Repeat([]byte("abcdeabc"), 20)
	was := slices.Clone(b)
	one, other := match.Parse(b, widest), match.Parse(b, widest)
	wasTokens := slices.Clone(other)
	clear(one[:cap(one)])
	if !bytes.Equal(b, was) || !slices.Equal(other, wasTokens) {
		t.Error("Parse")
	}
	x, _ := match.Expand(other)
	y, _ := match.Expand(other)
	clear(x[:cap(x)])
	if !bytes.Equal(y, was) || !slices.Equal(other, wasTokens) {
		t.Error("Expand")
	}
	clear(b)
	if again, e := match.Expand(other); !bytes.Equal(again, was) || e != api.OK {
		t.Error("kept:", short(again), e)
	}
}

// P9.1, P9.2: the same answer each time, whatever was asked before, whatever room is behind an argument, and by many at once.
func TestOneAnswer(t *testing.T) {
	all := kinds(3000)
	asked := map[string][]match.Token{}
	for name, b := range all {
		asked[name] = match.Parse(b, 700)
	}
	done := make(chan string)
	for range 4 {
		go func() {
			for name, b := range all {
				l := match.Parse(append(make([]byte, 0, 2*len(b)+9), b...), 700)
				x, e := match.Expand(append(make([]match.Token, 0, 3*len(l)+5), l...))
				if !slices.Equal(l, asked[name]) || !bytes.Equal(x, b) || e != api.OK {
					done <- name
					return
				}
			}
			done <- ""
		}()
	}
	for range 4 {
		if name := <-done; name != "" {
			t.Error("another answer:", name)
		}
	}
}

// P9.1: a text in which the same three bytes stand at tens of thousands of places, and hardly ever go on as what comes next does.
func TestParseHard(t *testing.T) {
	b := make([]byte, fullest)
	for i := fullest / 2; i < fullest; i++ {
		if i%4 == 3 {
			b[i] = byte(1 + i*i>>3%255)
		}
	}
	wantLongest(t, b, widest)
}
