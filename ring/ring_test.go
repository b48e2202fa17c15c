package ring_test

import (
	"math"
	"slices"
	"strconv"
	"testing"

	"portmanteau/ring"
)

const widest = 1 << 16

// pair is a thing of several fields.
type pair struct {
	name string
	size int
}

// told is a thing, and whether there is one.
type told[T any] struct {
	x  T
	is bool
}

// plain is a ring as the document's words tell it: the whole row of what was put, of which the last things are asked.
type plain[T any] struct {
	row  []T
	room int
}

func (p *plain[T]) put(x T) told[T] {
	p.row = append(p.row, x)
	if len(p.row) <= p.room {
		return told[T]{}
	}
	return told[T]{p.row[len(p.row)-1-p.room], true}
}

// has is what it has, the oldest one first.
func (p *plain[T]) has() []T {
	return slices.Clone(p.row[max(0, len(p.row)-p.room):])
}

func (p *plain[T]) at(age int) told[T] {
	if age < 0 || age >= len(p.has()) {
		return told[T]{}
	}
	return told[T]{p.row[len(p.row)-1-age], true}
}

func put[T any](r *ring.Ring[T], x T) told[T] {
	old, is := r.Put(x)
	return told[T]{old, is}
}

func at[T any](r *ring.Ring[T], age int) told[T] {
	x, is := r.At(age)
	return told[T]{x, is}
}

// old is the first things that Old goes through, at most so many.
func old[T any](r *ring.Ring[T], most int) []T {
	var list []T
	r.Old()(func(x T) bool {
		list = append(list, x)
		return len(list) < most
	})
	return list
}

// all is the first things that All goes through, at most so many; and their ages.
func all[T any](r *ring.Ring[T], most int) ([]T, []int) {
	var list []T
	var ages []int
	r.All()(func(age int, x T) bool {
		list, ages = append(list, x), append(ages, age)
		return len(list) < most
	})
	return list, ages
}

// counted is the numbers from 0 on, so many.
func counted(count int) []int {
	list := make([]int, count)
	for i := range list {
		list[i] = i
	}
	return list
}

// backwards is a list from its end on.
func backwards[T any](list []T) []T {
	list = slices.Clone(list)
	slices.Reverse(list)
	return list
}

// someAges are ages around all that a ring of so many things has, and far from them.
func someAges(length int) []int {
	list := []int{math.MinInt, math.MinInt32, -length - 1, -length, -2, -1}
	list = append(list, counted(length)...)
	return append(list, length, length+1, 2*length, widest, widest+1, math.MaxInt32, math.MaxInt)
}

// want holds a ring against what a plain one tells, at all calls that change nothing.
func want[T comparable](t *testing.T, r *ring.Ring[T], p *plain[T]) {
	t.Helper()
	has := p.has()
	if r.Len() != len(has) || r.Room() != p.room || r.Many() != len(p.row) {
		t.Fatalf("room %d, many %d: Len %d, Room %d, Many %d", p.room, len(p.row), r.Len(), r.Room(), r.Many())
	}
	for _, age := range someAges(len(has)) {
		if got := at(r, age); got != p.at(age) {
			t.Fatalf("room %d, many %d: At(%d) %v, not %v", p.room, len(p.row), age, got, p.at(age))
		}
	}
	list, ages := all(r, math.MaxInt)
	if !slices.Equal(list, backwards(has)) || !slices.Equal(ages, counted(len(has))) {
		t.Fatalf("room %d, many %d: All %v, of ages %v", p.room, len(p.row), list, ages)
	}
	if got := old(r, math.MaxInt); !slices.Equal(got, has) {
		t.Fatalf("room %d, many %d: Old %v, not %v", p.room, len(p.row), got, has)
	}
}

// wantPuts puts the things that thing tells, and holds the ring against a plain one at each step.
func wantPuts[T comparable](t *testing.T, room, count int, thing func(i int) T) {
	t.Helper()
	r, p := ring.New[T](room), &plain[T]{room: room}
	want(t, r, p)
	for i := range count {
		x := thing(i)
		if got, asked := put(r, x), p.put(x); got != asked {
			t.Fatalf("room %d, put as number %d: %v, not %v", room, i, got, asked)
		}
		want(t, r, p)
	}
}

// filled is a ring, and a plain one, to which the numbers from 1 on were put.
func filled(room, count int) (*ring.Ring[int], *plain[int]) {
	r, p := ring.New[int](room), &plain[int]{room: room}
	for i := range count {
		r.Put(i + 1)
		p.put(i + 1)
	}
	return r, p
}

// P8.1: the chapter's example.
func TestKnown(t *testing.T) {
	r := ring.New[int](2)
	asked := []told[int]{{}, {}, {1, true}}
	for i, old := range asked {
		if got := put(r, i+1); got != old {
			t.Errorf("Put(%d) is %v", i+1, got)
		}
	}
	for age, x := range []told[int]{{3, true}, {2, true}, {}} {
		if got := at(r, age); got != x {
			t.Errorf("At(%d) is %v", age, got)
		}
	}
	if r.Len() != 2 || r.Room() != 2 || r.Many() != 3 {
		t.Error("Len, Room, Many:", r.Len(), r.Room(), r.Many())
	}
}

// P8.1: a ring is empty at first; none has room for fewer than 0 things, or for more than 2^16.
func TestNew(t *testing.T) {
	for _, room := range []int{0, 1, 2, 3, 255, 1 << 15, widest - 1, widest} {
		r := ring.New[int](room)
		if r == nil {
			t.Fatal("none with room for", room)
		}
		want(t, r, &plain[int]{room: room})
	}
	for _, room := range []int{-1, -2, -widest, math.MinInt32, math.MinInt, widest + 1, widest + 2, 2 * widest, math.MaxInt32, math.MaxInt} {
		if r := ring.New[int](room); r != nil {
			t.Error("one with room for", room)
		}
		if r := ring.New[pair](room); r != nil {
			t.Error("one of pairs with room for", room)
		}
	}
}

// P8.1: two new rings have nothing of each other.
func TestNewOfItsOwn(t *testing.T) {
	a, b := ring.New[int](2), ring.New[int](2)
	a.Put(1)
	b.Put(2)
	b.Put(3)
	want(t, a, &plain[int]{[]int{1}, 2})
	want(t, b, &plain[int]{[]int{2, 3}, 2})
}

// P8.1, P8.2: all calls, behind each put, from none to many times as many as there is room for; things of several types.
func TestPuts(t *testing.T) {
	for _, room := range []int{0, 1, 2, 3, 4, 5, 7, 8, 16, 31} {
		count := 4*room + 5
		wantPuts(t, room, count, func(i int) int { return i + 1 })
		wantPuts(t, room, count, func(i int) byte { return byte(7 * i) })
		wantPuts(t, room, count, func(i int) float64 { return float64(i) / 4 })
		wantPuts(t, room, count, func(i int) string { return strconv.Itoa(i * i) })
		wantPuts(t, room, count, func(i int) pair { return pair{strconv.Itoa(i), -i} })
		wantPuts(t, room, count, func(i int) [3]int { return [3]int{i, 0, -i} })
		wantPuts(t, room, count, func(i int) *pair { return &pair{size: i} })
		wantPuts(t, room, count, func(i int) struct{} { return struct{}{} })
	}
}

// P8.1, P8.2: zero things and things that are the same are things like others.
func TestPutsOfTheSame(t *testing.T) {
	for _, room := range []int{0, 1, 2, 5} {
		wantPuts(t, room, 13, func(i int) int { return 0 })
		wantPuts(t, room, 13, func(i int) string { return "" })
		wantPuts(t, room, 13, func(i int) int { return i / 3 % 2 })
		wantPuts(t, room, 13, func(i int) pair { return pair{} })
		wantPuts(t, room, 13, func(i int) *pair { return nil })
	}
}

// P8.1: of no room x itself is driven out, at each put; they are counted all the same.
func TestNoRoom(t *testing.T) {
	r := ring.New[string](0)
	for i, x := range []string{"a", "", "b", "b"} {
		if got := put(r, x); got != (told[string]{x, true}) {
			t.Errorf("Put(%q) is %v", x, got)
		}
		if r.Len() != 0 || r.Room() != 0 || r.Many() != i+1 {
			t.Error("Len, Room, Many:", r.Len(), r.Room(), r.Many())
		}
		if got := at(r, 0); got != (told[string]{}) {
			t.Error("At(0) is", got)
		}
	}
}

// P8.1, P8.2: a ring with as much room as there may be: one fewer, as many, one more, and many times as many.
func TestWidest(t *testing.T) {
	r, p := ring.New[int](widest), &plain[int]{room: widest}
	for i := range 3*widest + 7 {
		if got, asked := put(r, i+1), p.put(i+1); got != asked {
			t.Fatalf("put as number %d: %v, not %v", i, got, asked)
		}
		switch i + 1 {
		case 1, widest - 1, widest, widest + 1, 2 * widest, 3*widest + 7:
			wantWide(t, r, p)
		}
	}
}

// wantWide holds a wide ring against a plain one, at the ages around its ends alone.
func wantWide(t *testing.T, r *ring.Ring[int], p *plain[int]) {
	t.Helper()
	has := p.has()
	if r.Len() != len(has) || r.Room() != widest || r.Many() != len(p.row) {
		t.Fatalf("many %d: Len %d, Room %d, Many %d", len(p.row), r.Len(), r.Room(), r.Many())
	}
	for _, age := range []int{-1, 0, 1, len(has) / 2, len(has) - 2, len(has) - 1, len(has), widest - 1, widest, widest + 1} {
		if got := at(r, age); got != p.at(age) {
			t.Fatalf("many %d: At(%d) %v, not %v", len(p.row), age, got, p.at(age))
		}
	}
	list, ages := all(r, math.MaxInt)
	if !slices.Equal(list, backwards(has)) || !slices.Equal(ages, counted(len(has))) {
		t.Fatal("All, of many", len(p.row))
	}
	if !slices.Equal(old(r, math.MaxInt), has) {
		t.Fatal("Old, of many", len(p.row))
	}
}

// P8.1: what is driven out, one by one, is what was put, in its order.
func TestDrivenOut(t *testing.T) {
	for _, room := range []int{0, 1, 2, 3, 9, 64} {
		r := ring.New[int](room)
		var out []int
		for i := range 500 {
			if x := put(r, i); x.is {
				out = append(out, x.x)
			} else if x.x != 0 || i >= room {
				t.Fatalf("room %d: put as number %d: %v", room, i, x)
			}
		}
		if !slices.Equal(out, counted(500-room)) {
			t.Errorf("room %d: driven out: %v", room, out)
		}
	}
}

// P8.1: things that can't be held against each other: lists and functions.
func TestListsAndFunctions(t *testing.T) {
	lists := ring.New[[]byte](2)
	for _, x := range []string{"a", "bc", "def"} {
		lists.Put([]byte(x))
	}
	if x, is := lists.At(1); string(x) != "bc" || !is {
		t.Errorf("At(1) is %q, %v", x, is)
	}
	if x, is := lists.At(2); x != nil || is {
		t.Errorf("At(2) is %q, %v", x, is)
	}
	if x, is := lists.Put(nil); string(x) != "bc" || !is {
		t.Errorf("Put(nil) is %q, %v", x, is)
	}
	calls := ring.New[func() int](1)
	calls.Put(func() int { return 1 })
	if x, is := calls.Put(func() int { return 2 }); !is || x() != 1 {
		t.Error("Put of a function")
	}
	if x, is := calls.At(0); !is || x() != 2 {
		t.Error("At of a function")
	}
}

// P8.2: gone through as long as they are told true: stopped at the first, in the midst, at the last; what is told behind a false is nothing.
func TestStopped(t *testing.T) {
	for _, room := range []int{1, 2, 5, 8} {
		for _, count := range []int{1, room - 1, room, room + 1, 3*room + 2} {
			r, p := filled(room, max(count, 0))
			has := p.has()
			for most := 1; most <= len(has)+1; most++ {
				first := min(most, len(has))
				list, ages := all(r, most)
				if !slices.Equal(list, backwards(has)[:first]) || !slices.Equal(ages, counted(first)) {
					t.Errorf("room %d, many %d: All, at most %d: %v, of ages %v", room, count, most, list, ages)
				}
				if got := old(r, most); !slices.Equal(got, has[:first]) {
					t.Errorf("room %d, many %d: Old, at most %d: %v", room, count, most, got)
				}
			}
			want(t, r, p)
		}
	}
}

// P8.2: All and Old, by a range with a break, a continue and a return.
func TestRanges(t *testing.T) {
	r, _ := filled(4, 6)
	var got []int
	for age, x := range r.All() {
		if age == 1 {
			continue
		}
		if age == 3 {
			break
		}
		got = append(got, age, x)
	}
	if !slices.Equal(got, []int{0, 6, 2, 4}) {
		t.Error("All:", got)
	}
	first := func() int {
		for x := range r.Old() {
			return x
		}
		return 0
	}
	if first() != 3 {
		t.Error("Old:", first())
	}
}

// P8.2: what goes through may be taken twice, stopped or not, and at once with another.
func TestAgain(t *testing.T) {
	for _, count := range []int{0, 1, 2, 3, 4, 11} {
		r, p := filled(3, count)
		each, olds := r.All(), r.Old()
		for _, most := range []int{1, 2, math.MaxInt, math.MaxInt, 1, 3} {
			var list, ages, oldest []int
			for age, x := range each {
				list, ages = append(list, x), append(ages, age)
				if len(list) == most {
					break
				}
			}
			for x := range olds {
				oldest = append(oldest, x)
				if len(oldest) == most {
					break
				}
			}
			first := min(most, len(p.has()))
			if !slices.Equal(list, backwards(p.has())[:first]) || !slices.Equal(ages, counted(first)) || !slices.Equal(oldest, p.has()[:first]) {
				t.Errorf("many %d, at most %d: %v of ages %v; %v", count, most, list, ages, oldest)
			}
		}
	}
}

// P8.2: what is gone through is what the ring has by then, not what it had when it was asked.
func TestPutBefore(t *testing.T) {
	r, _ := filled(3, 2)
	each, olds := r.All(), r.Old()
	r.Put(3)
	r.Put(4)
	var got []int
	for age, x := range each {
		got = append(got, age, x)
	}
	for x := range olds {
		got = append(got, x)
	}
	if !slices.Equal(got, []int{0, 4, 1, 3, 2, 2, 2, 3, 4}) {
		t.Error(got)
	}
}

// P8.2: one is gone through within another, and neither hangs on the other.
func TestWithin(t *testing.T) {
	r, _ := filled(3, 4)
	var got []int
	for _, x := range r.All() {
		for y := range r.Old() {
			got = append(got, 10*x+y)
		}
	}
	if !slices.Equal(got, []int{42, 43, 44, 32, 33, 34, 22, 23, 24}) {
		t.Error(got)
	}
}

// P8.2: it ends, and tells no more things than there were, whatever is put on the way.
func TestPutOnTheWay(t *testing.T) {
	for _, count := range []int{1, 2, 50, 99, 100, 101, 250} {
		r, _ := filled(100, count)
		steps, had := 0, r.Len()
		for age, x := range r.All() {
			if got := at(r, age); got != (told[int]{x, true}) {
				t.Fatalf("many %d: All tells %d of age %d: %v", count, x, age, got)
			}
			steps++
			r.Put(x)
		}
		if steps != had || r.Many() != count+had {
			t.Errorf("many %d: All: %d steps, many %d", count, steps, r.Many())
		}
		steps, had = 0, r.Len()
		for x := range r.Old() {
			steps++
			r.Put(x)
		}
		if steps != had {
			t.Errorf("many %d: Old: %d steps, not %d", count, steps, had)
		}
	}
}

// P8.2: a ring that is emptied on the way has nothing more to tell.
func TestEmptiedOnTheWay(t *testing.T) {
	steps := 0
	r, _ := filled(4, 9)
	for range r.All() {
		steps++
		*r = ring.Ring[int]{}
	}
	r, _ = filled(4, 9)
	for range r.Old() {
		steps++
		*r = *ring.New[int](2)
	}
	if steps != 2 {
		t.Error("steps:", steps)
	}
}

// P8.2: to go through with nobody to tell is nothing, of any ring.
func TestNobody(t *testing.T) {
	r, p := filled(3, 5)
	r.All()(nil)
	r.Old()(nil)
	want(t, r, p)
	var none *ring.Ring[int]
	none.All()(nil)
	none.Old()(nil)
}

// P8.1, P8.2: a nil ring at each call.
func TestNil(t *testing.T) {
	wantNil(t, 7)
	wantNil(t, "x")
	wantNil(t, pair{"x", 1})
	wantNil(t, &pair{"x", 1})
}

func wantNil[T comparable](t *testing.T, x T) {
	t.Helper()
	for _, r := range []*ring.Ring[T]{nil, ring.New[T](-1), ring.New[T](widest + 1)} {
		for range 2 {
			if got := put(r, x); got != (told[T]{}) {
				t.Error("Put:", got)
			}
			if r.Len() != 0 || r.Room() != 0 || r.Many() != 0 {
				t.Error("Len, Room, Many:", r.Len(), r.Room(), r.Many())
			}
			for _, age := range someAges(2) {
				if got := at(r, age); got != (told[T]{}) {
					t.Errorf("At(%d): %v", age, got)
				}
			}
			if r.Copy() != nil {
				t.Error("Copy")
			}
			for age, x := range r.All() {
				t.Error("All:", age, x)
			}
			for x := range r.Old() {
				t.Error("Old:", x)
			}
		}
	}
}

// P8.1: a ring that nobody made has no room.
func TestZeroRing(t *testing.T) {
	var r ring.Ring[int]
	p := &plain[int]{}
	want(t, &r, p)
	for i := range 3 {
		if got := put(&r, i); got != p.put(i) {
			t.Error("Put:", got)
		}
		want(t, &r, p)
		want(t, r.Copy(), p)
	}
}

// P8.1: a copy is just so, and goes on as the ring itself would; neither sees what is put to the other.
func TestCopy(t *testing.T) {
	for _, room := range []int{0, 1, 2, 3, 4, 8, 100} {
		for _, count := range []int{0, 1, room / 2, room - 1, room, room + 1, 2*room - 1, 2 * room, 5*room + 3} {
			for _, more := range []int{1, 2, room, 2*room + 1} {
				wantCopy(t, room, max(count, 0), more)
			}
		}
	}
}

func wantCopy(t *testing.T, room, count, more int) {
	t.Helper()
	r, p := filled(room, count)
	c, q := r.Copy(), &plain[int]{slices.Clone(p.row), room}
	if c == r {
		t.Fatal("the ring itself")
	}
	want(t, c, q)
	for i := range more {
		if got, asked := put(r, -i-1), p.put(-i-1); got != asked {
			t.Fatalf("room %d, many %d: put to the ring: %v, not %v", room, count+i, got, asked)
		}
	}
	want(t, r, p)
	want(t, c, q)
	for i := range more {
		if got, asked := put(c, 1000+i), q.put(1000+i); got != asked {
			t.Fatalf("room %d, many %d: put to the copy: %v, not %v", room, count+i, got, asked)
		}
		want(t, r, p)
		want(t, c, q)
	}
}

// P8.1: they are put to by turns, the ring, its copy, and the copy of that.
func TestCopyByTurns(t *testing.T) {
	for count := range 12 {
		a, p := filled(5, count)
		rings := []*ring.Ring[int]{a, a.Copy(), a.Copy().Copy()}
		plains := []*plain[int]{p, {slices.Clone(p.row), 5}, {slices.Clone(p.row), 5}}
		for i := range 30 {
			at, x := i%3, 100*(i%3)+i
			if got, asked := put(rings[at], x), plains[at].put(x); got != asked {
				t.Fatalf("many %d: put to ring %d: %v, not %v", count, at, got, asked)
			}
			for j := range rings {
				want(t, rings[j], plains[j])
			}
		}
	}
}

// P8.2: what goes through a ring doesn't go through its copy, and the other way.
func TestCopyWhileGoneThrough(t *testing.T) {
	r, p := filled(3, 4)
	var c *ring.Ring[int]
	var got []int
	for x := range r.Old() {
		if c == nil {
			c = r.Copy()
		}
		c.Put(-x)
		got = append(got, x)
	}
	if !slices.Equal(got, []int{2, 3, 4}) {
		t.Error("Old:", got)
	}
	want(t, r, p)
	want(t, c, &plain[int]{[]int{1, 2, 3, 4, -2, -3, -4}, 3})
}

// P8.1, P8.2: what tells of a ring changes nothing of it.
func TestAsked(t *testing.T) {
	for _, count := range []int{0, 2, 4, 7} {
		r, p := filled(4, count)
		for range 3 {
			want(t, r, p)
			want(t, r.Copy(), p)
			r.All()(func(age int, x int) bool { return false })
			r.Old()(func(x int) bool { return false })
		}
		if got, asked := put(r, 99), p.put(99); got != asked {
			t.Errorf("many %d: Put %v, not %v", count, got, asked)
		}
		want(t, r, p)
	}
}
