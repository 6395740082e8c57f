package queue

import (
	"math"
	"runtime"
	"slices"
	"strconv"
	"testing"
	"weak"

	"taffrail/api"
)

// pair is a struct that may be compared.
type pair struct {
	a int
	b string
}

// is ends the test unless an error is the one that is asked. It and those below end it at the first fault, as tests that go through all places would tell of each.
func is(t *testing.T, e, want api.Errno) {
	t.Helper()
	if e != want {
		t.Fatalf("error %d, not %d", e, want)
	}
}

// holds ends the test unless a queue holds these things, in order, and no others.
func holds[T comparable](t *testing.T, q *Queue[T], want ...T) {
	t.Helper()
	if l := q.All(); !slices.Equal(l, want) {
		t.Fatalf("it holds\n%v, not\n%v", l, want)
	}
	if n := q.Len(); n != len(want) {
		t.Fatalf("Len: %d, not %d", n, len(want))
	}
}

// pushes pushes things, in order, and ends the test unless it can be done.
func pushes[T comparable](t *testing.T, q *Queue[T], things ...T) {
	t.Helper()
	for _, v := range things {
		if e := q.Push(v); e != api.OK {
			t.Fatalf("Push(%v): %d", v, e)
		}
	}
}

// popped ends the test unless popping answers that.
func popped[T comparable](t *testing.T, q *Queue[T], v T, want api.Errno) {
	t.Helper()
	if w, e := q.Pop(); w != v || e != want {
		t.Fatalf("Pop: %v, %d, not %v, %d", w, e, v, want)
	}
}

// pops pops things, and ends the test unless they are these, in order.
func pops[T comparable](t *testing.T, q *Queue[T], things ...T) {
	t.Helper()
	for _, v := range things {
		popped(t, q, v, api.OK)
	}
}

// upTo are the numbers from one to another, both of them.
func upTo(from, to int) []int {
	var l []int
	for n := from; n <= to; n++ {
		l = append(l, n)
	}
	return l
}

// gone has gone round by so many places, and is empty.
func gone(t *testing.T, by int) *Queue[int] {
	t.Helper()
	q := New[int]()
	for n := range by {
		pushes(t, q, -n)
		pops(t, q, -n)
	}
	holds(t, q)
	return q
}

// P7.1

func TestNewQueue(t *testing.T) {
	q := New[int]()
	if q == nil {
		t.Fatal("nil")
	}
	holds(t, q)
	popped(t, q, 0, api.ErrEmpty)
	is(t, q.Drop(0), api.ErrEmpty)
	holds(t, q)
	pushes(t, q, 7)
	holds(t, q, 7)
}

// nilQueue ends the test unless a nil queue answers ErrNil, and no thing, whatever it is asked.
func nilQueue[T comparable](t *testing.T, things ...T) {
	t.Helper()
	var q *Queue[T]
	var none T
	for _, v := range append(things, none) {
		is(t, q.Push(v), api.ErrNil)
		is(t, q.Drop(v), api.ErrNil)
		popped(t, q, none, api.ErrNil)
		holds(t, q)
	}
}

func TestNilQueue(t *testing.T) {
	nilQueue(t, 1, -1, math.MinInt, math.MaxInt)
	nilQueue(t, "", "a")
	nilQueue(t, pair{a: 1, b: "c"})
	nilQueue(t, math.NaN(), math.Inf(1))
	nilQueue(t, new(int))
	nilQueue[any](t, 1, "a", []int{1})
	nilQueue[struct{}](t)
}

// What nobody got from New is a queue all the same, and an empty one.
func TestQueueOfNothing(t *testing.T) {
	q := &Queue[string]{}
	popped(t, q, "", api.ErrEmpty)
	is(t, q.Drop(""), api.ErrEmpty)
	holds(t, q)
	pushes(t, q, "a", "b")
	holds(t, q, "a", "b")
	pops(t, q, "a", "b")
}

func TestPushUpToSixtyFour(t *testing.T) {
	for by := range 130 {
		q := gone(t, by)
		pushes(t, q, upTo(1, 63)...)
		holds(t, q, upTo(1, 63)...)
		is(t, q.Push(64), api.OK)
		holds(t, q, upTo(1, 64)...)
		for _, v := range []int{65, 1, 64, 0} {
			is(t, q.Push(v), api.ErrLong)
			holds(t, q, upTo(1, 64)...)
		}
		pops(t, q, upTo(1, 64)...)
		popped(t, q, 0, api.ErrEmpty)
		holds(t, q)
	}
}

func TestFullQueueIsPoppedAndPushedTo(t *testing.T) {
	q := New[int]()
	pushes(t, q, upTo(1, 64)...)
	for n := 65; n < 300; n++ {
		is(t, q.Push(n), api.ErrLong)
		pops(t, q, n-64)
		holds(t, q, upTo(n-63, n-1)...)
		is(t, q.Push(n), api.OK)
		holds(t, q, upTo(n-63, n)...)
	}
}

func TestFullQueueIsDroppedFromAndPushedTo(t *testing.T) {
	for by := range 64 {
		for v := 1; v <= 64; v++ {
			q := gone(t, by)
			pushes(t, q, upTo(1, 64)...)
			is(t, q.Drop(v), api.OK)
			left := append(upTo(1, v-1), upTo(v+1, 64)...)
			holds(t, q, left...)
			is(t, q.Push(65), api.OK)
			holds(t, q, append(left, 65)...)
			is(t, q.Push(66), api.ErrLong)
			pops(t, q, append(left, 65)...)
		}
	}
}

func TestPopTakesTheFirstOut(t *testing.T) {
	q := New[string]()
	pushes(t, q, "a", "b", "a", "c")
	pops(t, q, "a")
	holds(t, q, "b", "a", "c")
	pops(t, q, "b", "a")
	holds(t, q, "c")
	pops(t, q, "c")
	for range 3 {
		popped(t, q, "", api.ErrEmpty)
		holds(t, q)
	}
}

// The zero value tells nothing of whether there was a thing: it may be one.
func TestZeroValuesAreThings(t *testing.T) {
	zeroOf(t, 0, 7)
	zeroOf(t, "", "a")
	zeroOf(t, pair{}, pair{b: "c"})
	zeroOf(t, 0.0, 0.5)
	zeroOf(t, nil, new(int))
	zeroOf[any](t, nil, 0)
	zeroOf(t, [3]byte{}, [3]byte{2: 1})
}

// zeroOf ends the test unless the zero value of a type is pushed, popped and dropped as another thing is.
func zeroOf[T comparable](t *testing.T, zero, other T) {
	t.Helper()
	q := New[T]()
	is(t, q.Drop(zero), api.ErrEmpty)
	pushes(t, q, zero, other, zero)
	holds(t, q, zero, other, zero)
	is(t, q.Drop(zero), api.OK)
	holds(t, q, other, zero)
	is(t, q.Drop(zero), api.OK)
	is(t, q.Drop(zero), api.ErrEmpty)
	holds(t, q, other)
	pushes(t, q, zero)
	pops(t, q, other, zero)
	popped(t, q, zero, api.ErrEmpty)
	is(t, q.Drop(zero), api.ErrEmpty) // places that hold none have it, and are no things
	is(t, q.Drop(other), api.ErrEmpty)
	holds(t, q)
}

func TestThingsWithoutSize(t *testing.T) {
	q := New[struct{}]()
	for n := range 64 {
		pushes(t, q, struct{}{})
		if q.Len() != n+1 || len(q.All()) != n+1 {
			t.Fatal(n, q.Len())
		}
	}
	is(t, q.Push(struct{}{}), api.ErrLong)
	is(t, q.Drop(struct{}{}), api.OK)
	for range 63 {
		popped(t, q, struct{}{}, api.OK)
	}
	popped(t, q, struct{}{}, api.ErrEmpty)
}

func TestDropTakesTheFirstThatIsEqual(t *testing.T) {
	for by := range 70 {
		q := gone(t, by)
		pushes(t, q, 3, 5, 3, 4, 5, 3)
		is(t, q.Drop(3), api.OK)
		holds(t, q, 5, 3, 4, 5, 3)
		is(t, q.Drop(5), api.OK)
		holds(t, q, 3, 4, 5, 3)
		is(t, q.Drop(5), api.OK)
		holds(t, q, 3, 4, 3)
		is(t, q.Drop(5), api.ErrEmpty)
		pushes(t, q, 5)
		is(t, q.Drop(3), api.OK)
		holds(t, q, 4, 3, 5)
		pops(t, q, 4, 3, 5)
	}
}

func TestDropOfManyAlike(t *testing.T) {
	for by := range 64 {
		q := gone(t, by)
		pushes(t, q, slices.Repeat([]int{9}, 64)...)
		for n := 63; n >= 0; n-- {
			is(t, q.Drop(9), api.OK)
			holds(t, q, slices.Repeat([]int{9}, n)...)
		}
		is(t, q.Drop(9), api.ErrEmpty)
	}
}

// Of queues of each length, wherever they begin: the first, a middle and the last thing, and all others.
func TestDropAtEachPlace(t *testing.T) {
	for by := range 64 {
		for length := 1; length <= 64; length += 7 {
			for v := 1; v <= length; v++ {
				q := gone(t, by)
				pushes(t, q, upTo(1, length)...)
				is(t, q.Drop(v), api.OK)
				left := append(upTo(1, v-1), upTo(v+1, length)...)
				holds(t, q, left...)
				pushes(t, q, v)
				holds(t, q, append(left, v)...)
			}
		}
	}
}

func TestDropOfWhatIsNotThere(t *testing.T) {
	for by := range 64 {
		q := gone(t, by) // what was there once is not
		for n := range by {
			is(t, q.Drop(-n), api.ErrEmpty)
		}
		pushes(t, q, upTo(1, 64)...)
		for _, v := range []int{0, -1, 65, math.MinInt, math.MaxInt, 1 << 32, 1<<32 + 1} {
			is(t, q.Drop(v), api.ErrEmpty)
			holds(t, q, upTo(1, 64)...)
		}
		pops(t, q, 1)
		is(t, q.Drop(2), api.OK)
		is(t, q.Drop(1), api.ErrEmpty)
		is(t, q.Drop(2), api.ErrEmpty)
		holds(t, q, upTo(3, 64)...)
	}
}

func TestEmptiedAndUsedAgain(t *testing.T) {
	q := New[int]()
	for round := range 40 {
		things := upTo(round, round+(round*7)%64)
		pushes(t, q, things...)
		pops(t, q, things...)
		holds(t, q)
		popped(t, q, 0, api.ErrEmpty)
		is(t, q.Drop(things[0]), api.ErrEmpty)
		pushes(t, q, things...)
		for k := range things {
			v := things[k]
			if round%2 == 0 {
				v = things[len(things)-1-k] // from behind, too
			}
			is(t, q.Drop(v), api.OK)
		}
		holds(t, q)
		is(t, q.Drop(things[0]), api.ErrEmpty)
		popped(t, q, 0, api.ErrEmpty)
	}
	pushes(t, q, upTo(1, 64)...)
	is(t, q.Push(65), api.ErrLong)
	holds(t, q, upTo(1, 64)...)
}

// Structs are equal if all of their fields are, texts if all of their bytes are, pointers if they point to one thing.
func TestWhatIsEqual(t *testing.T) {
	p := New[pair]()
	pushes(t, p, pair{a: 1, b: "x"}, pair{a: 2, b: "x"}, pair{a: 1, b: "y"})
	is(t, p.Drop(pair{a: 2, b: "y"}), api.ErrEmpty)
	is(t, p.Drop(pair{a: 1, b: "y"}), api.OK)
	holds(t, p, pair{a: 1, b: "x"}, pair{a: 2, b: "x"})

	s := New[string]()
	pushes(t, s, "a\x00", "a", "A", "\xff", "é")
	is(t, s.Drop("a\x00\x00"), api.ErrEmpty)
	is(t, s.Drop("a"), api.OK)
	is(t, s.Drop("\xff"), api.OK)
	is(t, s.Drop("e\u0301"), api.ErrEmpty) // it looks the same
	holds(t, s, "a\x00", "A", "é")

	x, y := 1, 1
	a := New[*int]()
	pushes(t, a, &x)
	is(t, a.Drop(&y), api.ErrEmpty)
	is(t, a.Drop(&x), api.OK)
	holds(t, a)
}

// What is not a number is not equal to itself; nought is to nought, whatever its sign.
func TestFloats(t *testing.T) {
	q := New[float64]()
	pushes(t, q, math.NaN(), math.Copysign(0, -1), 1)
	is(t, q.Drop(math.NaN()), api.ErrEmpty)
	if q.Len() != 3 {
		t.Error(q.Len())
	}
	is(t, q.Drop(0), api.OK)
	if v, e := q.Pop(); v == v || e != api.OK {
		t.Error(v, e)
	}
	holds(t, q, 1)
}

// An interface may hold what can't be compared: it is there, comes out in its order, and is equal to nothing.
func TestInterfacesOfAnything(t *testing.T) {
	q := New[any]()
	list := []int{1}
	pushes[any](t, q, list, 1, map[string]int{}, "1", func() {}, int8(1), [1]any{list}, pair{a: 1})
	for _, v := range []any{list, []int{1}, map[string]int{}, func() {}, [1]any{list}, struct{ l []int }{}, []string{}, nil, uint(1), 2} {
		is(t, q.Drop(v), api.ErrEmpty)
	}
	if q.Len() != 8 || len(q.All()) != 8 {
		t.Error(q.Len())
	}
	is(t, q.Drop(int8(1)), api.OK)
	is(t, q.Drop(pair{a: 1}), api.OK)
	is(t, q.Drop("1"), api.OK)
	if v, e := q.Pop(); len(v.([]int)) != 1 || e != api.OK {
		t.Error(v, e)
	}
	popped[any](t, q, 1, api.OK)
	if q.Len() != 3 {
		t.Error(q.Len())
	}
}

// One that can't be compared does not hide one behind it that is equal.
func TestDropBehindWhatCannotBeCompared(t *testing.T) {
	type holder struct {
		what any
		n    int
	}
	q := New[holder]()
	pushes(t, q, holder{what: []int{1}, n: 1}, holder{what: "x", n: 2}, holder{what: []int{1}, n: 3})
	is(t, q.Drop(holder{what: []int{1}, n: 1}), api.ErrEmpty)
	is(t, q.Drop(holder{what: "x", n: 2}), api.OK)
	for _, n := range []int{1, 3} {
		if v, e := q.Pop(); v.n != n || e != api.OK {
			t.Error(v, e)
		}
	}
	holds(t, q)
}

// What All answers may be written into, and added to: it is new memory, spare room too.
func TestAllIsAListOfItsOwn(t *testing.T) {
	for by := range 64 {
		q := gone(t, by)
		pushes(t, q, upTo(1, 9)...)
		first, second := q.All(), q.All()
		room := append(first, -7)[:cap(first)]
		for k := range room {
			room[k] = -7
		}
		for k := range first {
			first[k] = -7
		}
		if !slices.Equal(second, upTo(1, 9)) {
			t.Fatal(second)
		}
		holds(t, q, upTo(1, 9)...)
		pops(t, q, 1)
		is(t, q.Drop(5), api.OK)
		pushes(t, q, upTo(10, 64)...)
		if !slices.Equal(second, upTo(1, 9)) {
			t.Fatal(second)
		}
		holds(t, q, append([]int{2, 3, 4}, upTo(6, 64)...)...)
	}
}

// Asking for what is there changes nothing.
func TestAllAndLenChangeNothing(t *testing.T) {
	q := gone(t, 60)
	pushes(t, q, upTo(1, 12)...)
	for range 200 {
		holds(t, q, upTo(1, 12)...)
	}
	pops(t, q, upTo(1, 12)...)
}

// dead tells whether nobody has what was pointed to.
func dead(w weak.Pointer[[64]int]) bool {
	runtime.GC()
	return w.Value() == nil
}

// What came out is not kept, be it by popping or by dropping, wherever it stood.
func TestNothingIsKeptThatCameOut(t *testing.T) {
	q := New[*[64]int]()
	var seen []weak.Pointer[[64]int]
	for range 10 {
		p := new([64]int)
		seen = append(seen, weak.Make(p))
		pushes(t, q, p)
	}
	out := func(w weak.Pointer[[64]int]) {
		t.Helper()
		is(t, q.Drop(w.Value()), api.OK)
		if !dead(w) {
			t.Error("it is kept")
		}
	}
	out(seen[9])
	out(seen[5])
	out(seen[0])
	q.Pop()
	if !dead(seen[1]) || dead(seen[2]) || q.Len() != 6 {
		t.Error("it is kept, or another one is not")
	}
	runtime.KeepAlive(q)
}

// P7.2

func TestExample(t *testing.T) {
	q := New[int]()
	pushes(t, q, 3, 5, 3)
	is(t, q.Drop(3), api.OK)
	pops(t, q, 5, 3)
	popped(t, q, 0, api.ErrEmpty)
}

// What comes out comes in order, however many are in it, many times round.
func TestInOrderManyTimesRound(t *testing.T) {
	for length := range 64 {
		q := New[string]()
		in, out := 0, 0
		for range length {
			pushes(t, q, strconv.Itoa(in))
			in++
		}
		for range 300 {
			pushes(t, q, strconv.Itoa(in))
			in++
			pops(t, q, strconv.Itoa(out))
			out++
		}
		if q.Len() != length {
			t.Fatal(length, q.Len())
		}
	}
}

// Dropping leaves the others in their order, many times round.
func TestInOrderButForWhatWasDropped(t *testing.T) {
	q := New[int]()
	for n := range 1000 {
		pushes(t, q, 3*n, 3*n+1, 3*n+2)
		is(t, q.Drop(3*n+1), api.OK)
		if n >= 20 {
			pops(t, q, 3*(n-20), 3*(n-20)+2)
		}
	}
	var left []int
	for n := 980; n < 1000; n++ {
		left = append(left, 3*n, 3*n+2)
	}
	holds(t, q, left...)
}

func TestQueuesAreApart(t *testing.T) {
	a, b := New[int](), New[int]()
	s, p, f := New[string](), New[pair](), New[any]()
	pushes(t, a, upTo(1, 64)...)
	holds(t, b)
	pushes(t, b, 1, 2)
	pushes(t, s, "1", "2")
	pushes(t, p, pair{a: 1}, pair{a: 2})
	pushes[any](t, f, 1, "1", pair{a: 1})
	is(t, a.Push(65), api.ErrLong)
	is(t, b.Drop(1), api.OK)
	pops(t, s, "1")
	is(t, p.Drop(pair{a: 2}), api.OK)
	is(t, f.Drop("1"), api.OK)
	holds(t, a, upTo(1, 64)...)
	holds(t, b, 2)
	holds(t, s, "2")
	holds(t, p, pair{a: 1})
	holds[any](t, f, 1, pair{a: 1})
	pops(t, b, 2)
	popped(t, b, 0, api.ErrEmpty)
	pops(t, s, "2")
	popped(t, s, "", api.ErrEmpty)
	holds(t, a, upTo(1, 64)...)
}
