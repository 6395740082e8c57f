package slots

import (
	"math"
	"reflect"
	"runtime"
	"slices"
	"strconv"
	"strings"
	"testing"
	"weak"

	"taffrail/api"
)

// turns is how many things a slot holds, one after the other, until a number is given again.
const turns = 4096

// neverNumbers are of no thing at any time; the low bits of some would be.
var neverNumbers = []int{math.MinInt, math.MinInt + 1, math.MinInt + 7, math.MinInt + 8, math.MinInt32, -1 << 32, -1<<32 + 1, -1<<32 + 8, -1 << 16, -32769, -32768, -32767, -32761, -4096, -4095, -16, -9, -8, -7, -2, -1, 32768, 32769, 32775, 32776, 65535, 65536, 65537, 1 << 31, 1<<31 + 1, 1 << 32, 1<<32 + 1, 1<<32 + 7, 1<<32 + 8, math.MaxInt32, math.MaxInt - 7, math.MaxInt - 1, math.MaxInt}

// pair is a struct that is a thing.
type pair struct {
	a int
	b string
}

// is ends the test unless an error is the one that is asked. It and those below end it at the first fault, as tests that go through all numbers would tell of each.
func is(t *testing.T, e, want api.Errno) {
	t.Helper()
	if e != want {
		t.Fatalf("error %d, not %d", e, want)
	}
}

// ids ends the test unless these are all numbers, in order.
func ids[T any](t *testing.T, s *Slots[T], want ...int) {
	t.Helper()
	if l := s.Ids(); !slices.Equal(l, want) {
		t.Fatalf("the numbers\n%v, not\n%v", l, want)
	}
}

// adds ends the test unless adding a thing gives it that number.
func adds[T any](t *testing.T, s *Slots[T], v T, want int) {
	t.Helper()
	if id, e := s.Add(v); id != want || e != api.OK {
		t.Fatalf("Add(%v): %d, %d, not %d", v, id, e, want)
	}
}

// full ends the test unless a thing can't be added, which changes nothing.
func full[T comparable](t *testing.T, s *Slots[T], v T) {
	t.Helper()
	before := *s
	if id, e := s.Add(v); id != 0 || e != api.ErrFull {
		t.Fatalf("Add(%v): %d, %d", v, id, e)
	}
	if *s != before {
		t.Fatalf("adding changed it:\n%v, not\n%v", *s, before)
	}
}

// has ends the test unless a thing is under a number.
func has[T comparable](t *testing.T, s *Slots[T], id int, want T) {
	t.Helper()
	if v, e := s.Get(id); v != want || e != api.OK {
		t.Fatalf("Get(%d): %v, %d, not %v", id, v, e, want)
	}
}

// sets ends the test unless another thing can be put under a number.
func sets[T any](t *testing.T, s *Slots[T], id int, v T) {
	t.Helper()
	if e := s.Set(id, v); e != api.OK {
		t.Fatalf("Set(%d, %v): %d", id, v, e)
	}
}

// removes ends the test unless the thing of a number is that one, and can be removed.
func removes[T comparable](t *testing.T, s *Slots[T], id int, want T) {
	t.Helper()
	if v, e := s.Remove(id); v != want || e != api.OK {
		t.Fatalf("Remove(%d): %v, %d, not %v", id, v, e, want)
	}
}

// refused ends the test unless a call answered no thing, and that error.
func refused[T comparable](t *testing.T, v T, e, want api.Errno) {
	t.Helper()
	var none T
	if v != none || e != want {
		t.Fatalf("%v, %d, not %v, %d", v, e, none, want)
	}
}

// nothing ends the test unless numbers are of no things, and asking for them changes nothing.
func nothing[T comparable](t *testing.T, s *Slots[T], other T, numbers ...int) {
	t.Helper()
	before := *s
	for _, id := range numbers {
		v, e := s.Get(id)
		refused(t, v, e, api.ErrId)
		is(t, s.Set(id, other), api.ErrId)
		v, e = s.Remove(id)
		refused(t, v, e, api.ErrId)
	}
	if *s != before {
		t.Fatalf("it was changed:\n%v, not\n%v", *s, before)
	}
}

// made is eight free slots, from each of which was removed so many times, at least once: a slot is not reached before those ahead of it hold a thing.
func made(t *testing.T, removed ...int) *Slots[string] {
	t.Helper()
	s := New[string]()
	for place := range 8 {
		adds(t, s, "gone", place)
	}
	for place, times := range removed {
		for n := 1; n < times; n++ {
			removes(t, s, 8*(n-1)+place, "gone")
			adds(t, s, "gone", 8*(n%turns)+place)
		}
	}
	for place, times := range removed {
		removes(t, s, 8*(times-1)+place, "gone")
	}
	return s
}

// letters are the things of eight slots.
var letters = []string{"a", "b", "c", "d", "e", "f", "g", "h"}

// eight holds eight letters under the numbers 0 to 7.
func eight(t *testing.T) *Slots[string] {
	t.Helper()
	s := New[string]()
	for place, v := range letters {
		adds(t, s, v, place)
	}
	return s
}

// P11.1

func TestNewSlots(t *testing.T) {
	s := New[int]()
	if s == nil {
		t.Fatal("nil")
	}
	ids(t, s)
	for id := -100; id < 33000; id++ {
		nothing(t, s, 5, id)
	}
	nothing(t, s, 5, neverNumbers...)
	ids(t, s)
	for place := range 8 {
		adds(t, s, place, place)
	}
	full(t, s, 8)
}

func TestNewSlotsShareNothing(t *testing.T) {
	a, b := New[int](), New[int]()
	adds(t, a, 1, 0)
	ids(t, b)
	nothing(t, b, 3, 0)
	adds(t, b, 2, 0)
	removes(t, a, 0, 1)
	has(t, b, 0, 2)
	adds(t, a, 3, 8)
	adds(t, b, 4, 1)
	ids(t, a, 8)
	ids(t, b, 0, 1)
}

// nilSlots ends the test unless nil Slots answer ErrNil, and no thing, whatever they are asked.
func nilSlots[T comparable](t *testing.T, things ...T) {
	t.Helper()
	var s *Slots[T]
	var none T
	for _, v := range append(things, none) {
		id, e := s.Add(v)
		refused(t, id, e, api.ErrNil)
		for _, id := range append([]int{0, 1, 7, 8, 32767}, neverNumbers...) {
			got, e := s.Get(id)
			refused(t, got, e, api.ErrNil)
			is(t, s.Set(id, v), api.ErrNil)
			got, e = s.Remove(id)
			refused(t, got, e, api.ErrNil)
		}
		ids(t, s)
	}
}

func TestNilSlots(t *testing.T) {
	nilSlots(t, 1, -1, math.MinInt, math.MaxInt)
	nilSlots(t, "a", "")
	nilSlots(t, pair{a: 1, b: "c"})
	nilSlots(t, new(int))
	nilSlots[any](t, 1, "a")
	nilSlots[struct{}](t)
}

// What nobody got from New are slots all the same, all of them free.
func TestSlotsOfNothing(t *testing.T) {
	s := &Slots[string]{}
	ids(t, s)
	nothing(t, s, "x", 0, 1, 7, 8, -1)
	adds(t, s, "a", 0)
	adds(t, s, "b", 1)
	removes(t, s, 0, "a")
	ids(t, s, 1)
	adds(t, s, "c", 8)
	has(t, s, 8, "c")
}

func TestEightAndOneMore(t *testing.T) {
	s := New[string]()
	var given []int
	for place, v := range letters {
		ids(t, s, given...)
		adds(t, s, v, place)
		given = append(given, place)
	}
	ids(t, s, 0, 1, 2, 3, 4, 5, 6, 7)
	for _, v := range []string{"", "a", "h", "i"} {
		full(t, s, v)
	}
	for place, v := range letters {
		has(t, s, place, v)
	}
	removes(t, s, 7, "h")
	adds(t, s, "i", 15)
	full(t, s, "j")
	ids(t, s, 0, 1, 2, 3, 4, 5, 6, 15)
}

// Whatever was removed of eight, in whatever order, the first free slot is the next one's.
func TestFirstFreeSlot(t *testing.T) {
	for set := range 256 {
		for _, backward := range []bool{false, true} {
			s := eight(t)
			var free []int
			for place := range 8 {
				if set>>place&1 == 1 {
					free = append(free, place)
				}
			}
			order := slices.Clone(free)
			if backward {
				slices.Reverse(order)
			}
			for _, place := range order {
				removes(t, s, place, letters[place])
				nothing(t, s, "x", place, place+8)
			}
			for n, place := range free {
				adds(t, s, strconv.Itoa(n), place+8)
			}
			full(t, s, "x")
			var want []int
			for place, v := range letters {
				if n := slices.Index(free, place); n >= 0 {
					has(t, s, place+8, strconv.Itoa(n))
					nothing(t, s, "x", place)
					want = append(want, place+8)
				} else {
					has(t, s, place, v)
					nothing(t, s, "x", place+8)
					want = append(want, place)
				}
			}
			ids(t, s, want...)
		}
	}
}

// All numbers, whichever of eight slots hold a thing.
func TestIdsOfEachSet(t *testing.T) {
	for set := range 256 {
		s := made(t, 1, 6, 2, 1, 1, 4, 1, 3)
		numbers := []int{8, 49, 18, 11, 12, 37, 14, 31}
		var want []int
		for place, id := range numbers {
			adds(t, s, letters[place], id)
		}
		for place, id := range numbers {
			if set>>place&1 == 1 {
				want = append(want, id)
			} else {
				removes(t, s, id, letters[place])
			}
		}
		ids(t, s, want...)
		for place, id := range numbers {
			if slices.Contains(want, id) {
				has(t, s, id, letters[place])
			} else {
				nothing(t, s, "x", id)
			}
		}
	}
}

// Each slot's number at each sequence, and no other number, is of what it holds.
func TestNumbersOfEachSequence(t *testing.T) {
	for place := range 8 {
		for _, n := range []int{1, 2, 3, 7, 8, 255, 256, 2047, 2048, 4094, 4095, 4096} {
			removed := []int{1, 1, 1, 1, 1, 1, 1, 1}
			removed[place] = n
			s := made(t, removed...)
			for k := range place {
				adds(t, s, letters[k], 8+k)
			}
			id := 8*(n%turns) + place
			adds(t, s, "it", id)
			has(t, s, id, "it")
			for other := -10; other < 33000; other++ {
				held := other == id || other >= 8 && other < 8+place
				if !held {
					nothing(t, s, "x", other)
				}
			}
			nothing(t, s, "x", neverNumbers...)
			sets(t, s, id, "other")
			removes(t, s, id, "other")
		}
	}
}

// A number is not cut: what differs from it by sequences that there are not, or by high bits, is of nothing.
func TestWrongNumbers(t *testing.T) {
	s := made(t, 5, 1, 1, 3, 1, 1, 1, 1)
	numbers := []int{40, 9, 10, 27}
	for place, id := range numbers {
		adds(t, s, letters[place], id)
	}
	for _, id := range numbers {
		for _, by := range []int{1 << 15, 1 << 16, 1 << 31, 1 << 32, 1 << 62, math.MinInt} {
			nothing(t, s, "x", id+by, id-by, -id-by, -id+by)
		}
		nothing(t, s, "x", -id, id-8, id+8, id%8, id-16, id+16, ^id)
	}
	nothing(t, s, "x", 12, 13, 14, 15, 4, 5, 6, 7, 20, 44)
	nothing(t, s, "x", neverNumbers...)
	ids(t, s, numbers...)
}

// Setting is of one thing; the number stays, and so does the slot.
func TestSet(t *testing.T) {
	s := eight(t)
	want := slices.Clone(letters)
	for n := range 24 {
		place := n * 3 % 8
		want[place] = strconv.Itoa(n)
		sets(t, s, place, want[place])
		for k, v := range want {
			has(t, s, k, v)
		}
		ids(t, s, 0, 1, 2, 3, 4, 5, 6, 7)
		full(t, s, "x")
	}
	sets(t, s, 3, want[3])
	sets(t, s, 4, "")
	has(t, s, 4, "")
	removes(t, s, 4, "")
	is(t, s.Set(4, "y"), api.ErrId)
	is(t, s.Set(12, "y"), api.ErrId)
	adds(t, s, "z", 12)
	sets(t, s, 12, "y")
	removes(t, s, 12, "y")
}

// Getting takes nothing out, however often.
func TestGetAgain(t *testing.T) {
	s := eight(t)
	before := *s
	for range 3 {
		for place, v := range letters {
			has(t, s, place, v)
		}
	}
	if *s != before {
		t.Error("getting changed it")
	}
}

func TestRemoveAlone(t *testing.T) {
	s := New[int]()
	adds(t, s, 5, 0)
	removes(t, s, 0, 5)
	ids(t, s)
	nothing(t, s, 5, 0, 1, 8)
	adds(t, s, 6, 8)
	ids(t, s, 8)
	removes(t, s, 8, 6)
	ids(t, s)
	nothing(t, s, 5, 0, 8, 16)
}

func TestRemoveFirstLastAndMiddle(t *testing.T) {
	for place, v := range letters {
		s := eight(t)
		removes(t, s, place, v)
		nothing(t, s, "x", place, place+8)
		want := slices.Delete([]int{0, 1, 2, 3, 4, 5, 6, 7}, place, place+1)
		ids(t, s, want...)
		for _, k := range want {
			has(t, s, k, letters[k])
		}
		adds(t, s, "new", place+8)
		full(t, s, "x")
		ids(t, s, slices.Insert(want, place, place+8)...)
	}
}

// things ends the test unless things of a type, the zero one among them, are added, had, set and removed.
func things[T comparable](t *testing.T, some ...T) {
	t.Helper()
	var none T
	some = append(some, none)
	s := New[T]()
	for _, v := range some {
		for _, w := range some {
			at := 8 * int(s.slots[0].sequence)
			adds(t, s, v, at)
			adds(t, s, w, at+1)
			has(t, s, at, v)
			has(t, s, at+1, w)
			ids(t, s, at, at+1)
			sets(t, s, at, w)
			sets(t, s, at+1, v)
			removes(t, s, at, w)
			removes(t, s, at+1, v)
			nothing(t, s, v, at, at+1, at+8)
			ids(t, s)
		}
	}
}

func TestThingsOfManyTypes(t *testing.T) {
	things(t, 1, -1, math.MinInt, math.MaxInt)
	things(t, "a", "a longer one", "\x00", "\xff")
	things(t, pair{a: 1}, pair{b: "c"})
	things(t, new(int), new(int))
	things(t, true)
	things(t, 1.5, math.Inf(-1))
	things(t, [3]int{1, 2, 3})
	things(t, struct{}{})
	things[any](t, 1, "a", pair{a: 4}, api.ErrId)
	things[error](t)
	things(t, New[int](), New[int]())
	things(t, *eight(t))
	things(t, make(chan int))
}

// What can't be compared, or is equal to nothing, is a thing like any other.
func TestThingsThatAreNotCompared(t *testing.T) {
	lists := New[[]int]()
	adds(t, lists, []int{1, 2}, 0)
	adds(t, lists, nil, 1)
	if l, e := lists.Get(0); !slices.Equal(l, []int{1, 2}) || e != api.OK {
		t.Error(l, e)
	}
	if l, e := lists.Remove(1); l != nil || e != api.OK {
		t.Error(l, e)
	}
	if l, e := lists.Remove(1); l != nil || e != api.ErrId {
		t.Error(l, e)
	}
	calls := New[func() int]()
	adds(t, calls, func() int { return 7 }, 0)
	if f, e := calls.Get(0); e != api.OK || f() != 7 {
		t.Error(e)
	}
	if f, e := calls.Get(1); f != nil || e != api.ErrId {
		t.Error(e)
	}
	anything := New[any]()
	adds(t, anything, any([]int{3}), 0)
	adds(t, anything, any(math.NaN()), 1)
	adds(t, anything, nil, 2)
	if v, e := anything.Remove(0); e != api.OK || !slices.Equal(v.([]int), []int{3}) {
		t.Error(v, e)
	}
	if v, e := anything.Get(2); v != nil || e != api.OK {
		t.Error(v, e)
	}
	ids(t, anything, 1, 2)
	numbers := New[float64]()
	adds(t, numbers, math.NaN(), 0)
	if v, e := numbers.Remove(0); !math.IsNaN(v) || e != api.OK {
		t.Error(v, e)
	}
}

// Two things that are equal are two things.
func TestEqualThings(t *testing.T) {
	s := New[string]()
	for place := range 8 {
		adds(t, s, "same", place)
	}
	removes(t, s, 5, "same")
	ids(t, s, 0, 1, 2, 3, 4, 6, 7)
	sets(t, s, 2, "other")
	has(t, s, 1, "same")
	has(t, s, 3, "same")
	adds(t, s, "same", 13)
	ids(t, s, 0, 1, 2, 3, 4, 13, 6, 7)
}

// The zero thing in a slot is no free slot.
func TestZeroThings(t *testing.T) {
	s := New[int]()
	for place := range 8 {
		adds(t, s, 0, place)
		has(t, s, place, 0)
	}
	full(t, s, 0)
	full(t, s, 1)
	ids(t, s, 0, 1, 2, 3, 4, 5, 6, 7)
	removes(t, s, 2, 0)
	nothing(t, s, 0, 2)
	adds(t, s, 0, 10)
	sets(t, s, 10, 9)
	sets(t, s, 10, 0)
	ids(t, s, 0, 1, 10, 3, 4, 5, 6, 7)
}

// What Ids answered is the caller's, room behind it too, and stays as it is.
func TestIdsAreNewMemory(t *testing.T) {
	s := eight(t)
	a, b := s.Ids(), s.Ids()
	for k := range a[:cap(a)] {
		a[:cap(a)][k] = 77
	}
	ids(t, s, 0, 1, 2, 3, 4, 5, 6, 7)
	for place, v := range letters {
		has(t, s, place, v)
	}
	if !slices.Equal(b, []int{0, 1, 2, 3, 4, 5, 6, 7}) {
		t.Error(b)
	}
	removes(t, s, 2, "c")
	removes(t, s, 7, "h")
	c := s.Ids()
	_ = append(c, 5, 5)
	adds(t, s, "i", 10)
	if !slices.Equal(b, []int{0, 1, 2, 3, 4, 5, 6, 7}) || !slices.Equal(c, []int{0, 1, 3, 4, 5, 6}) {
		t.Error(b, c)
	}
	ids(t, s, 0, 1, 10, 3, 4, 5, 6)
}

// What a caller got of a Slots is no part of it.
func TestThingsAreValues(t *testing.T) {
	s := New[[2]int]()
	v := [2]int{1, 2}
	adds(t, s, v, 0)
	v[0] = 9
	has(t, s, 0, [2]int{1, 2})
	w, _ := s.Get(0)
	w[1] = 9
	has(t, s, 0, [2]int{1, 2})
	sets(t, s, 0, w)
	w[0] = 8
	removes(t, s, 0, [2]int{1, 9})
}

// What was removed, or had another one set in its place, is not kept.
func TestNothingIsKeptThatIsGone(t *testing.T) {
	s := New[*[64]int]()
	var seen []weak.Pointer[[64]int]
	for place := range 8 {
		p := new([64]int)
		seen = append(seen, weak.Make(p))
		adds(t, s, p, place)
	}
	for _, id := range []int{0, 4, 7} {
		s.Remove(id)
	}
	is(t, s.Set(2, nil), api.OK)
	runtime.GC()
	for place, w := range seen {
		if gone := w.Value() == nil; gone != slices.Contains([]int{0, 2, 4, 7}, place) {
			t.Errorf("%d: gone %v", place, gone)
		}
	}
	runtime.KeepAlive(s)
}

// A Slots has the calls that the chapter lists, and no others that come up from within.
func TestNoOtherCalls(t *testing.T) {
	of := reflect.TypeFor[*Slots[int]]()
	var l []string
	for k := range of.NumMethod() {
		l = append(l, of.Method(k).Name)
	}
	if s := strings.Join(l, " "); s != "Add Get Ids Remove Set" {
		t.Error(s)
	}
}

func TestExample(t *testing.T) {
	s := New[string]()
	adds(t, s, "a", 0)
	adds(t, s, "b", 1)
	removes(t, s, 0, "a")
	adds(t, s, "c", 8)
	ids(t, s, 8, 1)
}

// P11.2

// Each number of a slot is given once in 4096 turns, in order, and is of nothing in between; then it is given again.
func TestGivenAgainBehindAllTurns(t *testing.T) {
	for place := range 8 {
		s := New[string]()
		for k := range 8 {
			adds(t, s, letters[k], k)
		}
		removes(t, s, place, letters[place])
		given := map[int]int{place: 1}
		for n := 1; n <= 2*turns+1; n++ {
			id := 8*(n%turns) + place
			thing := strconv.Itoa(n)
			adds(t, s, thing, id)
			given[id]++
			has(t, s, id, thing)
			nothing(t, s, "x", 8*((n+turns-1)%turns)+place, 8*((n+1)%turns)+place, 8*((n+turns/2)%turns)+place)
			removes(t, s, id, thing)
			nothing(t, s, "x", id)
			if n == turns-1 && len(given) != turns {
				t.Fatalf("%d numbers were given, not %d", len(given), turns)
			}
		}
		for k, v := range letters {
			if k != place {
				has(t, s, k, v)
			}
		}
		if len(given) != turns || given[place] != 3 || given[place+8] != 3 || given[place+16] != 2 {
			t.Fatalf("%d numbers; the first ones %d, %d, %d times", len(given), given[place], given[place+8], given[place+16])
		}
	}
}

// A number that was removed is of nothing at any time until it is given again.
func TestOfNothingUntilGivenAgain(t *testing.T) {
	s := New[int]()
	adds(t, s, 0, 0)
	adds(t, s, 1, 1)
	adds(t, s, 2, 2)
	removes(t, s, 1, 1)
	for n := 1; n < turns; n++ {
		nothing(t, s, 9, 1)
		adds(t, s, n, 8*n+1)
		nothing(t, s, 9, 1)
		if n < turns-1 {
			nothing(t, s, 9, 32761)
		}
		ids(t, s, 0, 8*n+1, 2)
		sets(t, s, 8*n+1, -n)
		removes(t, s, 8*n+1, -n)
		ids(t, s, 0, 2)
	}
	nothing(t, s, 9, 1, 32761)
	adds(t, s, 77, 1)
	has(t, s, 1, 77)
	ids(t, s, 0, 1, 2)
}

// Behind a sequence of 4095 comes 0, in one slot, while the others go on.
func TestLastSequence(t *testing.T) {
	s := made(t, 4095, 4094, 1, 4095, 2, 3, 4, 4095)
	numbers := []int{32760, 32753, 10, 32763, 20, 29, 38, 32767}
	for place, id := range numbers {
		adds(t, s, letters[place], id)
	}
	ids(t, s, numbers...)
	full(t, s, "x")
	removes(t, s, 32767, "h")
	nothing(t, s, "x", 32767, 7, 32768, 32775)
	adds(t, s, "again", 7)
	nothing(t, s, "x", 32767, 15)
	removes(t, s, 32760, "a")
	removes(t, s, 32753, "b")
	removes(t, s, 32763, "d")
	adds(t, s, "first", 0)
	adds(t, s, "second", 32761)
	adds(t, s, "third", 3)
	ids(t, s, 0, 32761, 10, 3, 20, 29, 38, 7)
	removes(t, s, 32761, "second")
	adds(t, s, "second", 1)
	removes(t, s, 7, "again")
	adds(t, s, "behind", 15)
	ids(t, s, 0, 1, 10, 3, 20, 29, 38, 15)
}

// What is refused, what is asked, what is set and what is added is no turn: removing alone is one.
func TestRemovingAloneIsATurn(t *testing.T) {
	s := New[string]()
	for range 5000 {
		nothing(t, s, "x", 0, 8, 1)
	}
	adds(t, s, "a", 0)
	for n := range 5000 {
		has(t, s, 0, "a")
		sets(t, s, 0, strconv.Itoa(n))
		sets(t, s, 0, "a")
		nothing(t, s, "x", 8, -8, 1)
		ids(t, s, 0)
	}
	for place, v := range letters[1:] {
		adds(t, s, v, place+1)
	}
	for range 5000 {
		full(t, s, "x")
	}
	for place, v := range letters {
		removes(t, s, place, v)
		nothing(t, s, "x", place)
	}
	for place, v := range letters {
		adds(t, s, v, 8+place)
	}
}
