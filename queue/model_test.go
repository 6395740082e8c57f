package queue

import (
	"math/rand"
	"slices"
	"strconv"
	"testing"

	"taffrail/api"
)

// model is what a queue holds, in a list that is made anew each time.
type model[T comparable] struct {
	list []T
}

func (w *model[T]) push(v T) api.Errno {
	if len(w.list) == 64 {
		return api.ErrLong
	}
	w.list = append(slices.Clone(w.list), v)
	return api.OK
}

func (w *model[T]) pop() (T, api.Errno) {
	var v T
	if len(w.list) == 0 {
		return v, api.ErrEmpty
	}
	v, w.list = w.list[0], slices.Clone(w.list[1:])
	return v, api.OK
}

func (w *model[T]) drop(v T) api.Errno {
	for k := range w.list {
		if w.list[k] == v {
			w.list = slices.Concat(w.list[:k], w.list[k+1:])
			return api.OK
		}
	}
	return api.ErrEmpty
}

// answer is what a call tells, of either side.
type answer[T comparable] struct {
	v T
	e api.Errno
}

// step does one thing to both, and fails the test unless they tell the same. The more of ten are pushes, the longer the queue becomes.
func (w *model[T]) step(t *testing.T, q *Queue[T], r *rand.Rand, v T, pushed int) {
	t.Helper()
	var got, want answer[T]
	kind := r.Intn(10)
	switch {
	case kind < pushed:
		got.e, want.e = q.Push(v), w.push(v)
	case kind%2 == 0:
		got.v, got.e = q.Pop()
		want.v, want.e = w.pop()
	default:
		got.e, want.e = q.Drop(v), w.drop(v)
	}
	if got != want {
		t.Errorf("kind %d with %v: %v, not %v", kind, v, got, want)
	}
}

// against runs queues beside models, with things of so many kinds, and counts what was full and what was empty.
func against[T comparable](t *testing.T, kinds int, made func(int) T) (int, int) {
	t.Helper()
	full, empty := 0, 0
	for seed := range int64(60) {
		r := rand.New(rand.NewSource(seed))
		q, w := New[T](), &model[T]{}
		for n := range 1500 {
			pushed := []int{3, 8, 5, 9}[n/100%4]
			w.step(t, q, r, made(r.Intn(kinds)), pushed)
			if l := q.All(); t.Failed() || !slices.Equal(l, w.list) || q.Len() != len(l) {
				t.Fatalf("seed %d, step %d: it holds\n%v (%d), not\n%v", seed, n, l, q.Len(), w.list)
			}
			switch q.Len() {
			case 64:
				full++
			case 0:
				empty++
			}
		}
	}
	return full, empty
}

// enough fails the test if the runs came to few full queues, or few empty ones: they would tell little.
func enough(t *testing.T, full, empty int) {
	t.Helper()
	if full < 1000 || empty < 1000 {
		t.Errorf("full: %d, empty: %d", full, empty)
	}
}

func TestAgainstTheModel(t *testing.T) {
	full, empty := against(t, 200, func(n int) int { return n - 100 })
	enough(t, full, empty)
	full, empty = against(t, 5, strconv.Itoa)
	enough(t, full, empty)
	full, empty = against(t, 90, func(n int) pair { return pair{a: n % 9, b: strconv.Itoa(n % 10)} })
	enough(t, full, empty)
}
