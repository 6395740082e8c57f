package ring

import (
	"math/rand"
	"testing"

	"taffrail/api"
)

// model is what a ring holds, as a text that is made anew each time.
type model struct {
	size int
	held string
}

func (w *model) put(s string) (int, api.Errno) {
	n := min(len(s), w.size-len(w.held))
	w.held += s[:n]
	return n, api.OK
}

func (w *model) get(n int) (string, api.Errno) {
	if n < 0 {
		return "", api.ErrArg
	}
	n = min(n, len(w.held))
	s := w.held[:n]
	w.held = w.held[n:]
	return s, api.OK
}

// answer is what a call tells, of either side.
type answer struct {
	n int
	s string
	e api.Errno
}

// anyBytes is a text of up to most bytes of any value.
func anyBytes(r *rand.Rand, most int) string {
	b := make([]byte, r.Intn(most+1))
	r.Read(b)
	return string(b)
}

// step does one thing to both, and fails the test unless they tell the same. The more of ten are puts, the fuller the ring becomes.
func (w *model) step(t *testing.T, q *Ring, r *rand.Rand, puts int) {
	t.Helper()
	var got, want answer
	if r.Intn(10) < puts {
		s := anyBytes(r, 1+w.size*3/2)
		got.n, got.e = q.Put(s)
		want.n, want.e = w.put(s)
	} else {
		n := r.Intn(w.size*3/2+3) - 1
		got.s, got.e = q.Get(n)
		want.s, want.e = w.get(n)
	}
	if got != want {
		t.Errorf("%#v, not %#v", got, want)
	}
}

func TestAgainstTheModel(t *testing.T) {
	full, empty := 0, 0
	for seed := range int64(192) {
		r := rand.New(rand.NewSource(seed))
		w := &model{size: 1 + int(seed)%64}
		q := made(t, w.size)
		for n := range 1200 {
			w.step(t, q, r, []int{5, 3, 7, 5}[n/100%4])
			if t.Failed() {
				t.Fatalf("size %d, seed %d, step %d", w.size, seed, n)
			}
			holds(t, q, w.size, w.held)
			switch len(w.held) {
			case w.size:
				full++
			case 0:
				empty++
			}
		}
	}
	if full < 10000 || empty < 10000 {
		t.Errorf("full: %d, empty: %d: the runs tell little", full, empty)
	}
}
