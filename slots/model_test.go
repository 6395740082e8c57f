package slots

import (
	"math/rand"
	"slices"
	"strconv"
	"testing"

	"taffrail/api"
)

// model has things by their numbers, and for each slot the number that is given next.
type model struct {
	things map[int]string
	next   [8]int
}

func newModel() *model {
	w := &model{things: map[int]string{}}
	for place := range w.next {
		w.next[place] = place
	}
	return w
}

func (w *model) ids() []int {
	var l []int
	for place := range 8 {
		for id := range w.things {
			if id%8 == place {
				l = append(l, id)
			}
		}
	}
	return l
}

func (w *model) add(v string) (int, api.Errno) {
	for _, id := range w.next {
		if _, held := w.things[id]; !held {
			w.things[id] = v
			return id, api.OK
		}
	}
	return 0, api.ErrFull
}

func (w *model) get(id int) (string, api.Errno) {
	if v, held := w.things[id]; held {
		return v, api.OK
	}
	return "", api.ErrId
}

func (w *model) set(id int, v string) api.Errno {
	_, e := w.get(id)
	if e == api.OK {
		w.things[id] = v
	}
	return e
}

func (w *model) remove(id int) (string, api.Errno) {
	v, e := w.get(id)
	if e == api.OK {
		delete(w.things, id)
		w.next[id%8] = (id + 8) % 32768
	}
	return v, e
}

// begin fills both, and removes and adds so many times in each slot, so that the last sequences are near.
func (w *model) begin(t *testing.T, s *Slots[string], times int) {
	t.Helper()
	for place := range 8 {
		adds(t, s, "begun", place)
		w.add("begun")
	}
	for n := range 8 * times {
		id := w.next[n%8]
		removes(t, s, id, "begun")
		w.remove(id)
		adds(t, s, "begun", w.next[n%8])
		w.add("begun")
	}
}

// answer is what a call tells, of either side.
type answer struct {
	id int
	v  string
	e  api.Errno
}

// counts is how often the runs came to what is seldom.
type counts struct {
	full, empty, wrong, again int
}

// number is one that may be asked for: of a thing, mostly, or of one that was, or will be, or of none.
func (w *model) number(r *rand.Rand) int {
	l := w.ids()
	switch k := r.Intn(10); {
	case k < 7 && len(l) > 0:
		return l[r.Intn(len(l))]
	case k < 8:
		return w.next[r.Intn(8)]
	case k < 9:
		return w.next[r.Intn(8)] - 8 + 16*r.Intn(2)
	}
	return r.Intn(40000) - 1000
}

// step does one thing to both, and fails the test unless they tell the same.
func (w *model) step(t *testing.T, s *Slots[string], r *rand.Rand, added int, c *counts) {
	t.Helper()
	var got, want answer
	id, v := w.number(r), strconv.Itoa(r.Intn(100))
	kind := r.Intn(10)
	switch {
	case kind < added:
		got.id, got.e = s.Add(v)
		want.id, want.e = w.add(v)
	case kind == 8:
		got.v, got.e = s.Get(id)
		want.v, want.e = w.get(id)
	case kind == 9:
		got.e, want.e = s.Set(id, v), w.set(id, v)
	default:
		got.v, got.e = s.Remove(id)
		want.v, want.e = w.remove(id)
		if want.e == api.OK && id >= 8*4095 {
			c.again++
		}
	}
	if got != want {
		t.Errorf("kind %d with %d, %q: %v, not %v", kind, id, v, got, want)
	}
	switch {
	case want.e == api.ErrFull:
		c.full++
	case want.e == api.ErrId:
		c.wrong++
	case len(w.things) == 0:
		c.empty++
	}
}

// same fails the test unless a Slots holds what the model does.
func (w *model) same(t *testing.T, s *Slots[string]) {
	t.Helper()
	l := s.Ids()
	if !slices.Equal(l, w.ids()) {
		t.Fatalf("the numbers\n%v, not\n%v", l, w.ids())
	}
	for _, id := range l {
		has(t, s, id, w.things[id])
	}
}

func TestAgainstTheModel(t *testing.T) {
	c := &counts{}
	for seed := range int64(8) {
		r := rand.New(rand.NewSource(seed))
		s, w := New[string](), newModel()
		w.begin(t, s, 3900)
		for n := range 40000 {
			w.step(t, s, r, []int{4, 2, 7, 4}[n/50%4], c)
			w.same(t, s)
			if t.Failed() {
				t.Fatalf("seed %d, step %d", seed, n)
			}
		}
	}
	if c.full < 1000 || c.empty < 1000 || c.wrong < 1000 || c.again < 5 {
		t.Errorf("the runs tell little: %+v", *c)
	}
}

// told is all that a run tells.
func told(t *testing.T, seed int64) []answer {
	r := rand.New(rand.NewSource(seed))
	s := New[string]()
	var l []answer
	for range 2000 {
		var a answer
		switch r.Intn(4) {
		case 0, 1:
			a.id, a.e = s.Add(strconv.Itoa(r.Intn(100)))
		case 2:
			a.v, a.e = s.Remove(r.Intn(100))
		case 3:
			a.v, a.e = s.Get(r.Intn(100))
		}
		l = append(l, a)
		for _, id := range s.Ids() {
			l = append(l, answer{id: id})
		}
	}
	return l
}

// The same calls are told the same.
func TestTheSameAgain(t *testing.T) {
	for seed := range int64(5) {
		if !slices.Equal(told(t, seed), told(t, seed)) {
			t.Errorf("seed %d", seed)
		}
	}
}
