package files

import (
	"math/rand"
	"slices"
	"testing"

	"taffrail/api"
)

// model is what is known of descriptors, apart from how they are kept: each open file has a number that is given once, and nothing is counted, but sought through everybody's descriptors each time.
type model struct {
	things []api.Opened
	of     map[int]map[int]int
}

func newModel() *model {
	return &model{of: map[int]map[int]int{}}
}

// living are the numbers of all open files to which somebody's descriptor refers.
func (w *model) living() map[int]bool {
	l := map[int]bool{}
	for _, descs := range w.of {
		for _, number := range descs {
			l[number] = true
		}
	}
	return l
}

// taken is how many descriptors there are, everybody's.
func (w *model) taken() int {
	n := 0
	for _, descs := range w.of {
		n += len(descs)
	}
	return n
}

func (w *model) set(pid, fd, number int) {
	if w.of[pid] == nil {
		w.of[pid] = map[int]int{}
	}
	w.of[pid][fd] = number
}

func (w *model) least(pid int) int {
	fd := 0
	for {
		if _, ok := w.of[pid][fd]; !ok {
			return fd
		}
		fd++
	}
}

func (w *model) open(pid int, o api.Opened) (int, api.Errno) {
	if pid <= 0 || o.Kind <= 0 || o.Thing < 0 {
		return 0, api.ErrArg
	}
	if len(w.of[pid]) == 8 {
		return 0, api.ErrFds
	}
	if len(w.living()) == 32 {
		return 0, api.ErrFiles
	}
	fd := w.least(pid)
	w.set(pid, fd, len(w.things))
	w.things = append(w.things, o)
	return fd, api.OK
}

func (w *model) has(pid, fd int) (int, api.Errno) {
	if pid <= 0 {
		return 0, api.ErrArg
	}
	number, ok := w.of[pid][fd]
	if !ok {
		return 0, api.ErrFd
	}
	return number, api.OK
}

func (w *model) dup(pid, fd int) (int, api.Errno) {
	number, e := w.has(pid, fd)
	if e != api.OK {
		return 0, e
	}
	if len(w.of[pid]) == 8 {
		return 0, api.ErrFds
	}
	twin := w.least(pid)
	w.set(pid, twin, number)
	return twin, api.OK
}

func (w *model) close(pid, fd int) (api.Opened, bool, api.Errno) {
	number, e := w.has(pid, fd)
	if e != api.OK {
		return api.Opened{}, false, e
	}
	delete(w.of[pid], fd)
	return w.things[number], !w.living()[number], api.OK
}

func (w *model) get(pid, fd int) (api.Opened, api.Errno) {
	number, e := w.has(pid, fd)
	if e != api.OK {
		return api.Opened{}, e
	}
	return w.things[number], api.OK
}

func (w *model) fork(pid, child int) api.Errno {
	if pid <= 0 || child <= 0 || len(w.of[child]) > 0 {
		return api.ErrArg
	}
	for fd, number := range w.of[pid] {
		w.set(child, fd, number)
	}
	return api.OK
}

func (w *model) drop(pid int) []api.Opened {
	var l []api.Opened
	for fd := range 8 {
		if o, gone, _ := w.close(pid, fd); gone {
			l = append(l, o)
		}
	}
	return l
}

// answer is what a call tells, of either side.
type answer struct {
	n    int
	o    api.Opened
	gone bool
	e    api.Errno
}

// people is up to which number those are who take part in a run.
const people = 12

// pick is somebody; one of thirty is nobody.
func pick(r *rand.Rand) int {
	if r.Intn(30) == 0 {
		return -r.Intn(3)
	}
	return 1 + r.Intn(people)
}

// step does one thing to both, and fails the test unless they tell the same. The more of ten are to open, the fewer of the others drop.
func (w *model) step(t *testing.T, f *Files, r *rand.Rand, opens int) {
	t.Helper()
	pid, fd := pick(r), r.Intn(12)-2
	var got, want answer
	kind := r.Intn(10)
	switch {
	case kind < opens:
		o := api.Opened{Kind: r.Intn(8), Thing: r.Intn(8) - 1}
		got.n, got.e = f.Open(pid, o)
		want.n, want.e = w.open(pid, o)
	case kind == 7 && r.Intn(opens+1) == 0:
		if l, asked := f.Drop(pid), w.drop(pid); !slices.Equal(l, asked) {
			t.Errorf("Drop(%d): %v, not %v", pid, l, asked)
		}
	case kind == 7:
		child := pick(r)
		got.e, want.e = f.Fork(pid, child), w.fork(pid, child)
	case kind == 8:
		got.n, got.e = f.Dup(pid, fd)
		want.n, want.e = w.dup(pid, fd)
	default:
		got.o, got.gone, got.e = f.Close(pid, fd)
		want.o, want.gone, want.e = w.close(pid, fd)
	}
	if got != want {
		t.Errorf("kind %d of %d, descriptor %d: %v, not %v", kind, pid, fd, got, want)
	}
}

// same fails the test unless all descriptors of everybody are what the model knows.
func (w *model) same(t *testing.T, f *Files) {
	t.Helper()
	for pid := -1; pid <= people+1; pid++ {
		for fd := -1; fd <= 8; fd++ {
			var got, want answer
			got.o, got.e = f.Get(pid, fd)
			want.o, want.e = w.get(pid, fd)
			if got != want {
				t.Errorf("Get(%d, %d): %v, not %v", pid, fd, got, want)
			}
		}
	}
	if n := f.Count(); n != len(w.living()) {
		t.Errorf("Count: %d, not %d", n, len(w.living()))
	}
}

func TestAgainstTheModel(t *testing.T) {
	full, many, none := 0, 0, 0
	for seed := range int64(60) {
		r := rand.New(rand.NewSource(seed))
		f, w := New(), newModel()
		for n := range 1200 {
			w.step(t, f, r, []int{6, 2, 2, 0}[n/100%4])
			w.same(t, f)
			if t.Failed() {
				t.Fatalf("seed %d, step %d", seed, n)
			}
			open := len(w.living())
			switch {
			case open == 32:
				full++
			case open == 0:
				none++
			}
			if w.taken() > open+10 {
				many++
			}
		}
	}
	if full < 1000 || many < 1000 || none < 100 {
		t.Errorf("full: %d, more descriptors than open files: %d, none: %d: the runs tell little", full, many, none)
	}
}

// What calls tell hangs on the calls ahead alone: the same ones again tell the same.
func TestTheSameAgain(t *testing.T) {
	run := func() []answer {
		r := rand.New(rand.NewSource(9))
		f, w := New(), newModel()
		var l []answer
		for range 400 {
			w.step(t, f, r, 4)
			for pid := range people + 1 {
				o, e := f.Get(pid, r.Intn(8))
				l = append(l, answer{n: f.Count(), o: o, e: e})
			}
		}
		return l
	}
	first := run()
	for range 3 {
		if !slices.Equal(run(), first) {
			t.Fatal("told otherwise")
		}
	}
}
