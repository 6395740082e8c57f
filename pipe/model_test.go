package pipe

import (
	"math/rand"
	"slices"
	"testing"

	"taffrail/api"
)

// model is what is known of a pipe, apart from how it is kept: all that was ever written, how much of it was read, and the ends, one by one.
type model struct {
	written string
	read    int
	ends    []int
}

func newModel() *model {
	return &model{ends: []int{api.KindReader, api.KindWriter}}
}

func (w *model) held() string {
	return w.written[w.read:]
}

func (w *model) count(kind int) int {
	n := 0
	for _, k := range w.ends {
		if k == kind {
			n++
		}
	}
	return n
}

func (w *model) open(kind int) api.Errno {
	if kind != 1 && kind != 2 || w.count(kind) == 100 {
		return api.ErrArg
	}
	w.ends = append(w.ends, kind)
	return api.OK
}

func (w *model) close(kind int) (bool, api.Errno) {
	at := slices.Index(w.ends, kind)
	if at < 0 {
		return false, api.ErrArg
	}
	w.ends = slices.Delete(w.ends, at, at+1)
	return len(w.ends) == 0, api.OK
}

func (w *model) get(n int) (string, api.Errno) {
	if n < 0 {
		return "", api.ErrArg
	}
	if n > 0 && w.held() == "" && slices.Contains(w.ends, 2) {
		return "", api.ErrAgain
	}
	s := w.held()[:min(n, len(w.held()))]
	w.read += len(s)
	return s, api.OK
}

func (w *model) put(s string) (int, api.Errno) {
	if !slices.Contains(w.ends, 1) {
		return 0, api.ErrPipe
	}
	n := min(len(s), 32-len(w.held()))
	if n == 0 && s != "" {
		return 0, api.ErrAgain
	}
	w.written += s[:n]
	return n, api.OK
}

// state is what the pipe must tell of itself. What can be done is tried on a twin.
func (w *model) state() state {
	twin := *w
	_, reading := twin.get(1)
	twin = *w
	_, writing := twin.put("x")
	return state{
		readers: w.count(1), writers: w.count(2), len: len(w.held()), bytes: w.held(),
		canRead: reading != api.ErrAgain, canWrite: writing != api.ErrAgain,
	}
}

// answer is what a call tells, of either side.
type answer struct {
	n    int
	s    string
	gone bool
	e    api.Errno
}

// anyBytes is a text of up to most bytes of any value.
func anyBytes(r *rand.Rand, most int) string {
	b := make([]byte, r.Intn(most+1))
	r.Read(b)
	return string(b)
}

// mood is of a hundred calls how many write, how many read, how many open; the others close.
type mood struct {
	write, read, open int
}

// moods are such that bytes become many and few, ends too.
var moods = []mood{{50, 30, 10}, {30, 50, 10}, {1, 1, 96}, {30, 30, 10}, {10, 10, 0}, {30, 20, 25}}

// step does one thing to both, and fails the test unless they tell the same.
func (w *model) step(t *testing.T, p *Pipe, r *rand.Rand, m mood) answer {
	t.Helper()
	var got, want answer
	kind := 1 + r.Intn(2)
	if r.Intn(50) == 0 {
		kind = r.Intn(6) - 1
	}
	switch of := r.Intn(100); {
	case of < m.write:
		s := anyBytes(r, 1+r.Intn(44))
		got.n, got.e = p.Write(s)
		want.n, want.e = w.put(s)
	case of < m.write+m.read:
		n := r.Intn(46) - 2
		got.s, got.e = p.Read(n)
		want.s, want.e = w.get(n)
	case of < m.write+m.read+m.open:
		got.e, want.e = p.Open(kind), w.open(kind)
	default:
		got.gone, got.e = p.Close(kind)
		want.gone, want.e = w.close(kind)
	}
	if got != want {
		t.Errorf("%#v, not %#v", got, want)
	}
	if s, asked := stateOf(p), w.state(); s != asked {
		t.Errorf("behind it: %#v, not %#v", s, asked)
	}
	return got
}

// seen is how often what is seldom came.
type seen struct {
	end, again, broken, full, most, gone int
}

func (l *seen) note(p *Pipe, a answer) {
	s := stateOf(p)
	for _, x := range []struct {
		holds bool
		count *int
	}{
		{s.len == 0 && s.writers == 0, &l.end},
		{a.e == api.ErrAgain, &l.again},
		{a.e == api.ErrPipe, &l.broken},
		{s.len == 32, &l.full},
		{s.readers == 100 || s.writers == 100, &l.most},
		{a.gone, &l.gone},
	} {
		if x.holds {
			*x.count++
		}
	}
}

func TestAgainstTheModel(t *testing.T) {
	var l seen
	for seed := range int64(60) {
		r := rand.New(rand.NewSource(seed))
		p, w := New(), newModel()
		for n := range 2400 {
			a := w.step(t, p, r, moods[n/200%len(moods)])
			if t.Failed() {
				t.Fatalf("seed %d, step %d", seed, n)
			}
			l.note(p, a)
		}
	}
	if min(l.end, l.again, l.broken, l.full, l.most, l.gone) < 60 {
		t.Errorf("%+v: the runs tell little", l)
	}
}

// What calls tell hangs on the calls ahead alone: the same ones again tell the same, also with another pipe between.
func TestTheSameAgain(t *testing.T) {
	run := func(between func()) []answer {
		r := rand.New(rand.NewSource(9))
		p, w := New(), newModel()
		var l []answer
		for n := range 1200 {
			l = append(l, w.step(t, p, r, moods[n/100%len(moods)]))
			between()
		}
		return l
	}
	other, w, r := New(), newModel(), rand.New(rand.NewSource(4))
	first := run(func() {})
	for range 3 {
		if !slices.Equal(run(func() { w.step(t, other, r, moods[0]) }), first) {
			t.Fatal("told otherwise")
		}
	}
}
