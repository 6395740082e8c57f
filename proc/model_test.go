package proc

import (
	"math/rand"
	"slices"
	"testing"

	"taffrail/api"
)

// model is what is known of a table, apart from how it is kept: a process stands at its number's place for ever, and is there or not.
type model struct {
	procs []api.Proc
	there []bool
}

func newModel() *model {
	return &model{procs: []api.Proc{{}, {Pid: 1, State: 1}}, there: []bool{false, true}}
}

func (w *model) has(pid int) bool {
	return pid >= 0 && pid < len(w.procs) && w.there[pid]
}

func (w *model) state(pid int) int {
	return w.procs[pid].State
}

func (w *model) list() []api.Proc {
	var l []api.Proc
	for pid, p := range w.procs {
		if w.there[pid] {
			l = append(l, p)
		}
	}
	return l
}

func (w *model) fork(pid int) (int, api.Errno) {
	if !w.has(pid) {
		return 0, api.ErrProc
	}
	if w.state(pid) != 1 {
		return 0, api.ErrArg
	}
	if len(w.list()) == 16 || len(w.procs) == 30001 {
		return 0, api.ErrProcs
	}
	n := len(w.procs)
	w.procs = append(w.procs, api.Proc{Pid: n, Parent: pid, State: 1, Cred: w.procs[pid].Cred})
	w.there = append(w.there, true)
	return n, api.OK
}

func (w *model) become(pid int, c api.Cred) api.Errno {
	if !w.has(pid) {
		return api.ErrProc
	}
	if c.Uid < 0 || c.Uid > 65535 || c.Gid < 0 || c.Gid > 65535 {
		return api.ErrCred
	}
	if had := w.procs[pid].Cred; had.Uid != 0 && (had.Uid != c.Uid || had.Gid != c.Gid) {
		return api.ErrPerm
	}
	w.procs[pid].Cred = c
	return api.OK
}

func (w *model) exit(pid, status int) api.Errno {
	if !w.has(pid) {
		return api.ErrProc
	}
	if status < 0 || status > 255 || w.state(pid) != 1 || pid == 1 {
		return api.ErrArg
	}
	w.procs[pid].State, w.procs[pid].Status = 3, status
	for k := range w.procs {
		if w.there[k] && w.procs[k].Parent == pid {
			w.procs[k].Parent = 1
		}
	}
	return api.OK
}

func (w *model) wait(pid int) (int, int, api.Errno) {
	if !w.has(pid) {
		return 0, 0, api.ErrProc
	}
	if w.state(pid) != 1 {
		return 0, 0, api.ErrArg
	}
	children := 0
	for k, p := range w.procs {
		if !w.there[k] || p.Parent != pid {
			continue
		}
		children++
		if p.State == 3 {
			w.there[k] = false
			return k, p.Status, api.OK
		}
	}
	if children == 0 {
		return 0, 0, api.ErrChild
	}
	return 0, 0, api.ErrAgain
}

func (w *model) kill(pid int) api.Errno {
	if !w.has(pid) {
		return api.ErrProc
	}
	if pid == 1 {
		return api.ErrArg
	}
	if w.state(pid) == 3 {
		return api.ErrProc
	}
	w.procs[pid].State, w.procs[pid].Chan, w.procs[pid].Killed = 1, "", true
	return api.OK
}

func (w *model) sleep(pid int, channel string) api.Errno {
	if !w.has(pid) {
		return api.ErrProc
	}
	if w.state(pid) != 1 {
		return api.ErrArg
	}
	w.procs[pid].State, w.procs[pid].Chan = 2, channel
	return api.OK
}

func (w *model) wake(channel string) []int {
	var l []int
	for k, p := range w.procs {
		if w.there[k] && p.State == 2 && p.Chan == channel {
			w.procs[k].State, w.procs[k].Chan = 1, ""
			l = append(l, k)
		}
	}
	return l
}

// pick is mostly a process that is there, and often the process 1, which has the most to reap.
func (w *model) pick(r *rand.Rand) int {
	switch k := r.Intn(10); {
	case k == 0:
		return r.Intn(len(w.procs) + 2)
	case k < 4:
		return 1
	}
	l := w.list()
	return l[r.Intn(len(l))].Pid
}

// answer is what a call tells, of either side.
type answer struct {
	n, m int
	e    api.Errno
}

// step does one thing to both, and fails the test unless they tell the same.
func (w *model) step(t *testing.T, x *Table, r *rand.Rand) {
	t.Helper()
	pid := w.pick(r)
	channel := []string{"", "c", "d", "1"}[r.Intn(4)]
	var got, want answer
	kind := r.Intn(24)
	switch {
	case kind < 5:
		got.n, got.e = x.Fork(pid)
		want.n, want.e = w.fork(pid)
	case kind < 7:
		c := api.Cred{Uid: []int{0, 0, 5, 65535, 65536, -1}[r.Intn(6)], Gid: []int{0, 0, 6, 65535, 65536, -1}[r.Intn(6)]}
		got.e, want.e = x.Become(pid, c), w.become(pid, c)
	case kind < 11:
		status := r.Intn(260) - 2
		got.e, want.e = x.Exit(pid, status), w.exit(pid, status)
	case kind < 16:
		got.n, got.m, got.e = x.Wait(pid)
		want.n, want.m, want.e = w.wait(pid)
	case kind < 18:
		got.e, want.e = x.Kill(pid), w.kill(pid)
	case kind < 21:
		got.e, want.e = x.Sleep(pid, channel), w.sleep(pid, channel)
	default:
		if l, asked := x.Wake(channel), w.wake(channel); !slices.Equal(l, asked) {
			t.Errorf("Wake(%q): %v, not %v", channel, l, asked)
		}
	}
	if got != want {
		t.Errorf("kind %d of %d: %v, not %v", kind, pid, got, want)
	}
}

func TestAgainstTheModel(t *testing.T) {
	fullTables, numbers := 0, 0
	for seed := range int64(40) {
		r := rand.New(rand.NewSource(seed))
		x, w := New(), newModel()
		for range 1000 {
			w.step(t, x, r)
			same(t, x, w.list()...)
			parentsThere(t, x)
			if len(w.list()) == 16 {
				fullTables++
			}
			if t.Failed() {
				t.Fatalf("seed %d", seed)
			}
		}
		numbers += len(w.procs)
	}
	if fullTables < 1000 || numbers < 40*40 { // else it tells little
		t.Errorf("full tables: %d, numbers: %d", fullTables, numbers)
	}
}

// What calls tell hangs on the calls ahead alone: the same ones again tell the same.
func TestTheSameAgain(t *testing.T) {
	run := func() [][]api.Proc {
		r := rand.New(rand.NewSource(9))
		x, w := New(), newModel()
		var l [][]api.Proc
		for range 500 {
			w.step(t, x, r)
			l = append(l, all(x))
		}
		return l
	}
	first := run()
	for range 3 {
		if !slices.EqualFunc(run(), first, slices.Equal[[]api.Proc]) {
			t.Fatal("told otherwise")
		}
	}
}
