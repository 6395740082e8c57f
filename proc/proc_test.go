package proc

import (
	"math"
	"slices"
	"strings"
	"testing"

	"taffrail/api"
)

// nobodies are numbers of no process, whatever is in a table; the low bits of some would be one's.
var nobodies = []int{math.MinInt, math.MinInt + 1, math.MinInt32, -30000, -2, -1, 0, 30001, 1 << 16, 1<<16 + 1, math.MaxInt32, 1 << 32, 1<<32 + 1, 1<<32 + 2, math.MaxInt - 1, math.MaxInt}

// wrongStatuses are none; the low bits of some would be.
var wrongStatuses = []int{math.MinInt, math.MinInt + 7, math.MinInt32, -256, -255, -1, 256, 257, 511, 1 << 16, 1 << 32, 1<<32 + 7, math.MaxInt32, math.MaxInt - 1, math.MaxInt}

// wrongNumbers are no users and no groups.
var wrongNumbers = []int{math.MinInt, math.MinInt + 5, math.MinInt32, -65535, -1, 65536, 65541, math.MaxInt32, 1 << 32, 1<<32 + 5, math.MaxInt}

// wrongCreds are right but for one number, or wrong in both.
func wrongCreds() []api.Cred {
	var l []api.Cred
	for _, n := range wrongNumbers {
		l = append(l, api.Cred{Uid: n, Gid: 6}, api.Cred{Uid: 5, Gid: n}, api.Cred{Uid: 0, Gid: n}, api.Cred{Uid: n, Gid: n})
	}
	return l
}

// all are the processes that a table tells of.
func all(x *Table) []api.Proc {
	var l []api.Proc
	for _, pid := range x.Pids() {
		p, e := x.Get(pid)
		if e != api.OK {
			p = api.Proc{Pid: -pid}
		}
		l = append(l, p)
	}
	return l
}

// same fails the test unless a table has these processes, and no others.
func same(t *testing.T, x *Table, want ...api.Proc) {
	t.Helper()
	if l := all(x); !slices.Equal(l, want) {
		t.Errorf("there are\n%v, not\n%v", l, want)
	}
}

// is fails the test unless an error is the one that is asked.
func is(t *testing.T, e, want api.Errno) {
	t.Helper()
	if e != want {
		t.Errorf("error %d, not %d", e, want)
	}
}

// forks forks each process once, in order, and fails the test unless it can be done.
func forks(t *testing.T, x *Table, pids ...int) {
	t.Helper()
	for _, pid := range pids {
		if n, e := x.Fork(pid); n == 0 || e != api.OK {
			t.Fatalf("Fork(%d): %d, %d", pid, n, e)
		}
	}
}

// forked fails the test unless forking answers that.
func forked(t *testing.T, x *Table, pid, child int, want api.Errno) {
	t.Helper()
	if n, e := x.Fork(pid); n != child || e != want {
		t.Errorf("Fork(%d): %d, %d, not %d, %d", pid, n, e, child, want)
	}
}

// reaped fails the test unless waiting answers that.
func reaped(t *testing.T, x *Table, pid, child, status int, want api.Errno) {
	t.Helper()
	if n, s, e := x.Wait(pid); n != child || s != status || e != want {
		t.Errorf("Wait(%d): %d, %d, %d, not %d, %d, %d", pid, n, s, e, child, status, want)
	}
}

// woken fails the test unless waking answers that.
func woken(t *testing.T, x *Table, channel string, want ...int) {
	t.Helper()
	if l := x.Wake(channel); !slices.Equal(l, want) {
		t.Errorf("Wake(%q): %v, not %v", channel, l, want)
	}
}

// runs is a process that runs, of the user and group 0.
func runs(pid, parent int) api.Proc {
	return api.Proc{Pid: pid, Parent: parent, State: api.StateRun}
}

// sleeps is one that sleeps.
func sleeps(pid, parent int, channel string) api.Proc {
	return api.Proc{Pid: pid, Parent: parent, State: api.StateSleep, Chan: channel}
}

// ended is one that has.
func ended(pid, parent, status int) api.Proc {
	return api.Proc{Pid: pid, Parent: parent, State: api.StateZombie, Status: status}
}

// mixed has a process of each state: 1 and 2 run, 3 sleeps, 4 is a zombie; all are the process 1's.
func mixed(t *testing.T) *Table {
	t.Helper()
	x := New()
	forks(t, x, 1, 1, 1)
	is(t, x.Sleep(3, "c"), api.OK)
	is(t, x.Exit(4, 9), api.OK)
	same(t, x, runs(1, 0), runs(2, 1), sleeps(3, 1, "c"), ended(4, 1, 9))
	return x
}

// P6.1

func TestNewTable(t *testing.T) {
	x := New()
	same(t, x, api.Proc{Pid: 1, Parent: 0, State: api.StateRun})
	if l := x.Pids(); !slices.Equal(l, []int{1}) {
		t.Error(l)
	}
	forked(t, x, 1, 2, api.OK)
}

func TestTablesAreApart(t *testing.T) {
	x, y := New(), New()
	forks(t, x, 1, 1, 2)
	is(t, x.Become(1, api.Cred{Uid: 5}), api.OK)
	is(t, x.Sleep(1, "c"), api.OK)
	same(t, y, runs(1, 0))
	woken(t, y, "c")
	forked(t, y, 1, 2, api.OK)
}

func TestNilTable(t *testing.T) {
	var x *Table
	for _, pid := range append([]int{1, 2}, nobodies...) {
		if p, e := x.Get(pid); p != (api.Proc{}) || e != api.ErrNil {
			t.Errorf("Get(%d): %v, %d", pid, p, e)
		}
		forked(t, x, pid, 0, api.ErrNil)
		is(t, x.Become(pid, api.Cred{}), api.ErrNil)
		is(t, x.Become(pid, api.Cred{Uid: -1}), api.ErrNil)
		is(t, x.Exit(pid, 0), api.ErrNil)
		is(t, x.Exit(pid, 256), api.ErrNil)
		reaped(t, x, pid, 0, 0, api.ErrNil)
		is(t, x.Kill(pid), api.ErrNil)
		is(t, x.Sleep(pid, "c"), api.ErrNil)
		is(t, x.Sleep(pid, ""), api.ErrNil)
	}
	if l := x.Pids(); len(l) != 0 {
		t.Error(l)
	}
	woken(t, x, "c")
	woken(t, x, "")
}

// A table that New did not give has no process; its calls end all the same.
func TestTableOfNothing(t *testing.T) {
	x := &Table{}
	forked(t, x, 1, 0, api.ErrProc)
	is(t, x.Become(1, api.Cred{}), api.ErrProc)
	is(t, x.Exit(1, 0), api.ErrProc)
	reaped(t, x, 1, 0, 0, api.ErrProc)
	is(t, x.Kill(1), api.ErrProc)
	is(t, x.Sleep(1, ""), api.ErrProc)
	woken(t, x, "")
	same(t, x)
}

// refusedAsNobody fails the test unless every call of that number answers ErrProc, whatever else is wrong, and changes nothing.
func refusedAsNobody(t *testing.T, x *Table, pid int) {
	t.Helper()
	before := all(x)
	if p, e := x.Get(pid); p != (api.Proc{}) || e != api.ErrProc {
		t.Errorf("Get(%d): %v, %d", pid, p, e)
	}
	forked(t, x, pid, 0, api.ErrProc)
	is(t, x.Become(pid, api.Cred{}), api.ErrProc)
	is(t, x.Become(pid, api.Cred{Uid: -1}), api.ErrProc)
	is(t, x.Exit(pid, 0), api.ErrProc)
	is(t, x.Exit(pid, -1), api.ErrProc)
	reaped(t, x, pid, 0, 0, api.ErrProc)
	is(t, x.Kill(pid), api.ErrProc)
	is(t, x.Sleep(pid, "c"), api.ErrProc)
	same(t, x, before...)
}

func TestNumbersOfNoProcess(t *testing.T) {
	x := mixed(t)
	for _, pid := range append([]int{5, 6, 16, 17, 29999, 30000}, nobodies...) {
		refusedAsNobody(t, x, pid)
	}
	reaped(t, x, 1, 4, 9, api.OK)
	refusedAsNobody(t, x, 4)
	forked(t, x, 1, 5, api.OK)
	refusedAsNobody(t, x, 4)
}

// A full table knows no more numbers than one that isn't.
func TestNumbersOfNoProcessInAFullTable(t *testing.T) {
	x := New()
	forks(t, x, slices.Repeat([]int{1}, 15)...)
	for _, pid := range append([]int{17, 18, 30000}, nobodies...) {
		refusedAsNobody(t, x, pid)
	}
}

func TestPidsRise(t *testing.T) {
	x := New()
	forks(t, x, slices.Repeat([]int{1}, 15)...)
	want := []int{1}
	for pid := 2; pid <= 16; pid++ {
		want = append(want, pid)
	}
	for range 20 { // whatever order a map is gone through in
		if l := x.Pids(); !slices.Equal(l, want) {
			t.Fatal(l)
		}
	}
	is(t, x.Exit(9, 0), api.OK)
	if l := x.Pids(); !slices.Equal(l, want) { // a zombie is there
		t.Error(l)
	}
	reaped(t, x, 1, 9, 0, api.OK)
	forked(t, x, 1, 17, api.OK)
	if l := x.Pids(); !slices.Equal(l, []int{1, 2, 3, 4, 5, 6, 7, 8, 10, 11, 12, 13, 14, 15, 16, 17}) {
		t.Error(l)
	}
}

// What is answered may be written into, its spare room too: it is new memory.
func TestAnswersAreNewMemory(t *testing.T) {
	x := New()
	forks(t, x, 1, 1, 1, 1)
	spoil := func(l []int) {
		for k := range l[:cap(l)] {
			l[:cap(l)][k] = -7
		}
	}
	first, second := x.Pids(), x.Pids()
	spoil(first)
	if !slices.Equal(second, []int{1, 2, 3, 4, 5}) || !slices.Equal(x.Pids(), second) {
		t.Error(second, x.Pids())
	}
	for range 2 {
		is(t, x.Sleep(3, "c"), api.OK)
		is(t, x.Sleep(5, "c"), api.OK)
		l := x.Wake("c")
		if !slices.Equal(l, []int{3, 5}) {
			t.Error(l)
		}
		spoil(l)
		same(t, x, runs(1, 0), runs(2, 1), runs(3, 1), runs(4, 1), runs(5, 1))
	}
	p, _ := x.Get(2)
	p.Parent, p.State, p.Chan, p.Cred.Uid, p.Killed = 7, 2, "c", 7, true
	if q, e := x.Get(2); q != runs(2, 1) || e != api.OK {
		t.Error(q, e)
	}
}

func TestForkMakesAChildThatRuns(t *testing.T) {
	x := New()
	forked(t, x, 1, 2, api.OK)
	forked(t, x, 2, 3, api.OK)
	forked(t, x, 2, 4, api.OK)
	forked(t, x, 1, 5, api.OK)
	forked(t, x, 4, 6, api.OK)
	same(t, x, runs(1, 0), runs(2, 1), runs(3, 2), runs(4, 2), runs(5, 1), runs(6, 4))
}

// A child has its parent's credentials, as they are then, and nothing else of it.
func TestForkHandsOnCredentialsAlone(t *testing.T) {
	x := New()
	forks(t, x, 1)
	is(t, x.Become(2, api.Cred{Uid: 5, Gid: 6}), api.OK)
	is(t, x.Kill(2), api.OK)
	forked(t, x, 2, 3, api.OK)
	c := api.Cred{Uid: 5, Gid: 6}
	same(t, x, runs(1, 0),
		api.Proc{Pid: 2, Parent: 1, State: api.StateRun, Cred: c, Killed: true},
		api.Proc{Pid: 3, Parent: 2, State: api.StateRun, Cred: c})
	is(t, x.Become(1, api.Cred{Uid: 65535, Gid: 65535}), api.OK)
	forked(t, x, 1, 4, api.OK)
	if p, _ := x.Get(4); p.Cred != (api.Cred{Uid: 65535, Gid: 65535}) {
		t.Error(p)
	}
	if p, _ := x.Get(3); p.Cred != c {
		t.Error(p)
	}
}

func TestForkOfOneThatDoesNotRun(t *testing.T) {
	x := mixed(t)
	before := all(x)
	forked(t, x, 3, 0, api.ErrArg)
	forked(t, x, 4, 0, api.ErrArg)
	same(t, x, before...)
	woken(t, x, "c", 3)
	forked(t, x, 3, 5, api.OK) // no number was lost by what was refused
}

func TestForkUpToSixteen(t *testing.T) {
	x := New()
	for k := range 15 {
		forked(t, x, k/2+1, k+2, api.OK)
	}
	before := all(x)
	if len(before) != 16 {
		t.Fatal(before)
	}
	for pid := 1; pid <= 16; pid++ {
		forked(t, x, pid, 0, api.ErrProcs)
	}
	forked(t, x, 17, 0, api.ErrProc)
	same(t, x, before...)
	is(t, x.Sleep(16, "c"), api.OK)
	forked(t, x, 16, 0, api.ErrArg) // the first error: it does not run
	is(t, x.Exit(2, 0), api.OK)
	forked(t, x, 2, 0, api.ErrArg)
	forked(t, x, 1, 0, api.ErrProcs) // a zombie has its place yet
	reaped(t, x, 1, 2, 0, api.OK)
	forked(t, x, 1, 17, api.OK)
	forked(t, x, 1, 0, api.ErrProcs)
}

// lastNumbers has given all numbers but the last one, and reaped all processes but the first.
func lastNumbers(t *testing.T) *Table {
	t.Helper()
	x := New()
	for pid := 2; pid < 30000; pid++ {
		if n, e := x.Fork(1); n != pid || e != api.OK {
			t.Fatalf("%d: %d, %d", pid, n, e)
		}
		if e := x.Exit(pid, pid%256); e != api.OK {
			t.Fatal(pid, e)
		}
		if n, s, e := x.Wait(1); n != pid || s != pid%256 || e != api.OK {
			t.Fatal(pid, n, s, e)
		}
	}
	return x
}

func TestForkUpToTheLastNumber(t *testing.T) {
	x := lastNumbers(t)
	same(t, x, runs(1, 0))
	forked(t, x, 1, 30000, api.OK)
	same(t, x, runs(1, 0), runs(30000, 1))
	forked(t, x, 1, 0, api.ErrProcs)
	forked(t, x, 30000, 0, api.ErrProcs)
	same(t, x, runs(1, 0), runs(30000, 1))
	is(t, x.Sleep(30000, "c"), api.OK)
	forked(t, x, 30000, 0, api.ErrArg)
	woken(t, x, "c", 30000)
	is(t, x.Exit(30000, 255), api.OK)
	forked(t, x, 1, 0, api.ErrProcs)
	reaped(t, x, 1, 30000, 255, api.OK)
	forked(t, x, 1, 0, api.ErrProcs)
	forked(t, x, 30000, 0, api.ErrProc)
	same(t, x, runs(1, 0))
}

func TestBecome(t *testing.T) {
	x := New()
	forks(t, x, 1)
	is(t, x.Become(2, api.Cred{Uid: 0, Gid: 7}), api.OK) // the user 0 it is still
	is(t, x.Become(2, api.Cred{Uid: 5, Gid: 6}), api.OK)
	five := runs(2, 1)
	five.Cred = api.Cred{Uid: 5, Gid: 6}
	same(t, x, runs(1, 0), five)
	is(t, x.Become(2, api.Cred{Uid: 5, Gid: 6}), api.OK)
	for _, c := range []api.Cred{{}, {Uid: 5}, {Gid: 6}, {Uid: 5, Gid: 7}, {Uid: 8, Gid: 6}, {Uid: 6, Gid: 5}, {Uid: 65535, Gid: 65535}} {
		is(t, x.Become(2, c), api.ErrPerm)
	}
	same(t, x, runs(1, 0), five)
	is(t, x.Become(1, api.Cred{Uid: 65535, Gid: 65535}), api.OK) // the process 1 as well
	is(t, x.Become(1, api.Cred{}), api.ErrPerm)
	last := runs(1, 0)
	last.Cred = api.Cred{Uid: 65535, Gid: 65535}
	same(t, x, last, five)
}

func TestBecomeWhatIsNotRight(t *testing.T) {
	x := New()
	forks(t, x, 1)
	is(t, x.Become(2, api.Cred{Uid: 5, Gid: 6}), api.OK)
	before := all(x)
	for _, c := range wrongCreds() {
		is(t, x.Become(1, c), api.ErrCred)
		is(t, x.Become(2, c), api.ErrCred) // ahead of ErrPerm
		is(t, x.Become(3, c), api.ErrProc)
	}
	same(t, x, before...)
}

// Become asks for no state.
func TestBecomeInEachState(t *testing.T) {
	x := mixed(t)
	c := api.Cred{Uid: 5, Gid: 6}
	for pid := 1; pid <= 4; pid++ {
		before, _ := x.Get(pid)
		is(t, x.Become(pid, c), api.OK)
		is(t, x.Become(pid, api.Cred{}), api.ErrPerm)
		before.Cred = c
		if p, e := x.Get(pid); p != before || e != api.OK {
			t.Error(p, e)
		}
	}
}

func TestExitOfEachStatus(t *testing.T) {
	for status := range 256 {
		x := New()
		forks(t, x, 1)
		is(t, x.Exit(2, status), api.OK)
		same(t, x, runs(1, 0), ended(2, 1, status))
		reaped(t, x, 1, 2, status, api.OK)
		same(t, x, runs(1, 0))
	}
}

func TestExitRefused(t *testing.T) {
	x := mixed(t)
	before := all(x)
	for _, status := range wrongStatuses {
		for pid := 1; pid <= 4; pid++ {
			is(t, x.Exit(pid, status), api.ErrArg)
		}
		is(t, x.Exit(5, status), api.ErrProc)
	}
	for _, status := range []int{0, 1, 9, 255} {
		is(t, x.Exit(1, status), api.ErrArg)
		is(t, x.Exit(3, status), api.ErrArg)
		is(t, x.Exit(4, status), api.ErrArg)
	}
	same(t, x, before...)
}

// One that ends stays who it is, and killed if it was.
func TestExitKeepsTheRest(t *testing.T) {
	x := New()
	forks(t, x, 1)
	is(t, x.Become(2, api.Cred{Uid: 5, Gid: 6}), api.OK)
	is(t, x.Sleep(2, "c"), api.OK)
	is(t, x.Kill(2), api.OK)
	is(t, x.Exit(2, 137), api.OK)
	same(t, x, runs(1, 0), api.Proc{Pid: 2, Parent: 1, State: api.StateZombie, Cred: api.Cred{Uid: 5, Gid: 6}, Status: 137, Killed: true})
}

func TestExitLeavesChildrenToTheFirst(t *testing.T) {
	x := New()
	forks(t, x, 1, 2, 2, 2, 3, 1) // 3, 4 and 5 are 2's, 6 is 3's
	is(t, x.Exit(4, 44), api.OK)
	is(t, x.Sleep(5, "c"), api.OK)
	is(t, x.Exit(2, 22), api.OK)
	same(t, x, runs(1, 0), ended(2, 1, 22), runs(3, 1), ended(4, 1, 44), sleeps(5, 1, "c"), runs(6, 3), runs(7, 1))
	reaped(t, x, 1, 2, 22, api.OK)
	reaped(t, x, 1, 4, 44, api.OK)
	reaped(t, x, 1, 0, 0, api.ErrAgain)
	is(t, x.Exit(3, 33), api.OK)
	same(t, x, runs(1, 0), ended(3, 1, 33), sleeps(5, 1, "c"), runs(6, 1), runs(7, 1))
}

// P6.2

func TestByTheExample(t *testing.T) {
	x := New()
	forked(t, x, 1, 2, api.OK)
	reaped(t, x, 1, 0, 0, api.ErrAgain)
	is(t, x.Exit(2, 7), api.OK)
	reaped(t, x, 1, 2, 7, api.OK)
	reaped(t, x, 1, 0, 0, api.ErrChild)
}

func TestWaitReapsTheLeast(t *testing.T) {
	x := New()
	forks(t, x, 1, 1, 1, 1, 1)
	for _, pid := range []int{5, 3, 6, 2} { // the order in which they end does not count
		is(t, x.Exit(pid, 10+pid), api.OK)
	}
	reaped(t, x, 1, 2, 12, api.OK)
	reaped(t, x, 1, 3, 13, api.OK)
	same(t, x, runs(1, 0), runs(4, 1), ended(5, 1, 15), ended(6, 1, 16))
	is(t, x.Exit(4, 0), api.OK)
	reaped(t, x, 1, 4, 0, api.OK)
	reaped(t, x, 1, 5, 15, api.OK)
	reaped(t, x, 1, 6, 16, api.OK)
	reaped(t, x, 1, 0, 0, api.ErrChild)
}

func TestWaitReapsTheLeastOfMany(t *testing.T) {
	x := New()
	forks(t, x, slices.Repeat([]int{1}, 15)...)
	for pid := 16; pid >= 2; pid-- {
		is(t, x.Exit(pid, pid), api.OK)
	}
	for pid := 2; pid <= 16; pid++ {
		reaped(t, x, 1, pid, pid, api.OK)
	}
	same(t, x, runs(1, 0))
}

// Each reaps its own children alone.
func TestWaitForOwnChildren(t *testing.T) {
	x := New()
	forks(t, x, 1, 1, 3, 3, 2) // 4 and 5 are 3's, 6 is 2's
	is(t, x.Exit(4, 4), api.OK)
	is(t, x.Exit(6, 6), api.OK)
	reaped(t, x, 1, 0, 0, api.ErrAgain)
	reaped(t, x, 3, 4, 4, api.OK)
	reaped(t, x, 3, 0, 0, api.ErrAgain)
	reaped(t, x, 2, 6, 6, api.OK)
	reaped(t, x, 2, 0, 0, api.ErrChild)
	reaped(t, x, 5, 0, 0, api.ErrChild)
	same(t, x, runs(1, 0), runs(2, 1), runs(3, 1), runs(5, 3))
}

// Children that sleep, or are killed, are children, and no zombies.
func TestWaitWithoutAZombie(t *testing.T) {
	x := New()
	reaped(t, x, 1, 0, 0, api.ErrChild)
	forks(t, x, 1, 1, 1)
	is(t, x.Sleep(2, "c"), api.OK)
	is(t, x.Kill(3), api.OK)
	before := all(x)
	reaped(t, x, 1, 0, 0, api.ErrAgain)
	reaped(t, x, 4, 0, 0, api.ErrChild)
	same(t, x, before...)
}

func TestWaitOfOneThatDoesNotRun(t *testing.T) {
	x := New()
	forks(t, x, 1, 2, 1)
	is(t, x.Exit(3, 3), api.OK)
	is(t, x.Sleep(2, "c"), api.OK)
	is(t, x.Exit(4, 4), api.OK)
	before := all(x)
	reaped(t, x, 2, 0, 0, api.ErrArg) // it has a zombie
	reaped(t, x, 4, 0, 0, api.ErrArg) // it has no child
	same(t, x, before...)
	is(t, x.Sleep(1, "d"), api.OK)
	reaped(t, x, 1, 0, 0, api.ErrArg)
	woken(t, x, "c", 2)
	reaped(t, x, 2, 3, 3, api.OK)
}

func TestKillOfOneThatRuns(t *testing.T) {
	x := New()
	forks(t, x, 1, 2)
	is(t, x.Kill(2), api.OK)
	dead := runs(2, 1)
	dead.Killed = true
	same(t, x, runs(1, 0), dead, runs(3, 2)) // it runs on until it ends; its child is its own
	is(t, x.Kill(2), api.OK)
	same(t, x, runs(1, 0), dead, runs(3, 2))
}

func TestKillOfOneThatSleeps(t *testing.T) {
	x := New()
	forks(t, x, 1, 1)
	is(t, x.Sleep(2, "c"), api.OK)
	is(t, x.Sleep(3, "c"), api.OK)
	is(t, x.Kill(2), api.OK)
	dead := runs(2, 1)
	dead.Killed = true
	same(t, x, runs(1, 0), dead, sleeps(3, 1, "c"))
	woken(t, x, "c", 3)
	is(t, x.Sleep(2, "d"), api.OK) // one that was killed may sleep again, and be killed again
	asleep := sleeps(2, 1, "d")
	asleep.Killed = true
	same(t, x, runs(1, 0), asleep, runs(3, 1))
	is(t, x.Kill(2), api.OK)
	same(t, x, runs(1, 0), dead, runs(3, 1))
}

func TestKillRefused(t *testing.T) {
	x := mixed(t)
	before := all(x)
	is(t, x.Kill(1), api.ErrArg)
	is(t, x.Kill(4), api.ErrProc)
	is(t, x.Kill(5), api.ErrProc)
	same(t, x, before...)
	is(t, x.Sleep(1, "c"), api.OK)
	is(t, x.Kill(1), api.ErrArg)
	if p, e := x.Get(1); p != sleeps(1, 0, "c") || e != api.OK {
		t.Error(p, e)
	}
}

func TestSleepOnAnyText(t *testing.T) {
	texts := []string{"", " ", "c", "C", "cc", "1", "\x00", "\x00\x00", "\xff", "\xc3\x28", "ä", "a\nb", strings.Repeat("x", 1000)}
	for _, channel := range texts {
		x := New()
		forks(t, x, 1, 1, 1)
		is(t, x.Sleep(3, channel), api.OK)
		same(t, x, runs(1, 0), runs(2, 1), sleeps(3, 1, channel), runs(4, 1))
		for _, other := range texts {
			if other != channel {
				woken(t, x, other)
			}
		}
		same(t, x, runs(1, 0), runs(2, 1), sleeps(3, 1, channel), runs(4, 1))
		woken(t, x, channel, 3)
		woken(t, x, channel)
		same(t, x, runs(1, 0), runs(2, 1), runs(3, 1), runs(4, 1))
	}
}

func TestSleepOfOneThatDoesNotRun(t *testing.T) {
	x := mixed(t)
	before := all(x)
	for _, channel := range []string{"c", "d", ""} {
		is(t, x.Sleep(3, channel), api.ErrArg)
		is(t, x.Sleep(4, channel), api.ErrArg)
		is(t, x.Sleep(5, channel), api.ErrProc)
	}
	same(t, x, before...)
}

// Neither those who run nor zombies sleep on the channel of no bytes, though their Chan is empty.
func TestWakeOfNoBytes(t *testing.T) {
	x := mixed(t)
	woken(t, x, "")
	is(t, x.Sleep(2, ""), api.OK)
	same(t, x, runs(1, 0), sleeps(2, 1, ""), sleeps(3, 1, "c"), ended(4, 1, 9))
	woken(t, x, "", 2)
	same(t, x, runs(1, 0), runs(2, 1), sleeps(3, 1, "c"), ended(4, 1, 9))
	is(t, x.Sleep(1, ""), api.OK)
	is(t, x.Sleep(2, ""), api.OK)
	woken(t, x, "", 1, 2)
	woken(t, x, "")
}

func TestWakeOfSeveral(t *testing.T) {
	x := New()
	forks(t, x, slices.Repeat([]int{1}, 15)...)
	for _, pid := range []int{16, 4, 9, 1, 12} { // the order in which they sleep does not count
		is(t, x.Sleep(pid, "c"), api.OK)
	}
	for _, pid := range []int{15, 2, 10} {
		is(t, x.Sleep(pid, "d"), api.OK)
	}
	woken(t, x, "e")
	woken(t, x, "c", 1, 4, 9, 12, 16)
	for pid := 1; pid <= 16; pid++ {
		want := runs(pid, min(pid-1, 1))
		if pid == 2 || pid == 10 || pid == 15 {
			want = sleeps(pid, 1, "d")
		}
		if p, e := x.Get(pid); p != want || e != api.OK {
			t.Errorf("%v, %d, not %v", p, e, want)
		}
	}
	woken(t, x, "c")
	woken(t, x, "d", 2, 10, 15)
}

// Waking changes nothing but that somebody sleeps.
func TestWakeKeepsTheRest(t *testing.T) {
	x := New()
	forks(t, x, 1, 2)
	is(t, x.Become(3, api.Cred{Uid: 5, Gid: 6}), api.OK)
	is(t, x.Kill(3), api.OK)
	is(t, x.Sleep(3, "c"), api.OK)
	woken(t, x, "c", 3)
	same(t, x, runs(1, 0), runs(2, 1), api.Proc{Pid: 3, Parent: 2, State: api.StateRun, Cred: api.Cred{Uid: 5, Gid: 6}, Killed: true})
}

// P6.3

func TestNoNumberTwice(t *testing.T) {
	x := New()
	greatest := 1
	for round := range 200 {
		pid, e := x.Fork(1)
		if pid != greatest+1 || e != api.OK {
			t.Fatalf("round %d: %d, %d", round, pid, e)
		}
		greatest = pid
		is(t, x.Exit(pid, 0), api.OK)
		reaped(t, x, 1, pid, 0, api.OK)
		refusedAsNobody(t, x, pid)
	}
}

func TestZombiesStay(t *testing.T) {
	x := mixed(t)
	zombie := func() {
		t.Helper()
		if p, e := x.Get(4); p != ended(4, 1, 9) || e != api.OK {
			t.Error(p, e)
		}
	}
	forked(t, x, 4, 0, api.ErrArg)
	is(t, x.Exit(4, 1), api.ErrArg)
	is(t, x.Kill(4), api.ErrProc)
	is(t, x.Sleep(4, "c"), api.ErrArg)
	zombie()
	woken(t, x, "c", 3)
	woken(t, x, "")
	forks(t, x, 2, 3)
	is(t, x.Exit(2, 0), api.OK)
	zombie()
	reaped(t, x, 3, 0, 0, api.ErrAgain)
	zombie()
	reaped(t, x, 1, 2, 0, api.OK)
	zombie()
	reaped(t, x, 1, 4, 9, api.OK)
	refusedAsNobody(t, x, 4)
}

// A line of processes, each the child of the one before, ends from its middle and from its ends.
func TestParentsAreThere(t *testing.T) {
	for first := 2; first <= 16; first++ {
		x := New()
		for pid := 1; pid <= 15; pid++ {
			forks(t, x, pid)
		}
		for k := range 15 {
			pid := (first-2+k*4)%15 + 2
			is(t, x.Exit(pid, pid), api.OK)
			parentsThere(t, x)
		}
		for pid := 2; pid <= 16; pid++ {
			reaped(t, x, 1, pid, pid, api.OK)
		}
		same(t, x, runs(1, 0))
	}
}

// parentsThere fails the test unless each process but 1 has a parent that is there, and is no zombie.
func parentsThere(t *testing.T, x *Table) {
	t.Helper()
	for _, p := range all(x) {
		if p.Pid == 1 {
			if p.Parent != 0 || p.State == api.StateZombie {
				t.Error(p)
			}
			continue
		}
		if q, e := x.Get(p.Parent); e != api.OK || q.State == api.StateZombie {
			t.Errorf("the parent of %v: %v, %d", p, q, e)
		}
	}
}
