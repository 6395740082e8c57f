package files

import (
	"math"
	"slices"
	"testing"

	"taffrail/api"
)

// nobodies are numbers of nobody; the low bits of some would be somebody's.
var nobodies = []int{math.MinInt, math.MinInt + 1, math.MinInt32, -1<<32 + 1, -30000, -8, -2, -1, 0}

// wrongFds are no descriptors, whoever's; the low bits of some would be.
var wrongFds = []int{math.MinInt, math.MinInt + 1, math.MinInt32, -1<<32 + 1, -256, -9, -8, -7, -2, -1, 8, 9, 15, 16, 31, 32, 64, 255, 256, 1 << 16, math.MaxInt32, 1 << 32, 1<<32 + 1, math.MaxInt - 1, math.MaxInt}

// wrongThings can't be opened.
var wrongThings = []api.Opened{
	{}, {Kind: 0, Thing: 3}, {Kind: -1, Thing: 0}, {Kind: math.MinInt, Thing: 5}, {Kind: math.MinInt + 1}, {Kind: -1<<32 + 1, Thing: 1},
	{Kind: 1, Thing: -1}, {Kind: 2, Thing: -2}, {Kind: 1, Thing: math.MinInt}, {Kind: 1, Thing: math.MinInt + 1}, {Kind: math.MaxInt, Thing: -1<<32 + 1},
	{Kind: 0, Thing: -1}, {Kind: -1, Thing: -1}, {Kind: math.MinInt, Thing: math.MinInt},
}

// thing is the reader of a thing of that number.
func thing(n int) api.Opened {
	return api.Opened{Kind: api.KindReader, Thing: n}
}

// desc is somebody's descriptor.
type desc struct {
	pid, fd int
}

// is fails the test unless an error is the one that is asked.
func is(t *testing.T, e, want api.Errno) {
	t.Helper()
	if e != want {
		t.Errorf("error %d, not %d", e, want)
	}
}

// opens fails the test unless opening answers that.
func opens(t *testing.T, f *Files, pid int, o api.Opened, fd int, want api.Errno) {
	t.Helper()
	if n, e := f.Open(pid, o); n != fd || e != want {
		t.Errorf("Open(%d, %v): %d, %d, not %d, %d", pid, o, n, e, fd, want)
	}
}

// dups fails the test unless duplicating answers that.
func dups(t *testing.T, f *Files, pid, fd, twin int, want api.Errno) {
	t.Helper()
	if n, e := f.Dup(pid, fd); n != twin || e != want {
		t.Errorf("Dup(%d, %d): %d, %d, not %d, %d", pid, fd, n, e, twin, want)
	}
}

// closes fails the test unless a descriptor is closed, and was of that.
func closes(t *testing.T, f *Files, pid, fd int, o api.Opened, gone bool) {
	t.Helper()
	if was, g, e := f.Close(pid, fd); was != o || g != gone || e != api.OK {
		t.Errorf("Close(%d, %d): %v, %v, %d, not %v, %v", pid, fd, was, g, e, o, gone)
	}
}

// drops fails the test unless that is gone, in that order.
func drops(t *testing.T, f *Files, pid int, want ...api.Opened) {
	t.Helper()
	if l := f.Drop(pid); !slices.Equal(l, want) {
		t.Errorf("Drop(%d): %v, not %v", pid, l, want)
	}
}

// has fails the test unless somebody's descriptors are of these from 0 on. What is nothing stands for one that is free, as all others are.
func has(t *testing.T, f *Files, pid int, want ...api.Opened) {
	t.Helper()
	for fd := range 8 {
		w, asked := api.Opened{}, api.ErrFd
		if fd < len(want) && want[fd] != (api.Opened{}) {
			w, asked = want[fd], api.OK
		}
		if o, e := f.Get(pid, fd); o != w || e != asked {
			t.Errorf("Get(%d, %d): %v, %d, not %v, %d", pid, fd, o, e, w, asked)
		}
	}
}

// counts fails the test unless there are so many open files.
func counts(t *testing.T, f *Files, want int) {
	t.Helper()
	if n := f.Count(); n != want {
		t.Errorf("Count: %d, not %d", n, want)
	}
}

// refuses fails the test unless each call of a descriptor answers an error, and nothing beside it.
func refuses(t *testing.T, f *Files, pid, fd int, want api.Errno) {
	t.Helper()
	dups(t, f, pid, fd, 0, want)
	if o, gone, e := f.Close(pid, fd); o != (api.Opened{}) || gone || e != want {
		t.Errorf("Close(%d, %d): %v, %v, %d, not %d", pid, fd, o, gone, e, want)
	}
	if o, e := f.Get(pid, fd); o != (api.Opened{}) || e != want {
		t.Errorf("Get(%d, %d): %v, %d, not %d", pid, fd, o, e, want)
	}
}

// filled has so many open files of the things 0, 1, .., eight each of 1, 2, ..
func filled(t *testing.T, count int) *Files {
	t.Helper()
	f := New()
	for k := range count {
		opens(t, f, 1+k/8, thing(k), k%8, api.OK)
	}
	counts(t, f, count)
	return f
}

// eight are the things of which the descriptors of somebody are, in what is filled.
func eight(pid int) []api.Opened {
	var l []api.Opened
	for k := range 8 {
		l = append(l, thing((pid-1)*8+k))
	}
	return l
}

// The example of the chapter.

func TestExample(t *testing.T) {
	f, o := New(), thing(3)
	opens(t, f, 1, o, 0, api.OK)
	dups(t, f, 1, 0, 1, api.OK)
	closes(t, f, 1, 0, o, false)
	closes(t, f, 1, 1, o, true)
	counts(t, f, 0)
	has(t, f, 1)
}

// P9.1

func TestNewOne(t *testing.T) {
	f := New()
	if f == nil {
		t.Fatal("nil")
	}
	counts(t, f, 0)
	for pid := range 20 {
		drops(t, f, pid)
	}
	has(t, f, 1)
	opens(t, f, 1, thing(0), 0, api.OK)
}

func TestFilesAreApart(t *testing.T) {
	f, g := New(), New()
	opens(t, f, 1, thing(0), 0, api.OK)
	counts(t, g, 0)
	has(t, g, 1)
	opens(t, g, 1, thing(5), 0, api.OK)
	drops(t, f, 1, thing(0))
	has(t, g, 1, thing(5))
}

func TestNilFiles(t *testing.T) {
	var f *Files
	for _, pid := range append([]int{1, 2, math.MaxInt}, nobodies...) {
		opens(t, f, pid, thing(0), 0, api.ErrNil)
		opens(t, f, pid, api.Opened{Thing: -1}, 0, api.ErrNil)
		for _, fd := range append([]int{0, 7}, wrongFds...) {
			refuses(t, f, pid, fd, api.ErrNil)
		}
		for _, child := range append([]int{1, 3}, nobodies...) {
			is(t, f.Fork(pid, child), api.ErrNil)
		}
		drops(t, f, pid)
	}
	counts(t, f, 0)
}

// One that New did not give has nothing; its calls end all the same.
func TestFilesOfNothing(t *testing.T) {
	f := &Files{}
	counts(t, f, 0)
	drops(t, f, 1)
	refuses(t, f, 1, 0, api.ErrFd)
	is(t, f.Fork(1, 2), api.OK)
	opens(t, f, 1, thing(0), 0, api.OK)
	has(t, f, 1, thing(0))
}

func TestNobodies(t *testing.T) {
	f := New()
	opens(t, f, 1, thing(4), 0, api.OK)
	for _, pid := range nobodies {
		opens(t, f, pid, thing(0), 0, api.ErrArg)
		for _, o := range wrongThings {
			opens(t, f, pid, o, 0, api.ErrArg)
		}
		for _, fd := range append([]int{0, 7}, wrongFds...) {
			refuses(t, f, pid, fd, api.ErrArg)
		}
		for _, other := range []int{1, 2, pid, -pid, 0} {
			is(t, f.Fork(pid, other), api.ErrArg)
		}
		is(t, f.Fork(1, pid), api.ErrArg)
		is(t, f.Fork(2, pid), api.ErrArg)
		drops(t, f, pid)
	}
	has(t, f, 1, thing(4))
	has(t, f, 2)
	counts(t, f, 1)
}

func TestAnyNumberIsSomebodys(t *testing.T) {
	f := New()
	pids := []int{1, 2, 8, 16, 17, 30000, 30001, 1 << 16, math.MaxInt32, 1 << 32, 1<<32 + 1, math.MaxInt - 1, math.MaxInt}
	for k, pid := range pids {
		opens(t, f, pid, thing(k), 0, api.OK)
		counts(t, f, k+1)
	}
	for k, pid := range pids {
		has(t, f, pid, thing(k))
	}
	for k, pid := range pids {
		drops(t, f, pid, thing(k))
		counts(t, f, len(pids)-k-1)
	}
}

func TestWrongThings(t *testing.T) {
	f := New()
	for _, o := range wrongThings {
		opens(t, f, 1, o, 0, api.ErrArg)
		counts(t, f, 0)
		has(t, f, 1)
	}
	opens(t, f, 1, thing(2), 0, api.OK)
	for _, o := range wrongThings {
		opens(t, f, 1, o, 0, api.ErrArg)
	}
	has(t, f, 1, thing(2))
	counts(t, f, 1)
}

func TestKindsAndThings(t *testing.T) {
	f := New()
	l := []api.Opened{{Kind: 1, Thing: 0}, {Kind: 2, Thing: 0}, {Kind: 3, Thing: 1}, {Kind: 1, Thing: math.MaxInt}, {Kind: math.MaxInt, Thing: 0}, {Kind: math.MaxInt, Thing: math.MaxInt}, {Kind: 1 << 32, Thing: 1 << 32}, {Kind: 300, Thing: 70000}}
	for fd, o := range l {
		opens(t, f, 1, o, fd, api.OK)
	}
	has(t, f, 1, l...)
	for fd, o := range l {
		closes(t, f, 1, fd, o, true)
	}
}

func TestNineDescriptors(t *testing.T) {
	f := filled(t, 8)
	opens(t, f, 1, thing(8), 0, api.ErrFds)
	dups(t, f, 1, 0, 0, api.ErrFds)
	dups(t, f, 1, 7, 0, api.ErrFds)
	has(t, f, 1, eight(1)...)
	counts(t, f, 8)
	opens(t, f, 2, thing(8), 0, api.OK)
	closes(t, f, 1, 7, thing(7), true)
	opens(t, f, 1, thing(9), 7, api.OK)
	opens(t, f, 1, thing(10), 0, api.ErrFds)
	counts(t, f, 9)
}

// Eight descriptors of one open file are as many as eight open files.
func TestNineDuplicates(t *testing.T) {
	f, o := New(), thing(0)
	opens(t, f, 1, o, 0, api.OK)
	for k := 1; k < 8; k++ {
		dups(t, f, 1, k-1, k, api.OK)
		counts(t, f, 1)
	}
	for fd := range 8 {
		dups(t, f, 1, fd, 0, api.ErrFds)
	}
	opens(t, f, 1, o, 0, api.ErrFds)
	counts(t, f, 1)
	has(t, f, 1, o, o, o, o, o, o, o, o)
}

// Whichever descriptors are closed, the least one is taken first, then the next one.
func TestTheLeastOneIsTaken(t *testing.T) {
	for closed := range 256 {
		f, want := filled(t, 8), eight(1)
		for fd := range 8 {
			if closed>>fd&1 == 1 {
				closes(t, f, 1, fd, thing(fd), true)
				want[fd] = api.Opened{}
			}
		}
		has(t, f, 1, want...)
		for fd := range 8 {
			if want[fd] != (api.Opened{}) {
				continue
			}
			if fd%2 == 1 && fd < 7 && want[fd+1] != (api.Opened{}) {
				dups(t, f, 1, fd+1, fd, api.OK)
				want[fd] = want[fd+1]
			} else {
				opens(t, f, 1, thing(20+fd), fd, api.OK)
				want[fd] = thing(20 + fd)
			}
			has(t, f, 1, want...)
		}
		opens(t, f, 1, thing(30), 0, api.ErrFds)
		has(t, f, 1, want...)
	}
}

func TestDescriptorsThatAreFree(t *testing.T) {
	f := New()
	for fd := range 8 {
		refuses(t, f, 1, fd, api.ErrFd)
	}
	opens(t, f, 1, thing(0), 0, api.OK)
	opens(t, f, 1, thing(1), 1, api.OK)
	opens(t, f, 1, thing(2), 2, api.OK)
	closes(t, f, 1, 1, thing(1), true)
	for _, fd := range append([]int{1, 3, 4, 5, 6, 7}, wrongFds...) {
		refuses(t, f, 1, fd, api.ErrFd)
	}
	for fd := range 8 {
		refuses(t, f, 2, fd, api.ErrFd)
	}
	has(t, f, 1, thing(0), api.Opened{}, thing(2))
	counts(t, f, 2)
}

func TestNumbersThatAreNoDescriptors(t *testing.T) {
	f := filled(t, 32)
	for pid := 1; pid <= 5; pid++ {
		for _, fd := range wrongFds {
			refuses(t, f, pid, fd, api.ErrFd)
		}
	}
	for pid := 1; pid <= 4; pid++ {
		has(t, f, pid, eight(pid)...)
	}
	counts(t, f, 32)
}

func TestFirstAndLastDescriptor(t *testing.T) {
	for _, fd := range []int{0, 7} {
		f, want := filled(t, 8), eight(1)
		closes(t, f, 1, fd, thing(fd), true)
		refuses(t, f, 1, fd, api.ErrFd)
		dups(t, f, 1, 7-fd, fd, api.OK)
		want[fd] = thing(7 - fd)
		has(t, f, 1, want...)
		closes(t, f, 1, 7-fd, thing(7-fd), false)
		opens(t, f, 1, thing(9), 7-fd, api.OK)
		want[7-fd] = thing(9)
		has(t, f, 1, want...)
		closes(t, f, 1, fd, thing(7-fd), true)
		counts(t, f, 7)
	}
}

func TestFullTableOfFiles(t *testing.T) {
	f := filled(t, 31)
	opens(t, f, 5, thing(31), 0, api.OK)
	counts(t, f, 32)
	for _, pid := range []int{4, 5, 6, math.MaxInt} {
		opens(t, f, pid, thing(32), 0, api.ErrFiles)
	}
	counts(t, f, 32)
	has(t, f, 4, eight(4)[:7]...)
	has(t, f, 5, thing(31))
	has(t, f, 6)
}

// Whichever of the 32 is gone, one more may be opened, by anybody.
func TestFullTableOfWhichOneIsGone(t *testing.T) {
	for k := range 32 {
		f := filled(t, 32)
		pid, fd := 1+k/8, k%8
		opens(t, f, 9, thing(50), 0, api.ErrFiles)
		closes(t, f, pid, fd, thing(k), true)
		counts(t, f, 31)
		opens(t, f, 9, thing(50), 0, api.OK)
		opens(t, f, 9, thing(51), 0, api.ErrFiles)
		opens(t, f, pid, thing(52), 0, api.ErrFiles)
		closes(t, f, 9, 0, thing(50), true)
		opens(t, f, pid, thing(53), fd, api.OK)
		opens(t, f, 9, thing(54), 0, api.ErrFiles)
		want := eight(pid)
		want[fd] = thing(53)
		has(t, f, pid, want...)
		counts(t, f, 32)
	}
}

// All that Drop closes may be opened again.
func TestFullTableOfWhichEightAreGone(t *testing.T) {
	for pid := 1; pid <= 4; pid++ {
		f := filled(t, 32)
		drops(t, f, pid, eight(pid)...)
		counts(t, f, 24)
		for k := range 8 {
			opens(t, f, 10+k, thing(40+k), 0, api.OK)
		}
		opens(t, f, pid, thing(60), 0, api.ErrFiles)
		for k := range 8 {
			has(t, f, 10+k, thing(40+k))
		}
	}
}

// It is open files of which there are 32 at most, not descriptors.
func TestFarMoreDescriptorsThanOpenFiles(t *testing.T) {
	f, o := New(), thing(0)
	opens(t, f, 1, o, 0, api.OK)
	for fd := 1; fd < 8; fd++ {
		dups(t, f, 1, 0, fd, api.OK)
	}
	for pid := 2; pid <= 1000; pid++ {
		is(t, f.Fork(pid-1, pid), api.OK)
	}
	counts(t, f, 1)
	for k := range 31 {
		opens(t, f, 1001+k, thing(k), 0, api.OK)
	}
	counts(t, f, 32)
	opens(t, f, 2000, o, 0, api.ErrFiles)
	dups(t, f, 1001, 0, 1, api.OK)
	is(t, f.Fork(1001, 2000), api.OK)
	counts(t, f, 32)
	for pid := 1; pid < 1000; pid++ {
		drops(t, f, pid)
	}
	opens(t, f, 3000, o, 0, api.ErrFiles)
	drops(t, f, 1000, o)
	opens(t, f, 3000, o, 0, api.OK)
	opens(t, f, 3000, o, 0, api.ErrFiles)
}

// A full table does not keep anybody from duplicating and forking.
func TestDuplicatingInAFullTable(t *testing.T) {
	f := filled(t, 32)
	closes(t, f, 4, 2, thing(26), true)
	opens(t, f, 5, thing(40), 0, api.OK)
	dups(t, f, 4, 7, 2, api.OK)
	dups(t, f, 5, 0, 1, api.OK)
	is(t, f.Fork(1, 6), api.OK)
	has(t, f, 6, eight(1)...)
	counts(t, f, 32)
}

func TestOrderOfErrors(t *testing.T) {
	f := filled(t, 32)
	wrong := api.Opened{Kind: 0, Thing: -1}
	opens(t, f, 0, wrong, 0, api.ErrArg)
	opens(t, f, 1, wrong, 0, api.ErrArg)
	opens(t, f, 5, wrong, 0, api.ErrArg)
	opens(t, f, 1, thing(0), 0, api.ErrFds)
	opens(t, f, 5, thing(0), 0, api.ErrFiles)
	refuses(t, f, 0, 8, api.ErrArg)
	dups(t, f, 1, 8, 0, api.ErrFd)
	dups(t, f, 1, -1, 0, api.ErrFd)
	dups(t, f, 1, 0, 0, api.ErrFds)
	dups(t, f, 5, 0, 0, api.ErrFd)
	for pid := 1; pid <= 4; pid++ {
		has(t, f, pid, eight(pid)...)
	}
	has(t, f, 5)
	counts(t, f, 32)
}

// Whichever descriptor of an open file is the last one, it alone tells that it is gone.
func TestGoneWithTheLastOne(t *testing.T) {
	for last := range 4 {
		f, o := New(), thing(6)
		opens(t, f, 1, o, 0, api.OK)
		for k := range 3 {
			dups(t, f, 1, k, k+1, api.OK)
		}
		for fd := range 4 {
			if fd != last {
				closes(t, f, 1, fd, o, false)
				counts(t, f, 1)
			}
		}
		closes(t, f, 1, last, o, true)
		counts(t, f, 0)
		for fd := range 4 {
			refuses(t, f, 1, fd, api.ErrFd)
		}
	}
}

// Likewise, if they are several people's.
func TestGoneWithTheLastOneOfSeveral(t *testing.T) {
	all := []desc{{1, 0}, {1, 1}, {2, 0}, {2, 1}, {3, 0}, {3, 1}}
	for last := range all {
		f, o := New(), thing(6)
		opens(t, f, 1, o, 0, api.OK)
		dups(t, f, 1, 0, 1, api.OK)
		is(t, f.Fork(1, 2), api.OK)
		is(t, f.Fork(2, 3), api.OK)
		counts(t, f, 1)
		for k := range len(all) - 1 {
			d := all[(last+1+k)%len(all)]
			closes(t, f, d.pid, d.fd, o, false)
			counts(t, f, 1)
		}
		closes(t, f, all[last].pid, all[last].fd, o, true)
		counts(t, f, 0)
	}
}

func TestTheSameThingTwice(t *testing.T) {
	f, o := New(), thing(3)
	opens(t, f, 1, o, 0, api.OK)
	opens(t, f, 1, o, 1, api.OK)
	opens(t, f, 2, o, 0, api.OK)
	counts(t, f, 3)
	dups(t, f, 1, 1, 2, api.OK)
	counts(t, f, 3)
	closes(t, f, 1, 0, o, true)
	counts(t, f, 2)
	closes(t, f, 1, 1, o, false)
	closes(t, f, 2, 0, o, true)
	closes(t, f, 1, 2, o, true)
	counts(t, f, 0)
}

// A reader and a writer of one thing are two things.
func TestReaderAndWriter(t *testing.T) {
	f := New()
	r, w := api.Opened{Kind: api.KindReader, Thing: 0}, api.Opened{Kind: api.KindWriter, Thing: 0}
	opens(t, f, 1, r, 0, api.OK)
	opens(t, f, 1, w, 1, api.OK)
	is(t, f.Fork(1, 2), api.OK)
	closes(t, f, 1, 0, r, false)
	closes(t, f, 2, 1, w, false)
	has(t, f, 1, api.Opened{}, w)
	has(t, f, 2, r)
	drops(t, f, 2, r)
	drops(t, f, 1, w)
}

// Somebody who has closed all may open again, and has nothing of what was.
func TestOpeningAgain(t *testing.T) {
	f := New()
	for k := range 200 {
		fd := k % 5
		for n := range fd + 1 {
			opens(t, f, 1, thing(k+n), n, api.OK)
		}
		for n := range fd {
			closes(t, f, 1, n, thing(k+n), true)
		}
		counts(t, f, 1)
		closes(t, f, 1, fd, thing(k+fd), true)
		has(t, f, 1)
		counts(t, f, 0)
	}
}

// P9.2

func TestFork(t *testing.T) {
	f := New()
	opens(t, f, 1, thing(0), 0, api.OK)
	opens(t, f, 1, thing(1), 1, api.OK)
	dups(t, f, 1, 0, 2, api.OK)
	opens(t, f, 1, thing(3), 3, api.OK)
	closes(t, f, 1, 1, thing(1), true)
	is(t, f.Fork(1, 7), api.OK)
	for _, pid := range []int{1, 7} {
		has(t, f, pid, thing(0), api.Opened{}, thing(0), thing(3))
	}
	counts(t, f, 2)
	opens(t, f, 7, thing(9), 1, api.OK)
	has(t, f, 1, thing(0), api.Opened{}, thing(0), thing(3))
	counts(t, f, 3)
}

func TestForkOfAllEight(t *testing.T) {
	f := filled(t, 8)
	is(t, f.Fork(1, math.MaxInt), api.OK)
	has(t, f, math.MaxInt, eight(1)...)
	counts(t, f, 8)
	drops(t, f, 1)
	counts(t, f, 8)
	has(t, f, math.MaxInt, eight(1)...)
	drops(t, f, math.MaxInt, eight(1)...)
	counts(t, f, 0)
}

func TestForkToOneWhoHasDescriptors(t *testing.T) {
	for fd := range 8 {
		f := New()
		opens(t, f, 1, thing(0), 0, api.OK)
		for k := range 8 {
			opens(t, f, 2, thing(10+k), k, api.OK)
		}
		for k := range 8 {
			if k != fd {
				closes(t, f, 2, k, thing(10+k), true)
			}
		}
		is(t, f.Fork(1, 2), api.ErrArg)
		is(t, f.Fork(3, 2), api.ErrArg)
		has(t, f, 1, thing(0))
		counts(t, f, 2)
		closes(t, f, 2, fd, thing(10+fd), true)
		is(t, f.Fork(1, 2), api.OK)
		has(t, f, 2, thing(0))
		is(t, f.Fork(1, 2), api.ErrArg)
		counts(t, f, 1)
	}
}

func TestForkToOneself(t *testing.T) {
	f := New()
	is(t, f.Fork(1, 1), api.OK)
	has(t, f, 1)
	opens(t, f, 1, thing(0), 0, api.OK)
	is(t, f.Fork(1, 1), api.ErrArg)
	counts(t, f, 1)
	has(t, f, 1, thing(0))
	closes(t, f, 1, 0, thing(0), true)
	is(t, f.Fork(1, 1), api.OK)
	counts(t, f, 0)
}

func TestForkOfAParentThatHasNone(t *testing.T) {
	f := New()
	is(t, f.Fork(1, 2), api.OK)
	is(t, f.Fork(1, 2), api.OK)
	has(t, f, 2)
	counts(t, f, 0)
	opens(t, f, 2, thing(0), 0, api.OK)
	is(t, f.Fork(1, 2), api.ErrArg)
	is(t, f.Fork(2, 1), api.OK)
	has(t, f, 1, thing(0))
	closes(t, f, 2, 0, thing(0), false)
	is(t, f.Fork(2, 3), api.OK)
	has(t, f, 3)
	counts(t, f, 1)
}

// A child that dropped all has none, and may be forked to again.
func TestForkAgain(t *testing.T) {
	f := New()
	opens(t, f, 1, thing(0), 0, api.OK)
	dups(t, f, 1, 0, 1, api.OK)
	for range 100 {
		is(t, f.Fork(1, 2), api.OK)
		is(t, f.Fork(1, 2), api.ErrArg)
		drops(t, f, 2)
		has(t, f, 2)
		counts(t, f, 1)
	}
	closes(t, f, 1, 0, thing(0), false)
	closes(t, f, 1, 1, thing(0), true)
}

func TestDropOfOneThatHasNone(t *testing.T) {
	f := filled(t, 16)
	for _, pid := range append([]int{3, 4, 100, 1<<32 + 1, math.MaxInt}, nobodies...) {
		drops(t, f, pid)
		drops(t, f, pid)
	}
	has(t, f, 1, eight(1)...)
	has(t, f, 2, eight(2)...)
	counts(t, f, 16)
	drops(t, f, 1, eight(1)...)
	drops(t, f, 1)
	has(t, f, 1)
	has(t, f, 2, eight(2)...)
}

// An open file is told where its last descriptor stands, not its first.
func TestDropOfDuplicates(t *testing.T) {
	a, b, c := thing(1), thing(2), thing(3)
	f := New()
	opens(t, f, 1, a, 0, api.OK)
	opens(t, f, 1, b, 1, api.OK)
	dups(t, f, 1, 0, 2, api.OK)
	opens(t, f, 1, c, 3, api.OK)
	drops(t, f, 1, b, a, c)
	counts(t, f, 0)
	opens(t, f, 1, a, 0, api.OK)
	dups(t, f, 1, 0, 1, api.OK)
	dups(t, f, 1, 1, 2, api.OK)
	drops(t, f, 1, a)
	counts(t, f, 0)
}

// What is gone is told in the order of the descriptors, not in that of the opening.
func TestDropInTheOrderOfDescriptors(t *testing.T) {
	f := filled(t, 8)
	for _, fd := range []int{5, 0, 2} {
		closes(t, f, 1, fd, thing(fd), true)
	}
	opens(t, f, 2, thing(30), 0, api.OK)
	opens(t, f, 1, thing(31), 0, api.OK)
	opens(t, f, 1, thing(32), 2, api.OK)
	opens(t, f, 1, thing(33), 5, api.OK)
	closes(t, f, 1, 3, thing(3), true)
	drops(t, f, 1, thing(31), thing(1), thing(32), thing(4), thing(33), thing(6), thing(7))
	counts(t, f, 1)
	has(t, f, 1)
	has(t, f, 2, thing(30))
}

func TestDropOfWhatOthersHave(t *testing.T) {
	a, b, c := thing(1), thing(2), thing(3)
	f := New()
	opens(t, f, 1, a, 0, api.OK)
	opens(t, f, 1, b, 1, api.OK)
	is(t, f.Fork(1, 2), api.OK)
	opens(t, f, 1, c, 2, api.OK)
	dups(t, f, 1, 1, 3, api.OK)
	closes(t, f, 2, 0, a, false)
	drops(t, f, 1, a, c)
	counts(t, f, 1)
	has(t, f, 1)
	has(t, f, 2, api.Opened{}, b)
	drops(t, f, 2, b)
	counts(t, f, 0)
}

// The same thing opened thrice is three open files: each is told.
func TestDropOfTheSameThing(t *testing.T) {
	f, o := New(), thing(0)
	for fd := range 3 {
		opens(t, f, 1, o, fd, api.OK)
	}
	opens(t, f, 2, o, 0, api.OK)
	drops(t, f, 1, o, o, o)
	counts(t, f, 1)
	drops(t, f, 2, o)
}

func TestWhatIsAnsweredIsNew(t *testing.T) {
	f := New()
	for pid := 1; pid <= 3; pid++ {
		for fd := range 5 {
			opens(t, f, pid, thing(pid*10+fd), fd, api.OK)
		}
	}
	first := f.Drop(1)
	spoil(first)
	has(t, f, 2, thing(20), thing(21), thing(22), thing(23), thing(24))
	second := f.Drop(2)
	kept := slices.Clone(second)
	spoil(first)
	opens(t, f, 1, thing(40), 0, api.OK)
	third := f.Drop(3)
	spoil(third)
	if !slices.Equal(second, kept) || len(kept) != 5 {
		t.Errorf("%v, not %v", second, kept)
	}
	has(t, f, 1, thing(40))
	counts(t, f, 1)
}

// spoil writes into a list, and its spare room.
func spoil(l []api.Opened) {
	l = l[:cap(l)]
	for k := range l {
		l[k] = thing(999)
	}
}

// P9.3

func TestNobodyElsesDescriptors(t *testing.T) {
	f := New()
	opens(t, f, 1, thing(0), 0, api.OK)
	opens(t, f, 1, thing(1), 1, api.OK)
	is(t, f.Fork(1, 2), api.OK)
	is(t, f.Fork(2, 3), api.OK)
	closes(t, f, 2, 0, thing(0), false)
	opens(t, f, 2, thing(5), 0, api.OK)
	dups(t, f, 2, 0, 2, api.OK)
	opens(t, f, 3, thing(6), 2, api.OK)
	drops(t, f, 1)
	opens(t, f, 1, thing(7), 0, api.OK)
	has(t, f, 1, thing(7))
	has(t, f, 2, thing(5), thing(1), thing(5))
	has(t, f, 3, thing(0), thing(1), thing(6))
	counts(t, f, 5)
	drops(t, f, 2, thing(5))
	has(t, f, 3, thing(0), thing(1), thing(6))
	drops(t, f, 3, thing(0), thing(1), thing(6))
	has(t, f, 1, thing(7))
}

// Many fork and end in turn; the open file is gone with the last of them alone.
func TestGenerations(t *testing.T) {
	f := New()
	opens(t, f, 1, thing(0), 0, api.OK)
	opens(t, f, 1, thing(1), 1, api.OK)
	for pid := 1; pid < 3000; pid++ {
		is(t, f.Fork(pid, pid+1), api.OK)
		closes(t, f, pid, pid%2, thing(pid%2), false)
		drops(t, f, pid)
		has(t, f, pid)
		has(t, f, pid+1, thing(0), thing(1))
		counts(t, f, 2)
	}
	drops(t, f, 3000, thing(0), thing(1))
	counts(t, f, 0)
}

// Of who has no descriptor any more nothing is kept, however many there were.
func TestNothingIsKeptOfWhatIsGone(t *testing.T) {
	f := New()
	for pid := 1; pid <= 500; pid++ {
		opens(t, f, pid, thing(pid), 0, api.OK)
		dups(t, f, pid, 0, 1, api.OK)
		is(t, f.Fork(pid+1000, pid+2000), api.OK)
		if pid%2 == 0 {
			drops(t, f, pid, thing(pid))
			continue
		}
		closes(t, f, pid, 0, thing(pid), false)
		closes(t, f, pid, 1, thing(pid), true)
	}
	if len(f.of) != 0 || f.open != New().open {
		t.Errorf("%d people, open files %v", len(f.of), f.open)
	}
}
