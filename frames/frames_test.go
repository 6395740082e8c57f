package frames

import (
	"math"
	"math/rand"
	"strings"
	"testing"

	"taffrail/api"
)

var blank = strings.Repeat("\x00", api.FrameSize)

func newMem(t *testing.T, total int) *Mem {
	t.Helper()
	m, e := New(total)
	if m == nil || e != api.OK {
		t.Fatalf("New(%d): %v, %d", total, m, e)
	}
	return m
}

// newUsed is a memory of which the first used frames are allocated.
func newUsed(t *testing.T, total, used int) *Mem {
	t.Helper()
	m := newMem(t, total)
	for k := range used {
		wantAlloc(t, m, k, api.OK)
	}
	return m
}

func wantAlloc(t *testing.T, m *Mem, number int, want api.Errno) {
	t.Helper()
	if k, e := m.Alloc(); k != number || e != want {
		t.Errorf("Alloc: %d, %d; want %d, %d", k, e, number, want)
	}
}

func wantRead(t *testing.T, m *Mem, frame, at, n int, text string, want api.Errno) {
	t.Helper()
	if s, e := m.Read(frame, at, n); s != text || e != want {
		t.Errorf("Read(%d, %d, %d): %q, %d; want %q, %d", frame, at, n, s, e, text, want)
	}
}

func wantErrno(t *testing.T, what string, got, want api.Errno) {
	t.Helper()
	if got != want {
		t.Errorf("%s: %d; want %d", what, got, want)
	}
}

func wantNumber(t *testing.T, what string, got, want int) {
	t.Helper()
	if got != want {
		t.Errorf("%s: %d; want %d", what, got, want)
	}
}

// noFrames are numbers that are of no frame in use, in a memory of three frames whose frame 2 is not in use.
var noFrames = []int{math.MinInt, -257, -1, 2, 3, 255, 256, 1 << 16, 1 << 32, math.MaxInt}

// P1.1

func TestNewCounts(t *testing.T) {
	for _, n := range []int{1, 2, 64, 255, 256} {
		m := newMem(t, n)
		wantNumber(t, "Total", m.Total(), n)
		wantNumber(t, "Left", m.Left(), n)
		for k := range n {
			wantNumber(t, "Refs", m.Refs(k), 0)
		}
	}
}

func TestNewRefuses(t *testing.T) {
	for _, n := range []int{math.MinInt, -256, -1, 0, 257, 1 << 32, math.MaxInt} {
		if m, e := New(n); m != nil || e != api.ErrArg {
			t.Errorf("New(%d): %v, %d", n, m, e)
		}
	}
}

func TestMemoriesAreApart(t *testing.T) {
	one, two := newUsed(t, 2, 1), newUsed(t, 2, 1)
	wantErrno(t, "Write", one.Write(0, 0, "one"), api.OK)
	wantErrno(t, "Share", one.Share(0), api.OK)
	wantRead(t, two, 0, 0, 3, "\x00\x00\x00", api.OK)
	wantNumber(t, "Refs", two.Refs(0), 1)
}

func TestAllocTakesTheFirst(t *testing.T) {
	m := newUsed(t, 256, 256)
	wantAlloc(t, m, 0, api.ErrMem)
	for _, k := range []int{200, 3, 255, 0} {
		wantErrno(t, "Free", m.Free(k), api.OK)
	}
	for _, k := range []int{0, 3, 200, 255} {
		wantAlloc(t, m, k, api.OK)
		wantNumber(t, "Refs", m.Refs(k), 1)
	}
	wantAlloc(t, m, 0, api.ErrMem)
	wantNumber(t, "Left", m.Left(), 0)
}

func TestAllocOfTwo(t *testing.T) {
	m := newUsed(t, 2, 2)
	wantAlloc(t, m, 0, api.ErrMem)
	wantErrno(t, "Free", m.Free(0), api.OK)
	wantAlloc(t, m, 0, api.OK)
}

func TestAllocOfOne(t *testing.T) {
	m := newUsed(t, 1, 1)
	wantAlloc(t, m, 0, api.ErrMem)
	wantErrno(t, "Free", m.Free(0), api.OK)
	wantAlloc(t, m, 0, api.OK)
}

func TestAllocGivesBlankBytes(t *testing.T) {
	m := newUsed(t, 2, 1)
	wantRead(t, m, 0, 0, 64, blank, api.OK)
	for _, at := range []int{0, 31, 63} {
		wantErrno(t, "Write", m.Write(0, at, "x"), api.OK)
		wantErrno(t, "Free", m.Free(0), api.OK)
		wantAlloc(t, m, 0, api.OK)
		wantRead(t, m, 0, 0, 64, blank, api.OK)
	}
}

func TestShareUpToTheMost(t *testing.T) {
	m := newUsed(t, 2, 2)
	wantErrno(t, "Write", m.Write(0, 5, "kept"), api.OK)
	for n := 1; n < 1000; n++ {
		wantNumber(t, "Refs", m.Refs(0), n)
		wantErrno(t, "Share", m.Share(0), api.OK)
	}
	for range 3 {
		wantErrno(t, "Share at 1000", m.Share(0), api.ErrArg)
		wantNumber(t, "Refs", m.Refs(0), 1000)
	}
	wantNumber(t, "Refs of the other", m.Refs(1), 1)
	for n := 1000; n > 0; n-- {
		wantNumber(t, "Refs", m.Refs(0), n)
		wantRead(t, m, 0, 5, 4, "kept", api.OK)
		wantErrno(t, "Free", m.Free(0), api.OK)
	}
	wantErrno(t, "Free of none", m.Free(0), api.ErrFrame)
	wantNumber(t, "Refs", m.Refs(0), 0)
	wantNumber(t, "Left", m.Left(), 1)
}

func TestShareAgainBelowTheMost(t *testing.T) {
	m := newUsed(t, 1, 1)
	for range 999 {
		m.Share(0)
	}
	wantErrno(t, "Free", m.Free(0), api.OK)
	wantErrno(t, "Share", m.Share(0), api.OK)
	wantErrno(t, "Share", m.Share(0), api.ErrArg)
}

func TestFramesNotInUse(t *testing.T) {
	m := newUsed(t, 3, 2)
	for _, k := range noFrames {
		wantErrno(t, "Share", m.Share(k), api.ErrFrame)
		wantErrno(t, "Free", m.Free(k), api.ErrFrame)
		wantErrno(t, "Write", m.Write(k, 0, "x"), api.ErrFrame)
		wantErrno(t, "Write of nothing", m.Write(k, 0, ""), api.ErrFrame)
		wantRead(t, m, k, 0, 1, "", api.ErrFrame)
		wantRead(t, m, k, 0, 0, "", api.ErrFrame)
		wantNumber(t, "Refs", m.Refs(k), 0)
	}
	wantNumber(t, "Left", m.Left(), 1)
	wantAlloc(t, m, 2, api.OK)
	wantRead(t, m, 2, 0, 64, blank, api.OK)
}

func TestFrameIsAskedAheadOfPlace(t *testing.T) {
	m := newUsed(t, 3, 2)
	for _, k := range noFrames {
		wantRead(t, m, k, -1, 65, "", api.ErrFrame)
		wantErrno(t, "Write", m.Write(k, -1, "x"), api.ErrFrame)
	}
}

func TestNilMemory(t *testing.T) {
	var m *Mem
	wantAlloc(t, m, 0, api.ErrNil)
	for _, k := range []int{math.MinInt, -1, 0, 1, 256, math.MaxInt} {
		wantErrno(t, "Share", m.Share(k), api.ErrNil)
		wantErrno(t, "Free", m.Free(k), api.ErrNil)
		wantErrno(t, "Write", m.Write(k, -1, "x"), api.ErrNil)
		wantRead(t, m, k, 65, -1, "", api.ErrNil)
		wantNumber(t, "Refs", m.Refs(k), 0)
	}
	wantNumber(t, "Left", m.Left(), 0)
	wantNumber(t, "Total", m.Total(), 0)
}

// A memory that no call gave has no frames; it must not panic (R1).
func TestMemoryThatNoCallGave(t *testing.T) {
	m := new(Mem)
	wantAlloc(t, m, 0, api.ErrMem)
	wantErrno(t, "Share", m.Share(0), api.ErrFrame)
	wantErrno(t, "Free", m.Free(-1), api.ErrFrame)
	wantErrno(t, "Write", m.Write(0, 0, ""), api.ErrFrame)
	wantRead(t, m, 0, 0, 0, "", api.ErrFrame)
	wantNumber(t, "Left", m.Left(), 0)
	wantNumber(t, "Total", m.Total(), 0)
}

// P1.2

func TestReadPlaces(t *testing.T) {
	m := newUsed(t, 1, 1)
	text := strings.Repeat("0123456789abcdef", 4)
	wantErrno(t, "Write", m.Write(0, 0, text), api.OK)
	for at := -2; at <= 66; at++ {
		for n := -2; n <= 66; n++ {
			if at >= 0 && n >= 0 && at+n <= 64 {
				wantRead(t, m, 0, at, n, text[at:at+n], api.OK)
			} else {
				wantRead(t, m, 0, at, n, "", api.ErrArg)
			}
		}
	}
}

func TestReadFarPlaces(t *testing.T) {
	m := newUsed(t, 1, 1)
	far := []int{math.MinInt, math.MinInt + 64, math.MinInt32, math.MaxInt32, 1 << 32, math.MaxInt - 64, math.MaxInt}
	for _, at := range far {
		for _, n := range append([]int{0, 1, 64}, far...) {
			wantRead(t, m, 0, at, n, "", api.ErrArg)
			wantRead(t, m, 0, n, at, "", api.ErrArg)
		}
		wantErrno(t, "Write", m.Write(0, at, ""), api.ErrArg)
		wantErrno(t, "Write", m.Write(0, at, "x"), api.ErrArg)
	}
	wantRead(t, m, 0, 0, 64, blank, api.OK)
}

func TestWritePlaces(t *testing.T) {
	for at := -2; at <= 66; at++ {
		for n := range 67 {
			m := newUsed(t, 1, 1)
			text := strings.Repeat("\xff", n)
			e := m.Write(0, at, text)
			if at >= 0 && at+n <= 64 {
				wantErrno(t, "Write", e, api.OK)
				wantRead(t, m, 0, 0, 64, blank[:at]+text+blank[at+n:], api.OK)
			} else {
				wantErrno(t, "Write", e, api.ErrArg)
				wantRead(t, m, 0, 0, 64, blank, api.OK)
			}
		}
	}
}

func TestWriteOfALongText(t *testing.T) {
	m := newUsed(t, 2, 2)
	wantErrno(t, "Write", m.Write(0, 0, strings.Repeat("x", 1<<16)), api.ErrArg)
	wantRead(t, m, 0, 0, 64, blank, api.OK)
	wantRead(t, m, 1, 0, 64, blank, api.OK)
}

func TestWriteOver(t *testing.T) {
	m := newUsed(t, 1, 1)
	wantErrno(t, "Write", m.Write(0, 2, "abcdef"), api.OK)
	wantErrno(t, "Write", m.Write(0, 4, "\x00\xff"), api.OK)
	wantRead(t, m, 0, 0, 10, "\x00\x00ab\x00\xffef\x00\x00", api.OK)
	wantErrno(t, "Write", m.Write(0, 3, ""), api.OK)
	wantErrno(t, "Write", m.Write(0, 64, ""), api.OK)
	wantRead(t, m, 0, 0, 10, "\x00\x00ab\x00\xffef\x00\x00", api.OK)
}

func TestCounts(t *testing.T) {
	m := newUsed(t, 4, 3)
	wantErrno(t, "Share", m.Share(1), api.OK)
	for k, n := range []int{1, 2, 1, 0, 0} {
		wantNumber(t, "Refs", m.Refs(k), n)
	}
	wantNumber(t, "Left", m.Left(), 1)
	wantErrno(t, "Free", m.Free(1), api.OK)
	wantNumber(t, "Left", m.Left(), 1)
	wantErrno(t, "Free", m.Free(1), api.OK)
	wantNumber(t, "Left", m.Left(), 2)
	wantNumber(t, "Total", m.Total(), 4)
}

// P1.3

func TestKeptUntilFreedByAll(t *testing.T) {
	m := newUsed(t, 3, 2)
	wantErrno(t, "Write", m.Write(0, 0, "zero"), api.OK)
	wantErrno(t, "Write", m.Write(1, 60, "one!"), api.OK)
	wantErrno(t, "Share", m.Share(1), api.OK)
	wantErrno(t, "Free", m.Free(1), api.OK)
	wantAlloc(t, m, 2, api.OK)
	wantRead(t, m, 1, 60, 4, "one!", api.OK)
	wantErrno(t, "Free", m.Free(1), api.OK)
	wantRead(t, m, 1, 60, 4, "", api.ErrFrame)
	wantAlloc(t, m, 1, api.OK)
	wantRead(t, m, 1, 0, 64, blank, api.OK)
	wantRead(t, m, 0, 0, 4, "zero", api.OK)
	wantRead(t, m, 2, 0, 64, blank, api.OK)
}

// What is answered stays as it was, whatever is written later (R3).
func TestReadIsItsOwn(t *testing.T) {
	m := newUsed(t, 1, 1)
	m.Write(0, 0, "before")
	s, _ := m.Read(0, 0, 6)
	m.Write(0, 0, "behind")
	if s != "before" {
		t.Errorf("what was read became %q", s)
	}
}

// A model tells the same of a memory in another way: references and bytes by frame, apart.
type model struct {
	refs []int
	data []string
}

func (w *model) alloc() (int, api.Errno) {
	for k, n := range w.refs {
		if n == 0 {
			w.refs[k], w.data[k] = 1, blank
			return k, api.OK
		}
	}
	return 0, api.ErrMem
}

func (w *model) used(k int) bool { return k >= 0 && k < len(w.refs) && w.refs[k] > 0 }

func (w *model) share(k int) api.Errno {
	if !w.used(k) {
		return api.ErrFrame
	}
	if w.refs[k] == 1000 {
		return api.ErrArg
	}
	w.refs[k]++
	return api.OK
}

func (w *model) free(k int) api.Errno {
	if !w.used(k) {
		return api.ErrFrame
	}
	w.refs[k]--
	return api.OK
}

func (w *model) write(k, at int, s string) api.Errno {
	if !w.used(k) {
		return api.ErrFrame
	}
	if at < 0 || at+len(s) > 64 {
		return api.ErrArg
	}
	w.data[k] = w.data[k][:at] + s + w.data[k][at+len(s):]
	return api.OK
}

func wantModel(t *testing.T, m *Mem, w *model) {
	t.Helper()
	left := 0
	for k, n := range w.refs {
		wantNumber(t, "Refs", m.Refs(k), n)
		if n == 0 {
			left++
			wantRead(t, m, k, 0, 64, "", api.ErrFrame)
		} else {
			wantRead(t, m, k, 0, 64, w.data[k], api.OK)
		}
	}
	wantNumber(t, "Left", m.Left(), left)
	wantNumber(t, "Total", m.Total(), len(w.refs))
}

func TestAgainstModel(t *testing.T) {
	for _, total := range []int{1, 2, 5, 17} {
		r := rand.New(rand.NewSource(int64(total)))
		m := newMem(t, total)
		w := &model{refs: make([]int, total), data: make([]string, total)}
		for range 3000 {
			k := r.Intn(total+2) - 1
			switch r.Intn(5) {
			case 0:
				number, e := w.alloc()
				wantAlloc(t, m, number, e)
			case 1:
				wantErrno(t, "Share", m.Share(k), w.share(k))
			case 2, 3:
				wantErrno(t, "Free", m.Free(k), w.free(k))
			case 4:
				at, s := r.Intn(68)-2, strings.Repeat(string(rune('a'+r.Intn(26))), r.Intn(20))
				wantErrno(t, "Write", m.Write(k, at, s), w.write(k, at, s))
			}
			wantModel(t, m, w)
			if t.Failed() {
				t.FailNow()
			}
		}
	}
}
