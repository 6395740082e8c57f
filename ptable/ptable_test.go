package ptable

import (
	"math"
	"math/rand"
	"slices"
	"strings"
	"testing"

	"taffrail/api"
	"taffrail/frames"
)

var blank = strings.Repeat("\x00", api.FrameSize)

// farNumbers are below 0 or past 255: neither pages nor frames, whatever is cut from them.
var farNumbers = []int{math.MinInt, math.MinInt32, -256, -255, -17, -16, -1, 256, 257, 272, 65535, 1 << 16, 1 << 32, 1<<32 + 1, math.MaxInt - 15, math.MaxInt}

func newMem(t *testing.T, total int) *frames.Mem {
	t.Helper()
	m, e := frames.New(total)
	if e != api.OK {
		t.Fatalf("frames.New(%d): %d", total, e)
	}
	return m
}

// newRoot is a memory of so many frames, whose frame 0 is a root.
func newRoot(t *testing.T, total int) *frames.Mem {
	t.Helper()
	m := newMem(t, total)
	if root, e := New(m); root != 0 || e != api.OK {
		t.Fatalf("New: %d, %d", root, e)
	}
	return m
}

func wantMap(t *testing.T, m *frames.Mem, root, page, frame, flags int, want api.Errno) {
	t.Helper()
	if e := Map(m, root, page, frame, flags); e != want {
		t.Errorf("Map(%d, %d, %d, %d): %d; want %d", root, page, frame, flags, e, want)
	}
}

func wantWalk(t *testing.T, m *frames.Mem, root, page, frame, flags int, want api.Errno) {
	t.Helper()
	if f, g, e := Walk(m, root, page); f != frame || g != flags || e != want {
		t.Errorf("Walk(%d, %d): %d, %d, %d; want %d, %d, %d", root, page, f, g, e, frame, flags, want)
	}
}

func wantUnmap(t *testing.T, m *frames.Mem, root, page, frame int, want api.Errno) {
	t.Helper()
	if f, e := Unmap(m, root, page); f != frame || e != want {
		t.Errorf("Unmap(%d, %d): %d, %d; want %d, %d", root, page, f, e, frame, want)
	}
}

func wantPages(t *testing.T, m *frames.Mem, root int, want api.Errno, pages ...int) {
	t.Helper()
	if l, e := Pages(m, root); !slices.Equal(l, pages) || e != want {
		t.Errorf("Pages(%d): %v, %d; want %v, %d", root, l, e, pages, want)
	}
}

func wantDrop(t *testing.T, m *frames.Mem, root int, want api.Errno) {
	t.Helper()
	if e := Drop(m, root); e != want {
		t.Errorf("Drop(%d): %d; want %d", root, e, want)
	}
}

func wantLeft(t *testing.T, m *frames.Mem, left int) {
	t.Helper()
	if n := m.Left(); n != left {
		t.Errorf("frames left: %d; want %d", n, left)
	}
}

func wantBytes(t *testing.T, m *frames.Mem, frame, at int, text string) {
	t.Helper()
	if s, e := m.Read(frame, at, len(text)); s != text || e != api.OK {
		t.Errorf("bytes of frame %d from %d on: %x, %d; want %x", frame, at, s, e, text)
	}
}

// look is all that a memory tells: references and bytes, frame by frame.
func look(m *frames.Mem) []string {
	var l []string
	for k := range m.Total() {
		s, _ := m.Read(k, 0, api.FrameSize)
		l = append(l, strings.Repeat("r", m.Refs(k))+" "+s)
	}
	return l
}

// wantSame does something, and wants the memory to be as it was before.
func wantSame(t *testing.T, m *frames.Mem, do func()) {
	t.Helper()
	before := look(m)
	do()
	if !slices.Equal(before, look(m)) {
		t.Error("the memory was changed")
	}
}

// P2.1: New

func TestNewIsEmpty(t *testing.T) {
	m := newMem(t, 3)
	m.Alloc()
	m.Write(0, 0, strings.Repeat("\x01", 64))
	m.Free(0)
	for k := range 3 {
		if root, e := New(m); root != k || e != api.OK {
			t.Errorf("New: %d, %d; want %d", root, e, k)
		}
		wantBytes(t, m, k, 0, blank)
		wantPages(t, m, k, api.OK)
		wantLeft(t, m, 2-k)
	}
	if root, e := New(m); root != 0 || e != api.ErrMem {
		t.Errorf("New without a frame: %d, %d", root, e)
	}
}

func TestNilMemory(t *testing.T) {
	if root, e := New(nil); root != 0 || e != api.ErrNil {
		t.Errorf("New: %d, %d", root, e)
	}
	for _, k := range []int{-1, 0, 1, 256} {
		wantMap(t, nil, k, k, 0, 1, api.ErrNil)
		wantMap(t, nil, 0, 0, k, k, api.ErrNil)
		wantWalk(t, nil, k, k, 0, 0, api.ErrNil)
		wantUnmap(t, nil, k, k, 0, api.ErrNil)
		wantPages(t, nil, k, api.ErrNil)
		wantDrop(t, nil, k, api.ErrNil)
	}
}

func TestMemoryOfNoFrames(t *testing.T) {
	m := new(frames.Mem)
	if root, e := New(m); root != 0 || e != api.ErrMem {
		t.Errorf("New: %d, %d", root, e)
	}
	wantMap(t, m, 0, 0, 0, 1, api.ErrFrame)
	wantWalk(t, m, 0, 0, 0, 0, api.ErrFrame)
	wantUnmap(t, m, 0, 0, 0, api.ErrFrame)
	wantPages(t, m, 0, api.ErrFrame)
	wantDrop(t, m, 0, api.ErrFrame)
}

// A root that is not in use is told ahead of every other error.
func TestRootNotInUse(t *testing.T) {
	m := newRoot(t, 4)
	wantMap(t, m, 0, 3, 7, 3, api.OK)
	wantSame(t, m, func() {
		for _, root := range append([]int{2, 3, 4, 255}, farNumbers...) {
			for _, page := range []int{0, 3, 255, 256, -1} {
				wantMap(t, m, root, page, 0, 1, api.ErrFrame)
				wantMap(t, m, root, page, 256, 0, api.ErrFrame)
				wantWalk(t, m, root, page, 0, 0, api.ErrFrame)
				wantUnmap(t, m, root, page, 0, api.ErrFrame)
			}
			wantPages(t, m, root, api.ErrFrame)
			wantDrop(t, m, root, api.ErrFrame)
		}
	})
}

// P2.1: Map

func TestMapLaysEntries(t *testing.T) {
	m := newRoot(t, 3)
	wantMap(t, m, 0, 17, 5, 3, api.OK)
	wantWalk(t, m, 0, 17, 5, 3, api.OK)
	wantWalk(t, m, 0, 16, 0, 0, api.ErrFault)
	wantBytes(t, m, 0, 0, blank[:4]+"\x01\x00\x00\x01"+blank[8:])
	wantBytes(t, m, 1, 0, blank[:4]+"\x03\x00\x00\x05"+blank[8:])
	wantMap(t, m, 0, 31, 255, 7, api.OK)
	wantMap(t, m, 0, 16, 0, 5, api.OK)
	wantBytes(t, m, 1, 0, "\x05\x00\x00\x00\x03\x00\x00\x05"+blank[8:60]+"\x07\x00\x00\xff")
	wantLeft(t, m, 1)
	wantMap(t, m, 0, 255, 1, 1, api.OK)
	wantBytes(t, m, 0, 0, blank[:4]+"\x01\x00\x00\x01"+blank[8:60]+"\x01\x00\x00\x02")
	wantBytes(t, m, 2, 0, blank[:60]+"\x01\x00\x00\x01")
}

// A table may be any frame, the last one too, whose number fills the lesser byte.
func TestTableOfTheLastFrame(t *testing.T) {
	m := newMem(t, 256)
	for range 255 {
		m.Alloc()
	}
	m.Free(0)
	if root, e := New(m); root != 0 || e != api.OK {
		t.Fatalf("New: %d, %d", root, e)
	}
	wantMap(t, m, 0, 0, 254, 1, api.OK)
	wantBytes(t, m, 0, 0, "\x01\x00\x00\xff")
	wantBytes(t, m, 255, 0, "\x01\x00\x00\xfe")
	wantWalk(t, m, 0, 0, 254, 1, api.OK)
	wantUnmap(t, m, 0, 0, 254, api.OK)
	wantLeft(t, m, 1)
}

func TestEveryPage(t *testing.T) {
	m := newRoot(t, 17)
	for page := range 256 {
		wantWalk(t, m, 0, page, 0, 0, api.ErrFault)
		wantMap(t, m, 0, page, 255-page, 1+2*(page%4), api.OK)
		wantLeft(t, m, 15-page/16)
	}
	for page := range 256 {
		wantWalk(t, m, 0, page, 255-page, 1+2*(page%4), api.OK)
		wantMap(t, m, 0, page, 1, 1, api.ErrExists)
		wantBytes(t, m, 1+page/16, page%16*4, string([]byte{byte(1 + 2*(page%4)), 0, 0, byte(255 - page)}))
	}
	var all []int
	for page := range 256 {
		all = append(all, page)
	}
	wantPages(t, m, 0, api.OK, all...)
}

func TestMapRefusesPages(t *testing.T) {
	m := newRoot(t, 4)
	wantMap(t, m, 0, 0, 0, 1, api.OK)
	wantSame(t, m, func() {
		for _, page := range farNumbers {
			wantMap(t, m, 0, page, 1, 1, api.ErrArg)
			wantWalk(t, m, 0, page, 0, 0, api.ErrArg)
			wantUnmap(t, m, 0, page, 0, api.ErrArg)
		}
	})
}

func TestMapRefusesFrames(t *testing.T) {
	m := newRoot(t, 2)
	wantSame(t, m, func() {
		for _, frame := range farNumbers {
			wantMap(t, m, 0, 1, frame, 1, api.ErrArg)
		}
	})
	for page, frame := range []int{0, 1, 2, 254, 255} {
		wantMap(t, m, 0, page, frame, 1, api.OK)
		wantWalk(t, m, 0, page, frame, 1, api.OK)
	}
}

func TestMapFlags(t *testing.T) {
	for flags := -20; flags <= 300; flags++ {
		m := newRoot(t, 2)
		if flags == 1 || flags == 3 || flags == 5 || flags == 7 {
			wantMap(t, m, 0, 20, 9, flags, api.OK)
			wantWalk(t, m, 0, 20, 9, flags, api.OK)
			continue
		}
		wantSame(t, m, func() { wantMap(t, m, 0, 20, 9, flags, api.ErrArg) })
	}
	m := newRoot(t, 2)
	for _, flags := range []int{math.MinInt, math.MinInt + 1, -255, 257, 1<<32 + 1, 1<<32 + 7, math.MaxInt} {
		wantMap(t, m, 0, 20, 9, flags, api.ErrArg)
	}
	wantLeft(t, m, 1)
}

// Of several errors: ErrArg, then ErrExists, then ErrMem.
func TestMapErrorsInOrder(t *testing.T) {
	m := newRoot(t, 2)
	wantMap(t, m, 0, 40, 3, 3, api.OK)
	wantLeft(t, m, 0)
	wantSame(t, m, func() {
		wantMap(t, m, 0, 40, 256, 3, api.ErrArg)
		wantMap(t, m, 0, 40, 3, 2, api.ErrArg)
		wantMap(t, m, 0, 40, 3, 3, api.ErrExists)
		wantMap(t, m, 0, 40, 4, 1, api.ErrExists)
		wantMap(t, m, 0, 48, 256, 3, api.ErrArg)
		wantMap(t, m, 0, 48, 3, 0, api.ErrArg)
		wantMap(t, m, 0, 256, 3, 3, api.ErrArg)
		for _, page := range []int{0, 31, 48, 255} {
			wantMap(t, m, 0, page, 3, 3, api.ErrMem)
			wantWalk(t, m, 0, page, 0, 0, api.ErrFault)
		}
	})
	wantMap(t, m, 0, 32, 3, 3, api.OK)
	wantMap(t, m, 0, 47, 3, 3, api.OK)
	wantPages(t, m, 0, api.OK, 32, 40, 47)
}

// A frame that was in use before, and was written to, is as good a table as any.
func TestTableIsEmptyAtFirst(t *testing.T) {
	m := newRoot(t, 2)
	m.Alloc()
	m.Write(1, 0, strings.Repeat("\x03\x00\x00\x09", 16))
	m.Free(1)
	wantMap(t, m, 0, 100, 8, 1, api.OK)
	wantPages(t, m, 0, api.OK, 100)
}

// Frames of pages are neither shared nor freed, whether they are in use or not.
func TestFramesOfPagesStay(t *testing.T) {
	m := newRoot(t, 4)
	for _, want := range []int{1, 2} {
		if k, _ := m.Alloc(); k != want {
			t.Fatal(k)
		}
	}
	m.Write(1, 0, "page")
	m.Share(2)
	wantMap(t, m, 0, 5, 1, 3, api.OK)
	wantMap(t, m, 0, 6, 2, 7, api.OK)
	wantMap(t, m, 0, 7, 200, 1, api.OK)
	refs := func() []int { return []int{m.Refs(0), m.Refs(1), m.Refs(2), m.Refs(3)} }
	if l := refs(); !slices.Equal(l, []int{1, 1, 2, 1}) {
		t.Error(l)
	}
	wantUnmap(t, m, 0, 5, 1, api.OK)
	if l := refs(); !slices.Equal(l, []int{1, 1, 2, 1}) {
		t.Error(l)
	}
	wantBytes(t, m, 1, 0, "page")
	wantDrop(t, m, 0, api.OK)
	if l := refs(); !slices.Equal(l, []int{0, 1, 2, 0}) {
		t.Error(l)
	}
}

// P2.1: Walk, Unmap

// Tables are read as the chapter lays them, whoever wrote them: a frame has two bytes, the greater one first, and what is not present is empty.
func TestWalkOfTablesLaidByHand(t *testing.T) {
	m := newRoot(t, 3)
	m.Alloc()
	m.Write(0, 0, "\x01\x00\x00\x01\x02\x00\x00\x01")
	m.Write(1, 0, "\x03\x00\x01\x02\x06\x00\x00\x05\x07\x00\x00\x02")
	wantWalk(t, m, 0, 0, 258, 3, api.OK)
	wantWalk(t, m, 0, 1, 0, 0, api.ErrFault)
	wantWalk(t, m, 0, 2, 2, 7, api.OK)
	wantWalk(t, m, 0, 16, 0, 0, api.ErrFault)
	wantPages(t, m, 0, api.OK, 0, 2)
	wantUnmap(t, m, 0, 0, 258, api.OK)
}

func TestWalkChangesNothing(t *testing.T) {
	m := newRoot(t, 3)
	wantMap(t, m, 0, 17, 5, 3, api.OK)
	wantSame(t, m, func() {
		for page := -2; page < 260; page++ {
			Walk(m, 0, page)
		}
		wantPages(t, m, 0, api.OK, 17)
	})
	wantWalk(t, m, 0, 1, 0, 0, api.ErrFault)
	wantWalk(t, m, 0, 18, 0, 0, api.ErrFault)
	wantWalk(t, m, 0, 33, 0, 0, api.ErrFault)
}

func TestUnmapUpToTheLast(t *testing.T) {
	m := newRoot(t, 3)
	wantMap(t, m, 0, 240, 1, 1, api.OK)
	wantMap(t, m, 0, 255, 2, 3, api.OK)
	wantMap(t, m, 0, 0, 0, 5, api.OK)
	wantUnmap(t, m, 0, 240, 1, api.OK)
	wantLeft(t, m, 0)
	wantBytes(t, m, 1, 0, blank[:60]+"\x03\x00\x00\x02")
	wantWalk(t, m, 0, 240, 0, 0, api.ErrFault)
	wantWalk(t, m, 0, 255, 2, 3, api.OK)
	wantUnmap(t, m, 0, 255, 2, api.OK)
	wantLeft(t, m, 1)
	wantBytes(t, m, 0, 0, "\x01\x00\x00\x02"+blank[4:])
	wantUnmap(t, m, 0, 0, 0, api.OK)
	wantLeft(t, m, 2)
	wantBytes(t, m, 0, 0, blank)
	wantPages(t, m, 0, api.OK)
}

func TestUnmapRefuses(t *testing.T) {
	m := newRoot(t, 3)
	wantMap(t, m, 0, 17, 5, 3, api.OK)
	wantSame(t, m, func() {
		for _, page := range []int{0, 1, 15, 16, 18, 31, 32, 255} {
			wantUnmap(t, m, 0, page, 0, api.ErrFault)
		}
	})
	wantUnmap(t, m, 0, 17, 5, api.OK)
	wantUnmap(t, m, 0, 17, 0, api.ErrFault)
	wantLeft(t, m, 2)
}

func TestUnmapAndMapAgain(t *testing.T) {
	m := newRoot(t, 2)
	for k := range 40 {
		page := k * 13 % 256
		wantMap(t, m, 0, page, k, 7, api.OK)
		wantWalk(t, m, 0, page, k, 7, api.OK)
		wantUnmap(t, m, 0, page, k, api.OK)
		wantWalk(t, m, 0, page, 0, 0, api.ErrFault)
	}
	wantLeft(t, m, 1)
}

// A table that somebody else shares loses one reference; its entry is empty there, too.
func TestUnmapOfASharedTable(t *testing.T) {
	m := newRoot(t, 2)
	wantMap(t, m, 0, 9, 5, 3, api.OK)
	m.Share(1)
	wantUnmap(t, m, 0, 9, 5, api.OK)
	if n := m.Refs(1); n != 1 {
		t.Errorf("references of the table: %d", n)
	}
	wantBytes(t, m, 0, 0, blank)
	wantBytes(t, m, 1, 0, blank)
}

// P2.2

func TestPagesRise(t *testing.T) {
	m := newRoot(t, 8)
	wantPages(t, m, 0, api.OK)
	for _, page := range []int{255, 128, 16, 15, 240, 0, 129, 31, 127} {
		wantMap(t, m, 0, page, page, 1, api.OK)
	}
	wantPages(t, m, 0, api.OK, 0, 15, 16, 31, 127, 128, 129, 240, 255)
	wantLeft(t, m, 2)
}

func TestPagesAreNewMemory(t *testing.T) {
	m := newRoot(t, 2)
	wantMap(t, m, 0, 2, 2, 1, api.OK)
	wantMap(t, m, 0, 3, 3, 1, api.OK)
	one, _ := Pages(m, 0)
	for k := range one[:cap(one)] {
		one[:cap(one)][k] = 99
	}
	wantPages(t, m, 0, api.OK, 2, 3)
}

func TestDrop(t *testing.T) {
	m := newRoot(t, 18)
	wantDrop(t, m, 0, api.OK)
	wantLeft(t, m, 18)
	wantDrop(t, m, 0, api.ErrFrame)
	New(m)
	for page := range 256 {
		wantMap(t, m, 0, page, page, 7, api.OK)
	}
	wantLeft(t, m, 1)
	wantDrop(t, m, 0, api.OK)
	wantLeft(t, m, 18)
	wantPages(t, m, 0, api.ErrFrame)
}

// Freeing is one reference less, of each table and of the root.
func TestDropFreesOnce(t *testing.T) {
	m := newRoot(t, 4)
	wantMap(t, m, 0, 9, 5, 3, api.OK)
	wantMap(t, m, 0, 99, 5, 3, api.OK)
	m.Share(0)
	m.Share(2)
	wantDrop(t, m, 0, api.OK)
	for k, want := range []int{1, 0, 1, 0} {
		if n := m.Refs(k); n != want {
			t.Errorf("references of frame %d: %d; want %d", k, n, want)
		}
	}
}

func TestRootsAreApart(t *testing.T) {
	m := newRoot(t, 6)
	if root, _ := New(m); root != 1 {
		t.Fatal(root)
	}
	wantMap(t, m, 0, 17, 5, 3, api.OK)
	wantMap(t, m, 1, 17, 6, 1, api.OK)
	wantMap(t, m, 1, 200, 7, 1, api.OK)
	wantWalk(t, m, 0, 17, 5, 3, api.OK)
	wantWalk(t, m, 1, 17, 6, 1, api.OK)
	wantDrop(t, m, 0, api.OK)
	wantWalk(t, m, 1, 17, 6, 1, api.OK)
	wantPages(t, m, 1, api.OK, 17, 200)
	wantDrop(t, m, 1, api.OK)
	wantLeft(t, m, 6)
}

// callAll does every call on frames that may be no tables: they have to end, without a panic.
func callAll(m *frames.Mem, root, page int) {
	Walk(m, root, page)
	Pages(m, root)
	Map(m, root, page, 3, 3)
	Unmap(m, root, page)
	Unmap(m, root, page)
	Pages(m, root)
}

func TestFramesThatAreNoTables(t *testing.T) {
	r := rand.New(rand.NewSource(2))
	for n := range 2000 {
		m := newMem(t, 1+n%6)
		for k := range m.Total() {
			if r.Intn(6) == 0 {
				continue
			}
			m.Alloc()
			text := make([]byte, 64)
			for i := range text {
				text[i] = byte(r.Intn(1 << r.Intn(9)))
			}
			m.Write(k, 0, string(text))
		}
		for range 20 {
			callAll(m, r.Intn(7), r.Intn(256))
		}
		for range 8 {
			Drop(m, r.Intn(7))
		}
	}
}

// A root that names itself, frames past the end, and frames that are not in use.
func TestStrangeRoots(t *testing.T) {
	for _, e := range []string{"\x01\x00\x00\x00", "\x01\x00\x00\x01", "\x01\x00\x01\x00", "\xff\xff\xff\xff", "\x01\x00\x00\x02", "\xfe\xff\xff\xff"} {
		m := newRoot(t, 3)
		m.Alloc()
		for _, text := range []string{e, strings.Repeat(e, 16)} {
			m.Write(0, 0, text)
			for page := range 256 {
				callAll(m, 0, page)
			}
			m.Write(0, 0, text)
		}
		Drop(m, 0)
		if n := m.Refs(0); n != 0 {
			t.Errorf("references of a dropped root: %d", n)
		}
	}
}

// P2.3

// A model tells the same of tables in another way: which pages are mapped, to what.
type model struct {
	pages map[int][2]int
	spare int // frames that tables may have
}

func (w *model) tables() int {
	seen := map[int]int{}
	for page := range w.pages {
		seen[page/16]++
	}
	return len(seen)
}

func (w *model) hasTable(page int) bool {
	for other := range w.pages {
		if other/16 == page/16 {
			return true
		}
	}
	return false
}

func (w *model) mapped(page, frame, flags int) api.Errno {
	if page < 0 || page > 255 || frame < 0 || frame > 255 || !slices.Contains([]int{1, 3, 5, 7}, flags) {
		return api.ErrArg
	}
	if w.pages[page] != [2]int{} {
		return api.ErrExists
	}
	if !w.hasTable(page) && w.tables() == w.spare {
		return api.ErrMem
	}
	w.pages[page] = [2]int{frame, flags}
	return api.OK
}

func (w *model) walk(page int) (int, int, api.Errno) {
	if page < 0 || page > 255 {
		return 0, 0, api.ErrArg
	}
	x := w.pages[page]
	if x == [2]int{} {
		return 0, 0, api.ErrFault
	}
	return x[0], x[1], api.OK
}

func wantModel(t *testing.T, m *frames.Mem, w *model) {
	t.Helper()
	var pages []int
	for page := -1; page <= 256; page++ {
		frame, flags, e := w.walk(page)
		wantWalk(t, m, 0, page, frame, flags, e)
		if e == api.OK {
			pages = append(pages, page)
		}
	}
	wantPages(t, m, 0, api.OK, pages...)
	wantLeft(t, m, w.spare-w.tables())
}

func TestAgainstModel(t *testing.T) {
	for _, spare := range []int{0, 1, 3, 8, 16, 20} {
		r := rand.New(rand.NewSource(int64(spare)))
		m := newRoot(t, 1+spare)
		w := &model{pages: map[int][2]int{}, spare: spare}
		for step := range 1200 {
			page := r.Intn(260) - 2
			if r.Intn(2) == 0 {
				page = r.Intn(4) * 83
			}
			if r.Intn(600) < step%600 {
				frame, _, e := w.walk(page)
				wantUnmap(t, m, 0, page, frame, e)
				delete(w.pages, page)
			} else {
				frame, flags := r.Intn(259)-1, 1+2*r.Intn(4)-r.Intn(20)/19
				wantMap(t, m, 0, page, frame, flags, w.mapped(page, frame, flags))
			}
			wantModel(t, m, w)
			if t.Failed() {
				t.FailNow()
			}
		}
		wantDrop(t, m, 0, api.OK)
		wantLeft(t, m, 1+spare)
	}
}

func TestUnmapAllLeavesNoTable(t *testing.T) {
	for _, start := range []int{0, 7, 255} {
		m := newRoot(t, 17)
		for page := range 256 {
			wantMap(t, m, 0, page, page, 3, api.OK)
		}
		wantLeft(t, m, 0)
		for k := range 256 {
			page := (start + k*77) % 256
			wantUnmap(t, m, 0, page, page, api.OK)
		}
		wantLeft(t, m, 16)
		wantBytes(t, m, 0, 0, blank)
		wantPages(t, m, 0, api.OK)
		wantDrop(t, m, 0, api.OK)
		wantLeft(t, m, 17)
	}
}
