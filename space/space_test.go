package space

import (
	"math"
	"slices"
	"strings"
	"testing"

	"taffrail/api"
	"taffrail/copyio"
	"taffrail/frames"
	"taffrail/ptable"
)

// The flags of an attachment's pages.
const (
	attReadable = api.PagePresent | api.PageShared
	attWritable = api.PagePresent | api.PageShared | api.PageWrite
)

// farNumbers are below 0 or past every limit, some of them so that a sum with another one wraps round.
var farNumbers = []int{math.MinInt, math.MinInt + 1, math.MinInt + 128, math.MinInt32, -256, -129, -1, 256, 1 << 16, math.MaxInt32, 1 << 32, 1<<32 + 130, math.MaxInt - 240, math.MaxInt - 128, math.MaxInt - 1, math.MaxInt}

func newMem(t *testing.T, total int) *frames.Mem {
	t.Helper()
	m, e := frames.New(total)
	if e != api.OK {
		t.Fatalf("frames.New(%d): %d", total, e)
	}
	return m
}

// give allocates frames that the tests have, whatever the spaces do.
func give(t *testing.T, m *frames.Mem, count int) []int {
	t.Helper()
	var l []int
	for range count {
		frame, e := m.Alloc()
		if e != api.OK {
			t.Fatalf("Alloc: %d", e)
		}
		l = append(l, frame)
	}
	return l
}

// leave takes frames, until so many are left.
func leave(t *testing.T, m *frames.Mem, left int) []int {
	t.Helper()
	return give(t, m, m.Left()-left)
}

// giveBack frees frames once each.
func giveBack(m *frames.Mem, l []int) {
	for _, frame := range l {
		m.Free(frame)
	}
}

// shareUpTo gives a frame so many references.
func shareUpTo(t *testing.T, m *frames.Mem, frame, refs int) {
	t.Helper()
	for m.Refs(frame) < refs {
		if e := m.Share(frame); e != api.OK {
			t.Fatalf("Share(%d): %d", frame, e)
		}
	}
}

// pattern is n bytes, none of them 0, no two pages of it alike.
func pattern(n int) string {
	b := make([]byte, n)
	for k := range b {
		b[k] = byte(k%251 + 1)
	}
	return string(b)
}

// imageOf is an image of such a text and such data.
func imageOf(text, data string) string {
	return string([]byte{0x58, byte(len(text)), byte(len(data))}) + text + data
}

// fromTo are the numbers from one to another, both of them in.
func fromTo(first, last int) []int {
	var l []int
	for k := first; k <= last; k++ {
		l = append(l, k)
	}
	return l
}

func isZero(s api.Space) bool {
	return s.Root == 0 && s.Text == 0 && s.Data == 0 && s.Heap == 0 && len(s.Atts) == 0
}

func isSame(a, b api.Space) bool {
	return a.Root == b.Root && a.Text == b.Text && a.Data == b.Data && a.Heap == b.Heap && slices.Equal(a.Atts, b.Atts)
}

func exec(t *testing.T, m *frames.Mem, image string) api.Space {
	t.Helper()
	s, e := Exec(m, image)
	if e != api.OK {
		t.Fatalf("Exec(%d bytes): %d", len(image), e)
	}
	return s
}

func grow(t *testing.T, m *frames.Mem, s api.Space, pages int) api.Space {
	t.Helper()
	g, at, e := Grow(m, s, pages)
	if e != api.OK || at != (s.Text+s.Data+s.Heap)*64 {
		t.Fatalf("Grow(%d): at %d, %d", pages, at, e)
	}
	return g
}

func fork(t *testing.T, m *frames.Mem, s api.Space) api.Space {
	t.Helper()
	c, e := Fork(m, s)
	if e != api.OK {
		t.Fatalf("Fork: %d", e)
	}
	return c
}

func attach(t *testing.T, m *frames.Mem, s api.Space, page int, l []int, write bool) api.Space {
	t.Helper()
	a, e := Attach(m, s, page, l, write)
	if e != api.OK {
		t.Fatalf("Attach(%d, %d): %d", page, l, e)
	}
	return a
}

func detach(t *testing.T, m *frames.Mem, s api.Space, page int) api.Space {
	t.Helper()
	d, e := Detach(m, s, page)
	if e != api.OK {
		t.Fatalf("Detach(%d): %d", page, e)
	}
	return d
}

func drop(t *testing.T, m *frames.Mem, l ...api.Space) {
	t.Helper()
	for _, s := range l {
		if e := Drop(m, s); e != api.OK {
			t.Fatalf("Drop: %d", e)
		}
	}
}

func out(t *testing.T, m *frames.Mem, s api.Space, addr int, text string) {
	t.Helper()
	if e := copyio.Out(m, s.Root, addr, text); e != api.OK {
		t.Fatalf("Out at %d: %d", addr, e)
	}
}

func wantIn(t *testing.T, m *frames.Mem, s api.Space, addr int, text string) {
	t.Helper()
	if b, e := copyio.In(m, s.Root, addr, len(text)); b != text || e != api.OK {
		t.Errorf("bytes from %d on: %q, %d; want %q", addr, b, e, text)
	}
}

func wantSpace(t *testing.T, got, want api.Space) {
	t.Helper()
	if !isSame(got, want) {
		t.Errorf("space %+v; want %+v", got, want)
	}
}

func wantAtts(t *testing.T, s api.Space, want ...api.Att) {
	t.Helper()
	if !slices.Equal(s.Atts, want) {
		t.Errorf("attached: %+v; want %+v", s.Atts, want)
	}
}

func wantPages(t *testing.T, m *frames.Mem, s api.Space, want []int) {
	t.Helper()
	if l, e := ptable.Pages(m, s.Root); !slices.Equal(l, want) || e != api.OK {
		t.Errorf("pages %d, %d; want %d", l, e, want)
	}
}

func wantPage(t *testing.T, m *frames.Mem, s api.Space, page, frame, flags int) {
	t.Helper()
	if f, g, e := ptable.Walk(m, s.Root, page); f != frame || g != flags || e != api.OK {
		t.Errorf("page %d: frame %d, flags %d, %d; want %d, %d", page, f, g, e, frame, flags)
	}
}

func wantLeft(t *testing.T, m *frames.Mem, want int) {
	t.Helper()
	if m.Left() != want {
		t.Errorf("%d frames are left; want %d", m.Left(), want)
	}
}

func wantRefs(t *testing.T, m *frames.Mem, want int, l ...int) {
	t.Helper()
	for _, frame := range l {
		if m.Refs(frame) != want {
			t.Errorf("frame %d has %d references; want %d", frame, m.Refs(frame), want)
		}
	}
}

// look is all that a memory tells: references and bytes, frame by frame.
func look(m *frames.Mem) []string {
	var l []string
	for k := range m.Total() {
		s, _ := m.Read(k, 0, api.FrameSize)
		l = append(l, strings.Repeat("r", m.Refs(k))+" "+s)
	}
	return l
}

// wantSame does something, and wants the memory to be as it was before.
func wantSame(t *testing.T, m *frames.Mem, do func()) {
	t.Helper()
	before := look(m)
	do()
	if !slices.Equal(before, look(m)) {
		t.Error("the memory was changed")
	}
}

// The following want an error, nothing beside it, and the memory as it was.

func refuseExec(t *testing.T, m *frames.Mem, image string, want api.Errno) {
	t.Helper()
	wantSame(t, m, func() {
		t.Helper()
		if s, e := Exec(m, image); !isZero(s) || e != want {
			t.Errorf("Exec(%.20q): %+v, %d; want %d", image, s, e, want)
		}
	})
}

func refuseGrow(t *testing.T, m *frames.Mem, s api.Space, pages int, want api.Errno) {
	t.Helper()
	wantSame(t, m, func() {
		t.Helper()
		if g, at, e := Grow(m, s, pages); !isZero(g) || at != 0 || e != want {
			t.Errorf("Grow(%+v, %d): %+v, %d, %d; want %d", s, pages, g, at, e, want)
		}
	})
}

func refuseFork(t *testing.T, m *frames.Mem, s api.Space, want api.Errno) {
	t.Helper()
	wantSame(t, m, func() {
		t.Helper()
		if c, e := Fork(m, s); !isZero(c) || e != want {
			t.Errorf("Fork(%+v): %+v, %d; want %d", s, c, e, want)
		}
	})
}

func refuseAttach(t *testing.T, m *frames.Mem, s api.Space, page int, l []int, want api.Errno) {
	t.Helper()
	for _, write := range []bool{false, true} {
		wantSame(t, m, func() {
			t.Helper()
			if a, e := Attach(m, s, page, l, write); !isZero(a) || e != want {
				t.Errorf("Attach(%d, %d, %t): %+v, %d; want %d", page, l, write, a, e, want)
			}
		})
	}
}

func refuseDetach(t *testing.T, m *frames.Mem, s api.Space, page int, want api.Errno) {
	t.Helper()
	wantSame(t, m, func() {
		t.Helper()
		if d, e := Detach(m, s, page); !isZero(d) || e != want {
			t.Errorf("Detach(%+v, %d): %+v, %d; want %d", s, page, d, e, want)
		}
	})
}

func refuseDrop(t *testing.T, m *frames.Mem, s api.Space, want api.Errno) {
	t.Helper()
	wantSame(t, m, func() {
		t.Helper()
		if e := Drop(m, s); e != want {
			t.Errorf("Drop(%+v): %d; want %d", s, e, want)
		}
	})
}

// P4.1: Exec

func TestExecOfTheChapter(t *testing.T) {
	m := newMem(t, 8)
	s := exec(t, m, imageOf(pattern(65), "d"))
	wantSpace(t, s, api.Space{Root: 0, Text: 2, Data: 1})
	wantLeft(t, m, 0)
	wantPages(t, m, s, []int{0, 1, 2, 254, 255})
	// Each frame is allocated ahead of the table that it is mapped in.
	wantPage(t, m, s, 0, 1, readable)
	wantPage(t, m, s, 1, 3, readable)
	wantPage(t, m, s, 2, 4, writable)
	wantPage(t, m, s, 254, 5, writable)
	wantPage(t, m, s, 255, 7, writable)
	wantRefs(t, m, 1, fromTo(0, 7)...)
}

func TestExecOfImages(t *testing.T) {
	sizes := []struct{ bytes, pages int }{{0, 0}, {1, 1}, {63, 1}, {64, 1}, {65, 2}, {128, 2}, {129, 3}, {192, 3}, {193, 4}, {254, 4}, {255, 4}}
	for _, text := range sizes {
		for _, data := range sizes {
			m := newMem(t, 20)
			given := give(t, m, 3)
			m.Write(given[1], 0, pattern(64))
			m.Free(given[1])
			all := pattern(text.bytes + data.bytes)
			s := exec(t, m, imageOf(all[:text.bytes], all[text.bytes:]))
			wantSpace(t, s, api.Space{Root: given[1], Text: text.pages, Data: data.pages})
			own := text.pages + data.pages
			wantPages(t, m, s, append(fromTo(0, own-1), 254, 255))
			for page := range own {
				flags := readable
				if page >= text.pages {
					flags = writable
				}
				if _, f, e := ptable.Walk(m, s.Root, page); f != flags || e != api.OK {
					t.Errorf("page %d: flags %d, %d; want %d", page, f, e, flags)
				}
			}
			wantIn(t, m, s, 0, all[:text.bytes]+strings.Repeat("\x00", text.pages*64-text.bytes))
			wantIn(t, m, s, text.pages*64, all[text.bytes:]+strings.Repeat("\x00", data.pages*64-data.bytes))
			wantIn(t, m, s, 254*64, strings.Repeat("\x00", 128))
			frames := 1 + own + 2 + 1
			if own > 0 {
				frames++
			}
			wantLeft(t, m, 18-frames)
			drop(t, m, s)
			wantLeft(t, m, 18)
		}
	}
}

func TestExecLaysAnyBytes(t *testing.T) {
	m := newMem(t, 20)
	text := ""
	for k := range 255 {
		text += string([]byte{byte(255 - k)})
	}
	s := exec(t, m, imageOf(text, "\x00\xff\xe2\x82"))
	wantIn(t, m, s, 0, text+"\x00")
	wantIn(t, m, s, 256, "\x00\xff\xe2\x82\x00")
}

func TestExecLetsDataBeWrittenAndNotText(t *testing.T) {
	m := newMem(t, 20)
	s := exec(t, m, imageOf("text", "data"))
	out(t, m, s, 64, "DATA")
	out(t, m, s, 254*64, strings.Repeat("s", 128))
	wantIn(t, m, s, 0, "text\x00")
	wantIn(t, m, s, 64, "DATA\x00")
	if e := copyio.Out(m, s.Root, 0, "x"); e != api.ErrFault {
		t.Errorf("writing to text: %d", e)
	}
}

func TestExecOfNoImage(t *testing.T) {
	m := newMem(t, 20)
	full := newMem(t, 1)
	leave(t, full, 0)
	for _, x := range []string{
		"", "\x58", "\x58\x00", "\x58\x01", "\x58\x01\x00", "\x58\x00\x01", "\x58\xff\xff",
		"\x00\x00\x00", "\x57\x00\x00", "\x59\x00\x00", "X\x00", "x\x00\x00", "58\x00\x00", "\xd8\x00\x00",
		"\x58\x00\x00\x00", "\x58\x00\x00x", "\x58\x01\x01ab\x00", "\x58\x01\x01a", "\x59\x01\x01ab",
		imageOf(pattern(255), pattern(255)) + "x",
		imageOf(pattern(255), pattern(255))[:512],
		"\x58\x80\x80" + pattern(255), "\x58\x80\x80" + pattern(257), "\x58\xff\x01", "\x58\xff\x01" + pattern(255), "\x58\x02\xff" + pattern(1),
		imageOf(pattern(65), "dd")[1:], strings.Repeat("\x58", 1<<16),
	} {
		refuseExec(t, m, x, api.ErrImage)
		refuseExec(t, full, x, api.ErrImage)
		refuseExec(t, nil, x, api.ErrNil)
	}
	refuseExec(t, nil, imageOf("", ""), api.ErrNil)
	refuseExec(t, nil, imageOf("t", "d"), api.ErrNil)
	exec(t, m, "\x58\x00\x00")
	exec(t, m, "\x58\x58\x00"+strings.Repeat("\x58", 88))
}

func TestExecOfTooFewFrames(t *testing.T) {
	for _, x := range []struct{ text, data, need int }{{0, 0, 4}, {1, 0, 6}, {0, 1, 6}, {65, 1, 8}, {64, 64, 7}, {255, 255, 13}} {
		image := imageOf(pattern(x.text), pattern(x.data))
		for left := range x.need {
			m := newMem(t, 30)
			leave(t, m, left)
			refuseExec(t, m, image, api.ErrMem)
			wantLeft(t, m, left)
		}
		m := newMem(t, 30)
		leave(t, m, x.need)
		exec(t, m, image)
		wantLeft(t, m, 0)
	}
}

// P4.1: Grow

func TestGrowAndShrink(t *testing.T) {
	m := newMem(t, 60)
	s := exec(t, m, imageOf(pattern(65), pattern(1)))
	left := m.Left()
	want := s
	for _, x := range []struct{ pages, at, heap, frames int }{
		{0, 192, 0, 0}, {1, 192, 1, 1}, {0, 256, 1, 1}, {2, 256, 3, 3}, {-1, 384, 2, 2}, {-2, 320, 0, 0},
		{13, 192, 13, 13}, {1, 1024, 14, 15}, {20, 1088, 34, 36}, {-19, 2368, 15, 16}, {-1, 1152, 14, 15}, {-1, 1088, 13, 13}, {-13, 1024, 0, 0}, {0, 192, 0, 0},
	} {
		g, at, e := Grow(m, s, x.pages)
		want.Heap = x.heap
		if e != api.OK || at != x.at {
			t.Errorf("Grow(%d): at %d, %d; want %d", x.pages, at, e, x.at)
		}
		wantSpace(t, g, want)
		wantPages(t, m, g, append(fromTo(0, 2+x.heap), 254, 255))
		wantLeft(t, m, left-x.frames)
		s = g
	}
}

func TestGrowAllocatesPageByPage(t *testing.T) {
	m := newMem(t, 30)
	s := exec(t, m, imageOf(pattern(255), pattern(255))) // frames 0 to 12
	hole, _, _ := ptable.Walk(m, s.Root, 255)
	s = grow(t, m, s, 8)
	for k := range 8 {
		wantPage(t, m, s, 8+k, hole+1+k, writable)
	}
	s = grow(t, m, s, 2)
	wantPage(t, m, s, 16, 21, writable) // 22 is its table
	wantPage(t, m, s, 17, 23, writable)
	// Frames that came back are given again, the first ones first.
	s = grow(t, m, s, -3)
	s = grow(t, m, s, 3)
	wantPage(t, m, s, 15, 20, writable)
	wantPage(t, m, s, 16, 21, writable)
	wantPage(t, m, s, 17, 23, writable)
}

func TestGrownPagesAreBlankAndTheRestStays(t *testing.T) {
	m := newMem(t, 30)
	s := exec(t, m, imageOf("text", "data"))
	s = grow(t, m, s, 2)
	out(t, m, s, 128, pattern(128))
	s = grow(t, m, s, 1)
	wantIn(t, m, s, 128, pattern(128)+strings.Repeat("\x00", 64))
	s = grow(t, m, s, -2)
	wantIn(t, m, s, 128, pattern(64))
	s = grow(t, m, s, 1)
	wantIn(t, m, s, 0, "text\x00")
	wantIn(t, m, s, 64, "data\x00")
	wantIn(t, m, s, 128, pattern(64)+strings.Repeat("\x00", 64))
}

func TestHeapEndsAtPage128(t *testing.T) {
	// No heap may have so many pages more, or less.
	far := slices.DeleteFunc(slices.Clone(farNumbers), func(n int) bool { return n == -1 })
	for _, x := range []struct{ text, data, pages int }{{0, 0, 0}, {1, 0, 1}, {0, 65, 2}, {255, 255, 8}} {
		m := newMem(t, 200)
		s := exec(t, m, imageOf(pattern(x.text), pattern(x.data)))
		most := 128 - x.pages
		for _, heap := range []int{0, 1, most - 1} {
			s = grow(t, m, s, heap-s.Heap)
			for _, pages := range append([]int{most - heap + 1, most - heap + 2, 129, 200}, far...) {
				refuseGrow(t, m, s, pages, api.ErrArg)
			}
		}
		s = grow(t, m, s, 1)
		wantPages(t, m, s, append(fromTo(0, 127), 254, 255))
		for _, pages := range append([]int{1, 2, 128, -most - 1, -most - 2, -130}, far...) {
			refuseGrow(t, m, s, pages, api.ErrArg)
		}
		if g, at, e := Grow(m, s, 0); !isSame(g, s) || at != 8192 || e != api.OK {
			t.Errorf("Grow(0): %+v, %d, %d", g, at, e)
		}
		s = grow(t, m, s, -most)
		refuseGrow(t, m, s, -1, api.ErrArg)
		wantPages(t, m, s, append(fromTo(0, x.pages-1), 254, 255))
		s = grow(t, m, s, most)
		drop(t, m, s)
		wantLeft(t, m, 200)
	}
}

func TestHeapShrinksBelowNone(t *testing.T) {
	m := newMem(t, 40)
	s := exec(t, m, imageOf(pattern(200), pattern(100)))
	for heap := range 5 {
		for _, pages := range []int{-heap - 1, -heap - 2, -heap - s.Text - s.Data, -heap - 100} {
			refuseGrow(t, m, s, pages, api.ErrArg)
		}
		s = grow(t, m, s, 1)
	}
}

func TestGrowOfTooFewFrames(t *testing.T) {
	for _, x := range []struct{ heap, pages, need int }{{0, 1, 1}, {0, 10, 10}, {0, 13, 13}, {0, 14, 15}, {13, 1, 2}, {13, 17, 19}, {0, 40, 42}, {5, 40, 42}} {
		m := newMem(t, 120)
		s := grow(t, m, exec(t, m, imageOf(pattern(65), pattern(1))), x.heap)
		for left := range x.need {
			taken := leave(t, m, left)
			refuseGrow(t, m, s, x.pages, api.ErrMem)
			wantLeft(t, m, left)
			giveBack(m, taken)
		}
		leave(t, m, x.need)
		s = grow(t, m, s, x.pages)
		wantLeft(t, m, 0)
		// Shrinking needs none.
		s = grow(t, m, s, -x.pages)
		wantLeft(t, m, x.need)
	}
}

func TestGrowTellsArgAheadOfMem(t *testing.T) {
	m := newMem(t, 20)
	s := exec(t, m, imageOf("t", "d"))
	leave(t, m, 0)
	refuseGrow(t, m, s, 127, api.ErrArg)
	refuseGrow(t, m, s, 126, api.ErrMem)
	refuseGrow(t, m, s, 1, api.ErrMem)
	refuseGrow(t, m, s, -1, api.ErrArg)
}

func TestGrowKeepsAttachments(t *testing.T) {
	m := newMem(t, 40)
	given := give(t, m, 2)
	s := attach(t, m, exec(t, m, imageOf("t", "d")), 128, given, true)
	g := grow(t, m, s, 3)
	wantAtts(t, g, api.Att{Page: 128, Count: 2, Write: true})
	wantPages(t, m, g, append(fromTo(0, 4), 128, 129, 254, 255))
	wantAtts(t, grow(t, m, g, -3), api.Att{Page: 128, Count: 2, Write: true})
}

// P4.1: Fork

func TestForkCopies(t *testing.T) {
	m := newMem(t, 60)
	given := give(t, m, 3) // 0 to 2
	s := exec(t, m, imageOf("text", "data"))
	s = grow(t, m, s, 2)
	s = attach(t, m, s, 200, given[:1], false)
	s = attach(t, m, s, 130, given[1:], true)
	out(t, m, s, 64, "DATA")
	out(t, m, s, 128, pattern(128))
	out(t, m, s, 254*64, pattern(128))
	out(t, m, s, 130*64, pattern(128))
	first := leave(t, m, 20)
	root := first[len(first)-1] + 1
	c := fork(t, m, s)
	wantSpace(t, c, api.Space{Root: root, Text: 1, Data: 1, Heap: 2, Atts: []api.Att{{Page: 130, Count: 2, Write: true}, {Page: 200, Count: 1}}})
	wantPages(t, m, c, []int{0, 1, 2, 3, 130, 131, 200, 254, 255})
	wantPage(t, m, c, 0, root+1, readable) // root + 2 is the table
	wantPage(t, m, c, 1, root+3, writable)
	wantPage(t, m, c, 2, root+4, writable)
	wantPage(t, m, c, 3, root+5, writable)
	wantPage(t, m, c, 130, given[1], attWritable) // root + 6
	wantPage(t, m, c, 131, given[2], attWritable)
	wantPage(t, m, c, 200, given[0], attReadable) // root + 7
	wantPage(t, m, c, 254, root+8, writable)      // root + 9
	wantPage(t, m, c, 255, root+10, writable)
	wantLeft(t, m, 9)
	wantRefs(t, m, 3, given...)
	for _, x := range []api.Space{s, c} {
		wantIn(t, m, x, 0, "text\x00")
		wantIn(t, m, x, 64, "DATA\x00")
		wantIn(t, m, x, 128, pattern(128))
		wantIn(t, m, x, 254*64, pattern(128))
		wantIn(t, m, x, 130*64, pattern(128))
	}
}

func TestForkOfTooFewFrames(t *testing.T) {
	for _, x := range []struct{ text, data, heap, atts, need int }{{0, 0, 0, 0, 4}, {65, 1, 0, 0, 8}, {0, 0, 20, 0, 26}, {65, 1, 20, 0, 29}, {65, 1, 0, 3, 9}, {255, 255, 9, 20, 25}} {
		m := newMem(t, 120)
		given := give(t, m, x.atts)
		s := grow(t, m, exec(t, m, imageOf(pattern(x.text), pattern(x.data))), x.heap)
		if x.atts > 0 {
			s = attach(t, m, s, 128, given, true)
		}
		for left := range x.need {
			taken := leave(t, m, left)
			refuseFork(t, m, s, api.ErrMem)
			wantLeft(t, m, left)
			wantRefs(t, m, 2, given...)
			giveBack(m, taken)
		}
		leave(t, m, x.need)
		c := fork(t, m, s)
		wantLeft(t, m, 0)
		drop(t, m, c)
		wantLeft(t, m, x.need)
	}
}

// A frame that all references are gone of can't be shared, wherever it stands.
func TestForkOfFrameThatCantBeShared(t *testing.T) {
	for k := range 5 {
		m := newMem(t, 120)
		given := give(t, m, 5)
		s := attach(t, m, exec(t, m, imageOf("t", "d")), 142, given, true)
		shareUpTo(t, m, given[k], 1000)
		refuseFork(t, m, s, api.ErrMem)
		m.Free(given[k])
		c := fork(t, m, s)
		wantRefs(t, m, 1000, given[k])
		refuseFork(t, m, s, api.ErrMem)
		refuseFork(t, m, c, api.ErrMem)
	}
	// One that stands at two pages needs two references.
	m := newMem(t, 40)
	given := give(t, m, 1)
	s := attach(t, m, exec(t, m, imageOf("t", "d")), 142, []int{given[0], given[0]}, true)
	shareUpTo(t, m, given[0], 999)
	refuseFork(t, m, s, api.ErrMem)
	m.Free(given[0])
	fork(t, m, s)
	wantRefs(t, m, 1000, given[0])
}

func TestForkOfForks(t *testing.T) {
	m := newMem(t, 256)
	given := give(t, m, 1)
	family := []api.Space{attach(t, m, exec(t, m, imageOf("t", "d")), 239, given, true)}
	for k := range 12 {
		c := fork(t, m, family[k/2])
		out(t, m, c, 64, pattern(k+1))
		family = append(family, c)
	}
	wantRefs(t, m, 14, given...)
	wantIn(t, m, family[0], 64, "d\x00")
	drop(t, m, family...)
	wantLeft(t, m, 255)
	wantRefs(t, m, 1, given...)
}

// P4.2: Attach

func TestAttachMapsAndShares(t *testing.T) {
	for _, write := range []bool{false, true} {
		m := newMem(t, 60)
		given := give(t, m, 3)
		s := exec(t, m, imageOf("t", "d"))
		l := []int{given[2], given[0], given[2]}
		before := m.Left()
		a := attach(t, m, s, 143, l, write)
		want := s
		want.Atts = []api.Att{{Page: 143, Count: 3, Write: write}}
		wantSpace(t, a, want)
		wantPages(t, m, a, []int{0, 1, 143, 144, 145, 254, 255})
		flags := attReadable
		if write {
			flags = attWritable
		}
		for k, frame := range l {
			wantPage(t, m, a, 143+k, frame, flags)
		}
		wantRefs(t, m, 3, given[2])
		wantRefs(t, m, 2, given[0])
		wantRefs(t, m, 1, given[1])
		wantLeft(t, m, before-2) // two tables
		m.Write(given[0], 0, "abcd")
		wantIn(t, m, a, 144*64, "abcd")
		if e := copyio.Out(m, a.Root, 144*64, "x"); (e == api.OK) != write {
			t.Errorf("writing, %t: %d", write, e)
		}
		if !slices.Equal(l, []int{given[2], given[0], given[2]}) {
			t.Errorf("the list became %d", l)
		}
	}
}

func TestAttachmentsStandByTheirPage(t *testing.T) {
	m := newMem(t, 60)
	given := give(t, m, 3)
	s := exec(t, m, imageOf("t", "d"))
	s = attach(t, m, s, 150, given[:2], true)
	s = attach(t, m, s, 128, given[:1], false)
	s = attach(t, m, s, 239, given[2:], true)
	s = attach(t, m, s, 129, given, false)
	s = attach(t, m, s, 152, given[1:2], false)
	wantAtts(t, s, api.Att{Page: 128, Count: 1}, api.Att{Page: 129, Count: 3}, api.Att{Page: 150, Count: 2, Write: true}, api.Att{Page: 152, Count: 1}, api.Att{Page: 239, Count: 1, Write: true})
	wantPages(t, m, s, append(append([]int{0, 1}, fromTo(128, 131)...), 150, 151, 152, 239, 254, 255))
}

func TestAttachAtTheEdges(t *testing.T) {
	m := newMem(t, 256)
	given := give(t, m, 113)
	s := exec(t, m, imageOf("t", "d"))
	for _, x := range []struct{ page, count int }{{128, 1}, {128, 2}, {128, 111}, {128, 112}, {129, 111}, {238, 1}, {238, 2}, {239, 1}} {
		left := m.Left()
		a := attach(t, m, s, x.page, given[:x.count], true)
		wantAtts(t, a, api.Att{Page: x.page, Count: x.count, Write: true})
		wantPages(t, m, a, append(append([]int{0, 1}, fromTo(x.page, x.page+x.count-1)...), 254, 255))
		wantSpace(t, detach(t, m, a, x.page), s)
		wantLeft(t, m, left)
	}
	for _, x := range []struct{ page, count int }{{127, 1}, {127, 2}, {128, 113}, {129, 112}, {239, 2}, {238, 3}, {240, 1}, {241, 1}, {253, 1}, {254, 1}, {254, 2}, {255, 1}, {0, 1}, {1, 1}, {0, 113}, {127, 113}} {
		refuseAttach(t, m, s, x.page, given[:x.count], api.ErrArg)
	}
	for _, page := range append([]int{0, 127, 128, 200, 239, 240}, farNumbers...) {
		refuseAttach(t, m, s, page, nil, api.ErrArg)
		refuseAttach(t, m, s, page, []int{}, api.ErrArg)
		refuseAttach(t, m, s, page, given[:0], api.ErrArg)
	}
	for _, page := range farNumbers {
		for _, count := range []int{1, 2, 112, 113} {
			refuseAttach(t, m, s, page, given[:count], api.ErrArg)
		}
	}
	refuseAttach(t, m, s, 128, make([]int, 1<<16), api.ErrArg)
}

func TestAttachOverPagesThatAreMapped(t *testing.T) {
	m := newMem(t, 60)
	given := give(t, m, 9)
	s := attach(t, m, exec(t, m, imageOf("t", "d")), 140, given[:3], false)
	for _, x := range []struct{ page, count int }{{140, 1}, {141, 1}, {142, 1}, {139, 2}, {142, 2}, {139, 5}, {132, 9}, {140, 3}, {142, 9}} {
		refuseAttach(t, m, s, x.page, given[:x.count], api.ErrExists)
	}
	s = attach(t, m, s, 139, given[:1], false)
	s = attach(t, m, s, 143, given[:1], false)
	wantAtts(t, s, api.Att{Page: 139, Count: 1}, api.Att{Page: 140, Count: 3}, api.Att{Page: 143, Count: 1})
	s = detach(t, m, s, 140)
	refuseAttach(t, m, s, 139, given[:4], api.ErrExists)
	refuseAttach(t, m, s, 140, given[:4], api.ErrExists)
	s = attach(t, m, s, 140, given[:3], true)
	wantAtts(t, s, api.Att{Page: 139, Count: 1}, api.Att{Page: 140, Count: 3, Write: true}, api.Att{Page: 143, Count: 1})
}

// One frame that is not in use is enough, first, in the middle, or last.
func TestAttachOfFrameNotInUse(t *testing.T) {
	m := newMem(t, 40)
	given := give(t, m, 6)
	s := exec(t, m, imageOf("t", "d"))
	m.Free(given[5])
	// The first one that is free would become a table on the way.
	for _, bad := range append([]int{given[5], 20, 39, 40, 255}, farNumbers...) {
		for k := range 5 {
			l := slices.Clone(given[:5])
			l[k] = bad
			refuseAttach(t, m, s, 141, l, api.ErrFrame)
		}
		refuseAttach(t, m, s, 141, []int{bad}, api.ErrFrame)
		refuseAttach(t, m, s, 141, []int{bad, bad}, api.ErrFrame)
	}
}

func TestAttachOfFrameThatCantBeShared(t *testing.T) {
	for k := range 5 {
		m := newMem(t, 40)
		given := give(t, m, 5)
		s := exec(t, m, imageOf("t", "d"))
		shareUpTo(t, m, given[k], 1000)
		refuseAttach(t, m, s, 141, given, api.ErrMem)
		m.Free(given[k])
		a := attach(t, m, s, 141, given, false)
		wantRefs(t, m, 1000, given[k])
		refuseAttach(t, m, a, 200, given, api.ErrMem)
		detach(t, m, a, 141)
		// Given twice, it needs two references.
		refuseAttach(t, m, s, 141, []int{given[k], given[k]}, api.ErrMem)
		m.Free(given[k])
		attach(t, m, s, 141, []int{given[k], given[k]}, false)
	}
}

func TestAttachOfTooFewFrames(t *testing.T) {
	for _, x := range []struct{ page, count, need int }{{128, 1, 1}, {143, 2, 2}, {128, 112, 7}, {129, 111, 7}, {140, 30, 3}, {239, 1, 1}} {
		m := newMem(t, 200)
		given := give(t, m, x.count)
		s := exec(t, m, imageOf("t", "d"))
		for left := range x.need {
			taken := leave(t, m, left)
			refuseAttach(t, m, s, x.page, given, api.ErrMem)
			wantLeft(t, m, left)
			wantRefs(t, m, 1, given...)
			giveBack(m, taken)
		}
		leave(t, m, x.need)
		a := attach(t, m, s, x.page, given, false)
		wantLeft(t, m, 0)
		// No table is needed where there is one.
		if x.page%16 != 15 && x.count == 1 {
			a = attach(t, m, a, x.page+1, given, false)
			a = detach(t, m, a, x.page+1)
		}
		detach(t, m, a, x.page)
		wantLeft(t, m, x.need)
	}
}

// Where several errors apply, the one that is named first is told.
func TestAttachTellsTheFirstError(t *testing.T) {
	m := newMem(t, 20)
	given := give(t, m, 3)
	s := attach(t, m, exec(t, m, imageOf("t", "d")), 143, given[:1], true)
	shareUpTo(t, m, given[1], 1000)
	free := give(t, m, 1)
	leave(t, m, 0)
	m.Free(free[0])
	refuseAttach(t, m, s, 240, []int{free[0]}, api.ErrArg)
	refuseAttach(t, m, s, 127, []int{given[1], given[2]}, api.ErrArg)
	refuseAttach(t, m, s, 142, []int{free[0], free[0]}, api.ErrExists)
	refuseAttach(t, m, s, 142, []int{given[1], free[0]}, api.ErrExists)
	refuseAttach(t, m, s, 141, []int{given[1], free[0]}, api.ErrFrame)
	refuseAttach(t, m, s, 141, []int{free[0], given[1]}, api.ErrFrame)
	refuseAttach(t, m, s, 141, []int{given[2], given[1]}, api.ErrMem)
	refuseAttach(t, nil, s, 240, []int{free[0]}, api.ErrNil)
}

// P4.2: Detach

func TestDetach(t *testing.T) {
	m := newMem(t, 60)
	given := give(t, m, 4)
	s := exec(t, m, imageOf("t", "d"))
	left := m.Left()
	s = attach(t, m, s, 128, given, true)
	s = attach(t, m, s, 160, given[:2], false)
	s = attach(t, m, s, 142, given[1:], true)
	wantRefs(t, m, 4, given[1])
	for _, page := range append([]int{0, 1, 127, 129, 131, 132, 141, 143, 144, 145, 159, 161, 162, 239, 240, 254}, farNumbers...) {
		refuseDetach(t, m, s, page, api.ErrArg)
	}
	s = detach(t, m, s, 142)
	wantAtts(t, s, api.Att{Page: 128, Count: 4, Write: true}, api.Att{Page: 160, Count: 2})
	wantPages(t, m, s, []int{0, 1, 128, 129, 130, 131, 160, 161, 254, 255})
	wantRefs(t, m, 3, given[0], given[1])
	wantRefs(t, m, 2, given[2], given[3])
	refuseDetach(t, m, s, 142, api.ErrArg)
	s = detach(t, m, s, 128)
	s = detach(t, m, s, 160)
	wantAtts(t, s)
	wantPages(t, m, s, []int{0, 1, 254, 255})
	wantRefs(t, m, 1, given...)
	wantLeft(t, m, left)
	refuseDetach(t, m, s, 128, api.ErrArg)
}

func TestDetachFreesWhatNobodyElseHas(t *testing.T) {
	m := newMem(t, 30)
	given := give(t, m, 2)
	s := exec(t, m, imageOf("t", "d"))
	left := m.Left()
	s = attach(t, m, s, 128, []int{given[0], given[1], given[0]}, true)
	giveBack(m, given)
	out(t, m, s, 128*64, "still there")
	wantIn(t, m, s, 130*64, "still there")
	c := fork(t, m, s)
	s = detach(t, m, s, 128)
	wantIn(t, m, c, 130*64, "still there")
	wantRefs(t, m, 2, given[0])
	wantRefs(t, m, 1, given[1])
	drop(t, m, c)
	wantRefs(t, m, 0, given...)
	wantLeft(t, m, left+2)
	drop(t, m, s)
	wantLeft(t, m, 30)
}

// P4.2: Drop

func TestDrop(t *testing.T) {
	m := newMem(t, 256)
	given := give(t, m, 10)
	m.Write(given[3], 0, "given")
	s := exec(t, m, imageOf(pattern(255), pattern(255)))
	s = grow(t, m, s, 60)
	s = attach(t, m, s, 139, given, true)
	s = attach(t, m, s, 235, given[5:], false)
	other := exec(t, m, imageOf("other", ""))
	left := m.Left()
	drop(t, m, s)
	wantRefs(t, m, 1, given...)
	// 70 pages of its own, a root, tables of text and heap (5), attachments (3), stack
	wantLeft(t, m, left+70+1+5+3+1)
	if b, _ := m.Read(given[3], 0, 5); b != "given" {
		t.Errorf("a given frame's bytes became %q", b)
	}
	wantIn(t, m, other, 0, "other")
	refuseDrop(t, m, s, api.ErrFrame)
	drop(t, m, other)
	wantLeft(t, m, 246)
}

func TestOfNilMemory(t *testing.T) {
	m := newMem(t, 30)
	s := attach(t, m, exec(t, m, imageOf("t", "d")), 128, give(t, m, 1), true)
	for _, x := range []api.Space{{}, s} {
		for _, k := range append([]int{0, 1, 128, 129, 240}, farNumbers...) {
			refuseGrow(t, nil, x, k, api.ErrNil)
			refuseAttach(t, nil, x, k, []int{0}, api.ErrNil)
			refuseAttach(t, nil, x, k, nil, api.ErrNil)
			refuseDetach(t, nil, x, k, api.ErrNil)
		}
		refuseFork(t, nil, x, api.ErrNil)
		refuseDrop(t, nil, x, api.ErrNil)
	}
}

// A space that is dropped has no root any more.
func TestOfDroppedSpace(t *testing.T) {
	m := newMem(t, 30)
	given := give(t, m, 1)
	s := grow(t, m, attach(t, m, exec(t, m, imageOf("t", "d")), 128, given, true), 2)
	drop(t, m, s)
	for _, pages := range []int{-2, -1, 0, 1} {
		refuseGrow(t, m, s, pages, api.ErrFrame)
	}
	refuseGrow(t, m, s, -3, api.ErrArg)
	refuseFork(t, m, s, api.ErrFrame)
	refuseAttach(t, m, s, 130, given, api.ErrFrame)
	refuseAttach(t, m, s, 240, given, api.ErrArg)
	refuseDetach(t, m, s, 128, api.ErrFrame)
	refuseDetach(t, m, s, 129, api.ErrArg)
	refuseDrop(t, m, s, api.ErrFrame)
}

// A space that another one was made of says what is not so any more: nothing is done by halves.
func TestOfStaleSpace(t *testing.T) {
	m := newMem(t, 40)
	given := give(t, m, 2)
	old := attach(t, m, grow(t, m, exec(t, m, imageOf("t", "d")), 4), 128, given, true)
	grown := grow(t, m, old, 2)
	refuseGrow(t, m, old, 1, api.ErrExists)
	refuseGrow(t, m, old, 5, api.ErrExists)
	shrunk := grow(t, m, grown, -3)
	refuseGrow(t, m, old, -2, api.ErrFault)
	refuseGrow(t, m, grown, -6, api.ErrFault)
	now := detach(t, m, shrunk, 128)
	refuseDetach(t, m, old, 128, api.ErrFault)
	attach(t, m, now, 129, given[:1], true)
	refuseDetach(t, m, old, 128, api.ErrFault)
	refuseAttach(t, m, now, 128, given, api.ErrExists)
}

// P4.2: Free

func TestFree(t *testing.T) {
	none := api.Space{Root: 3, Text: 4, Data: 4, Heap: 120}
	between := none
	between.Atts = []api.Att{{Page: 130, Count: 3}, {Page: 137, Count: 1, Write: true}, {Page: 138, Count: 2}, {Page: 150, Count: 80}}
	first := none
	first.Atts = []api.Att{{Page: 128, Count: 1}}
	last := none
	last.Atts = []api.Att{{Page: 239, Count: 1}}
	all := none
	all.Atts = []api.Att{{Page: 128, Count: 112}}
	halves := none
	halves.Atts = []api.Att{{Page: 128, Count: 56}, {Page: 184, Count: 56}}
	middle := none
	middle.Atts = []api.Att{{Page: 180, Count: 1}}
	for _, x := range []struct {
		s           api.Space
		count, want int
	}{
		{none, 0, 0}, {none, 1, 128}, {none, 2, 128}, {none, 111, 128}, {none, 112, 128}, {none, 113, 0}, {none, -1, 0},
		{api.Space{}, 1, 128}, {api.Space{}, 112, 128}, {api.Space{}, 0, 0}, {api.Space{}, 113, 0},
		{between, 0, 0}, {between, 1, 128}, {between, 2, 128}, {between, 3, 133}, {between, 4, 133}, {between, 5, 140}, {between, 10, 140}, {between, 11, 0}, {between, 112, 0}, {between, 113, 0},
		{first, 0, 0}, {first, 1, 129}, {first, 111, 129}, {first, 112, 0},
		{last, 1, 128}, {last, 111, 128}, {last, 112, 0},
		{all, 0, 0}, {all, 1, 0}, {all, 112, 0}, {all, 113, 0},
		{halves, 1, 0}, {halves, 56, 0},
		{middle, 1, 128}, {middle, 52, 128}, {middle, 53, 181}, {middle, 59, 181}, {middle, 60, 0},
	} {
		if page := Free(x.s, x.count); page != x.want {
			t.Errorf("Free(%+v, %d): %d; want %d", x.s.Atts, x.count, page, x.want)
		}
	}
	for _, s := range []api.Space{none, between, all} {
		for _, count := range farNumbers {
			if page := Free(s, count); page != 0 {
				t.Errorf("Free(%+v, %d): %d; want 0", s.Atts, count, page)
			}
		}
	}
}

func TestFreeBehindTheLast(t *testing.T) {
	m := newMem(t, 200)
	given := give(t, m, 112)
	s := exec(t, m, imageOf("t", "d"))
	for page := 128; page < 240; page += 7 {
		for count := 1; count <= 113; count++ {
			want := page
			if page+count > 240 {
				want = 0
			}
			if got := Free(s, count); got != want {
				t.Errorf("attached up to %d: Free(%d): %d; want %d", page, count, got, want)
			}
		}
		s = attach(t, m, s, page, given[:7], true)
	}
	if got := Free(s, 1); got != 0 {
		t.Errorf("all is attached: Free(1): %d", got)
	}
	s = detach(t, m, s, 156)
	if one, most, more := Free(s, 1), Free(s, 7), Free(s, 8); one != 156 || most != 156 || more != 0 {
		t.Errorf("a hole of 7 at 156: Free: %d, %d, %d", one, most, more)
	}
}

// What Free tells may be attached to, for so many pages, and no page ahead of it.
func TestFreeIsWhereSomethingMayBeAttached(t *testing.T) {
	m := newMem(t, 200)
	given := give(t, m, 112)
	s := exec(t, m, imageOf("t", "d"))
	for k := 0; ; k++ {
		count := k*5%9 + 1
		page := Free(s, count)
		for p := 128; p < page || page == 0 && p+count <= 240; p++ {
			refuseAttach(t, m, s, p, given[:count], api.ErrExists)
		}
		if page == 0 {
			break
		}
		s = attach(t, m, s, page, given[:count], k%2 == 0)
		if k%3 == 2 {
			s = detach(t, m, s, s.Atts[len(s.Atts)/2].Page)
		}
	}
}

// The lists that are given are neither written into nor kept, nor handed out again.

// roomy is a list with spare room behind it, whose items can be told.
func roomy(l []api.Att) []api.Att {
	all := append(slices.Clone(l), api.Att{Page: -1}, api.Att{Page: -2}, api.Att{Page: -3})
	return all[:len(l)]
}

// scribble writes over a list and its spare room.
func scribble(l []api.Att) {
	l = l[:cap(l)]
	for k := range l {
		l[k] = api.Att{Page: -9, Count: -9}
	}
}

func TestListsAreNotShared(t *testing.T) {
	makers := []func(m *frames.Mem, s api.Space, l []int) (api.Space, api.Errno){
		func(m *frames.Mem, s api.Space, l []int) (api.Space, api.Errno) {
			g, _, e := Grow(m, s, 1)
			return g, e
		},
		func(m *frames.Mem, s api.Space, l []int) (api.Space, api.Errno) {
			g, _, e := Grow(m, s, 0)
			return g, e
		},
		func(m *frames.Mem, s api.Space, l []int) (api.Space, api.Errno) {
			g, _, e := Grow(m, s, -1)
			return g, e
		},
		func(m *frames.Mem, s api.Space, l []int) (api.Space, api.Errno) { return Fork(m, s) },
		func(m *frames.Mem, s api.Space, l []int) (api.Space, api.Errno) { return Attach(m, s, 128, l, true) },
		func(m *frames.Mem, s api.Space, l []int) (api.Space, api.Errno) { return Attach(m, s, 239, l, true) },
		func(m *frames.Mem, s api.Space, l []int) (api.Space, api.Errno) { return Detach(m, s, 130) },
		func(m *frames.Mem, s api.Space, l []int) (api.Space, api.Errno) { return Detach(m, s, 140) },
		func(m *frames.Mem, s api.Space, l []int) (api.Space, api.Errno) { return api.Space{}, Drop(m, s) },
		// those that are refused
		func(m *frames.Mem, s api.Space, l []int) (api.Space, api.Errno) { return Attach(m, s, 130, l, true) },
		func(m *frames.Mem, s api.Space, l []int) (api.Space, api.Errno) { return Detach(m, s, 131) },
	}
	for k, do := range makers {
		m := newMem(t, 40)
		given := give(t, m, 1)
		s := grow(t, m, exec(t, m, imageOf("t", "d")), 1)
		s = attach(t, m, attach(t, m, s, 130, given, true), 140, given, false)
		want := slices.Clone(s.Atts)
		s.Atts = roomy(s.Atts)
		answer, _ := do(m, s, given)
		scribble(answer.Atts)
		all := s.Atts[:len(s.Atts)+3]
		if !slices.Equal(s.Atts, want) || all[2].Page != -1 || all[3].Page != -2 || all[4].Page != -3 {
			t.Errorf("call %d: the given list became %+v", k, all)
		}
		if given[0] != 0 || len(given) != 1 {
			t.Errorf("call %d: the frames' list became %d", k, given)
		}
	}
}

// Spaces that others gave are not promised anything, but that all calls end and none panics.
func TestOfAnySpace(t *testing.T) {
	numbers := append([]int{0, 1, 2, 127, 128, 130, 239, 240, 254, 255}, farNumbers...)
	for _, k := range numbers {
		for _, l := range numbers {
			for _, s := range []api.Space{
				{Root: k, Text: l}, {Text: k, Data: l}, {Data: k, Heap: l}, {Heap: k, Text: l},
				{Root: 5, Atts: []api.Att{{Page: k, Count: l}}},
				{Root: 2, Heap: 3, Atts: []api.Att{{Page: k, Count: l}, {Page: k, Count: l}, {}, {Page: l, Count: k, Write: true}}},
			} {
				m := newMem(t, 60)
				given := give(t, m, 2)
				exec(t, m, imageOf("t", "d"))
				Grow(m, s, k)
				Grow(m, s, l)
				Fork(m, s)
				Attach(m, s, k, given, true)
				Attach(m, s, 130, []int{l}, true)
				Detach(m, s, k)
				Detach(m, s, l)
				Free(s, k)
				Free(s, l)
				Drop(m, s)
			}
		}
	}
}

// P4.3

func TestChildAndParentAreApart(t *testing.T) {
	m := newMem(t, 80)
	given := give(t, m, 2)
	p := grow(t, m, exec(t, m, imageOf("text", pattern(100))), 3)
	p = attach(t, m, attach(t, m, p, 128, given[:1], true), 140, given[1:], false)
	own := []int{1, 2, 3, 4, 5, 254, 255}
	for _, page := range own {
		out(t, m, p, page*64, strings.Repeat("p", 64))
	}
	c := fork(t, m, p)
	for _, page := range own {
		out(t, m, c, page*64, strings.Repeat("c", 64))
		wantIn(t, m, p, page*64, strings.Repeat("p", 64))
		out(t, m, p, page*64, strings.Repeat("q", 64))
		wantIn(t, m, c, page*64, strings.Repeat("c", 64))
	}
	out(t, m, c, 128*64, "from the child")
	wantIn(t, m, p, 128*64, "from the child")
	out(t, m, p, 128*64, "from the parent")
	wantIn(t, m, c, 128*64, "from the parent")
	m.Write(given[1], 0, "from outside")
	wantIn(t, m, c, 140*64, "from outside")
	wantIn(t, m, p, 140*64, "from outside")
	if e := copyio.Out(m, c.Root, 140*64, "x"); e != api.ErrFault {
		t.Errorf("the child writes to what may be read alone: %d", e)
	}
	// What the one does to its pages the other one does not see.
	c = detach(t, m, grow(t, m, c, -3), 128)
	wantPages(t, m, p, append(fromTo(0, 5), 128, 140, 254, 255))
	wantIn(t, m, p, 128*64, "from the parent")
	drop(t, m, p)
	wantIn(t, m, c, 64, strings.Repeat("c", 128))
	wantIn(t, m, c, 140*64, "from outside")
	drop(t, m, c)
	wantLeft(t, m, 78)
	wantRefs(t, m, 1, given...)
}
