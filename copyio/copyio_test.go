package copyio

import (
	"math"
	"math/rand"
	"slices"
	"strings"
	"testing"

	"taffrail/api"
	"taffrail/frames"
	"taffrail/ptable"
)

// The flags of a page that may be read alone, or written to as well.
const (
	readable = api.PagePresent
	writable = api.PagePresent | api.PageWrite
)

// end is the address behind the last page.
const end = 16384

// farNumbers are below 0 or past every limit, some of them so that a sum with another one wraps round.
var farNumbers = []int{math.MinInt, math.MinInt + 1, math.MinInt32, -16384, -4096, -64, -63, -1, 1 << 16, math.MaxInt32, 1 << 32, 1<<32 + 64, math.MaxInt - 4096, math.MaxInt - 1, math.MaxInt}

func newMem(t *testing.T, total int) *frames.Mem {
	t.Helper()
	m, e := frames.New(total)
	if e != api.OK {
		t.Fatalf("frames.New(%d): %d", total, e)
	}
	return m
}

func addRoot(t *testing.T, m *frames.Mem) int {
	t.Helper()
	root, e := ptable.New(m)
	if e != api.OK {
		t.Fatalf("ptable.New: %d", e)
	}
	return root
}

// addPage maps a page to a new frame.
func addPage(t *testing.T, m *frames.Mem, root, page, flags int) int {
	t.Helper()
	frame, e := m.Alloc()
	if e != api.OK {
		t.Fatalf("Alloc: %d", e)
	}
	mapPage(t, m, root, page, frame, flags)
	return frame
}

func mapPage(t *testing.T, m *frames.Mem, root, page, frame, flags int) {
	t.Helper()
	if e := ptable.Map(m, root, page, frame, flags); e != api.OK {
		t.Fatalf("Map(%d, %d, %d, %d): %d", root, page, frame, flags, e)
	}
}

// newSpace is a memory whose frame 0 is the root of tables with such pages, each mapped with the same flags.
func newSpace(t *testing.T, flags int, pages ...int) *frames.Mem {
	t.Helper()
	m := newMem(t, api.MaxFrames)
	root := addRoot(t, m)
	if root != 0 {
		t.Fatalf("the root is %d", root)
	}
	for _, p := range pages {
		addPage(t, m, root, p, flags)
	}
	return m
}

// fromTo are the numbers from one to another, both of them in.
func fromTo(first, last int) []int {
	var l []int
	for k := first; k <= last; k++ {
		l = append(l, k)
	}
	return l
}

// pattern is n bytes, no two pages of it alike.
func pattern(n int) string {
	b := make([]byte, n)
	for k := range b {
		b[k] = byte(k%251 + 1)
	}
	return string(b)
}

func wantCheck(t *testing.T, m *frames.Mem, root, addr, n int, write bool, want api.Errno) {
	t.Helper()
	if e := Check(m, root, addr, n, write); e != want {
		t.Errorf("Check(%d, %d, %d, %t): %d; want %d", root, addr, n, write, e, want)
	}
}

func wantIn(t *testing.T, m *frames.Mem, root, addr, n int, text string, want api.Errno) {
	t.Helper()
	if s, e := In(m, root, addr, n); s != text || e != want {
		t.Errorf("In(%d, %d, %d): %q, %d; want %q, %d", root, addr, n, s, e, text, want)
	}
}

func wantOut(t *testing.T, m *frames.Mem, root, addr int, s string, want api.Errno) {
	t.Helper()
	if e := Out(m, root, addr, s); e != want {
		t.Errorf("Out(%d, %d, %d bytes): %d; want %d", root, addr, len(s), e, want)
	}
}

func wantSpans(t *testing.T, addr, n, want int) {
	t.Helper()
	if k := Spans(addr, n); k != want {
		t.Errorf("Spans(%d, %d): %d; want %d", addr, n, k, want)
	}
}

func wantBytes(t *testing.T, m *frames.Mem, frame, at int, text string) {
	t.Helper()
	if s, e := m.Read(frame, at, len(text)); s != text || e != api.OK {
		t.Errorf("bytes of frame %d from %d on: %q, %d; want %q", frame, at, s, e, text)
	}
}

// look is all that a memory tells: references and bytes, frame by frame.
func look(m *frames.Mem) []string {
	var l []string
	for k := range m.Total() {
		s, _ := m.Read(k, 0, api.FrameSize)
		l = append(l, strings.Repeat("r", m.Refs(k))+" "+s)
	}
	return l
}

// wantSame does something, and wants the memory to be as it was before.
func wantSame(t *testing.T, m *frames.Mem, do func()) {
	t.Helper()
	before := look(m)
	do()
	if !slices.Equal(before, look(m)) {
		t.Error("the memory was changed")
	}
}

// wantAll wants one answer of all three calls on a span, and that none of them changes anything.
func wantAll(t *testing.T, m *frames.Mem, root, addr, n int, want api.Errno) {
	t.Helper()
	wantSame(t, m, func() {
		t.Helper()
		wantCheck(t, m, root, addr, n, false, want)
		wantCheck(t, m, root, addr, n, true, want)
		wantIn(t, m, root, addr, n, "", want)
		if n >= 0 && n <= 1<<16 {
			wantOut(t, m, root, addr, strings.Repeat("x", n), want)
		}
	})
}

// P3.1: Check

func TestCheckOfOrdinarySpans(t *testing.T) {
	m := newSpace(t, writable, 3, 4, 255)
	addPage(t, m, 0, 5, readable)
	for _, x := range []struct {
		addr, n     int
		read, write api.Errno
	}{
		{192, 1, api.OK, api.OK},
		{192, 64, api.OK, api.OK},
		{192, 128, api.OK, api.OK},
		{255, 1, api.OK, api.OK},
		{255, 2, api.OK, api.OK},
		{192, 129, api.OK, api.ErrFault},
		{192, 192, api.OK, api.ErrFault},
		{320, 1, api.OK, api.ErrFault},
		{383, 1, api.OK, api.ErrFault},
		{192, 193, api.ErrFault, api.ErrFault},
		{384, 1, api.ErrFault, api.ErrFault},
		{191, 1, api.ErrFault, api.ErrFault},
		{191, 2, api.ErrFault, api.ErrFault},
		{0, 1, api.ErrFault, api.ErrFault},
		{16319, 1, api.ErrFault, api.ErrFault},
		{16319, 65, api.ErrFault, api.ErrFault},
		{16320, 64, api.OK, api.OK},
		{16320, 65, api.ErrFault, api.ErrFault},
		{16383, 1, api.OK, api.OK},
		{16383, 2, api.ErrFault, api.ErrFault},
		{16384, 1, api.ErrFault, api.ErrFault},
	} {
		wantSame(t, m, func() {
			wantCheck(t, m, 0, x.addr, x.n, false, x.read)
			wantCheck(t, m, 0, x.addr, x.n, true, x.write)
		})
	}
}

func TestCheckOfFlags(t *testing.T) {
	m := newMem(t, 16)
	root := addRoot(t, m)
	for page, x := range []struct {
		flags int
		write api.Errno
	}{
		{api.PagePresent, api.ErrFault},
		{api.PagePresent | api.PageWrite, api.OK},
		{api.PagePresent | api.PageShared, api.ErrFault},
		{api.PagePresent | api.PageWrite | api.PageShared, api.OK},
	} {
		addPage(t, m, root, page, x.flags)
		wantCheck(t, m, root, page*64, 64, false, api.OK)
		wantCheck(t, m, root, page*64, 64, true, x.write)
	}
}

func TestCheckOfNilMemory(t *testing.T) {
	for _, k := range append([]int{0, 1, 4096, 4097, 16384, 16385}, farNumbers...) {
		for _, write := range []bool{false, true} {
			wantCheck(t, nil, k, 0, 1, write, api.ErrNil)
			wantCheck(t, nil, 0, k, 1, write, api.ErrNil)
			wantCheck(t, nil, 0, 0, k, write, api.ErrNil)
		}
		wantIn(t, nil, 0, k, 0, "", api.ErrNil)
		wantIn(t, nil, k, 0, k, "", api.ErrNil)
		wantOut(t, nil, k, k, "", api.ErrNil)
		wantOut(t, nil, k, k, pattern(4097), api.ErrNil)
	}
}

func TestCheckOfRootNotInUse(t *testing.T) {
	m := newMem(t, 8)
	root := addRoot(t, m)
	addPage(t, m, root, 0, writable)
	for _, bad := range append([]int{3, 7, 8, 255, 256}, farNumbers...) {
		for _, n := range append([]int{0, 1, 4096, 4097}, farNumbers...) {
			wantAll(t, m, bad, 0, n, api.ErrFrame)
			wantAll(t, m, bad, 16385, n, api.ErrFrame)
			wantAll(t, m, bad, -1, n, api.ErrFrame)
		}
	}
	ptable.Drop(m, root)
	wantAll(t, m, root, 0, 1, api.ErrFrame)
	wantAll(t, m, root, 0, 0, api.ErrFrame)
}

func TestCheckOfNumberOfBytes(t *testing.T) {
	m := newSpace(t, writable, fromTo(0, 64)...)
	for _, write := range []bool{false, true} {
		for _, n := range []int{0, 1, 63, 64, 65, 4095, 4096} {
			wantCheck(t, m, 0, 0, n, write, api.OK)
			wantCheck(t, m, 0, 64, n, write, api.OK)
		}
	}
	for _, n := range append([]int{-4097, 4097, 4098, 8192, 16384}, farNumbers...) {
		wantAll(t, m, 0, 0, n, api.ErrArg)
		wantAll(t, m, 0, 64, n, api.ErrArg)
	}
}

// A wrong number of bytes is told ahead of an address that is none, and of pages that are not mapped.
func TestCheckTellsArgAheadOfFault(t *testing.T) {
	m := newSpace(t, writable, 0)
	for _, n := range append([]int{4097}, farNumbers...) {
		for _, addr := range append([]int{0, 64, 16383, 16384, 16385}, farNumbers...) {
			wantAll(t, m, 0, addr, n, api.ErrArg)
		}
	}
}

func TestCheckOfNoAddress(t *testing.T) {
	m := newSpace(t, writable, append(fromTo(0, 70), fromTo(186, 255)...)...)
	for _, addr := range append([]int{-4097, -65, -2, 16385, 16386, 16448, 20480}, farNumbers...) {
		for _, n := range []int{0, 1, 2, 63, 64, 65, 128, 4096} {
			wantAll(t, m, 0, addr, n, api.ErrFault)
		}
	}
}

func TestCheckOfNoBytes(t *testing.T) {
	m := newSpace(t, readable, 1)
	for _, addr := range []int{0, 1, 63, 64, 65, 127, 128, 8000, 16383, 16384} {
		wantAll(t, m, 0, addr, 0, api.OK)
	}
	for _, addr := range append([]int{16385, 16448}, farNumbers...) {
		wantAll(t, m, 0, addr, 0, api.ErrFault)
	}
}

func TestCheckAtTheEnd(t *testing.T) {
	m := newSpace(t, writable, fromTo(191, 255)...)
	for _, n := range []int{1, 2, 63, 64, 65, 128, 4095, 4096} {
		for _, write := range []bool{false, true} {
			wantCheck(t, m, 0, end-n, n, write, api.OK)
		}
		wantAll(t, m, 0, end-n+1, n, api.ErrFault)
		wantAll(t, m, 0, end, n, api.ErrFault)
	}
}

// One page of the span, wherever it is, is enough to refuse it.
func TestCheckOfOnePageNotMapped(t *testing.T) {
	for _, hole := range []int{10, 11, 30, 73, 74} {
		m := newSpace(t, writable, slices.DeleteFunc(fromTo(9, 75), func(p int) bool { return p == hole })...)
		// from the last byte of page 10 to the first one of page 74
		wantAll(t, m, 0, 10*64+63, 2+63*64, api.ErrFault)
		wantAll(t, m, 0, hole*64, 1, api.ErrFault)
		wantAll(t, m, 0, hole*64+63, 1, api.ErrFault)
		wantAll(t, m, 0, hole*64-1, 2, api.ErrFault)
		wantAll(t, m, 0, hole*64+63, 2, api.ErrFault)
		wantCheck(t, m, 0, hole*64-1, 1, true, api.OK)
		wantCheck(t, m, 0, hole*64+64, 1, true, api.OK)
	}
}

func TestCheckOfOnePageNotWritable(t *testing.T) {
	for _, fixed := range []int{10, 11, 30, 73, 74} {
		m := newSpace(t, writable, slices.DeleteFunc(fromTo(9, 75), func(p int) bool { return p == fixed })...)
		addPage(t, m, 0, fixed, readable|api.PageShared)
		addr, n := 10*64+63, 2+63*64
		wantSame(t, m, func() {
			wantCheck(t, m, 0, addr, n, true, api.ErrFault)
			wantCheck(t, m, 0, addr, n, false, api.OK)
			wantOut(t, m, 0, addr, strings.Repeat("x", n), api.ErrFault)
			wantOut(t, m, 0, fixed*64, "x", api.ErrFault)
			wantOut(t, m, 0, fixed*64+63, "xy", api.ErrFault)
			wantOut(t, m, 0, fixed*64-1, "xy", api.ErrFault)
		})
		wantIn(t, m, 0, addr, n, strings.Repeat("\x00", n), api.OK)
		wantCheck(t, m, 0, fixed*64-1, 1, true, api.OK)
		wantCheck(t, m, 0, fixed*64+64, 1, true, api.OK)
	}
}

func TestCheckBehindUnmapping(t *testing.T) {
	m := newSpace(t, writable, 3, 4)
	wantCheck(t, m, 0, 250, 10, true, api.OK)
	ptable.Unmap(m, 0, 4)
	wantAll(t, m, 0, 250, 10, api.ErrFault)
	wantCheck(t, m, 0, 250, 6, true, api.OK)
}

// The flags of the pages are asked, not who else has the frames.
func TestCheckHangsOnPagesAlone(t *testing.T) {
	m := newSpace(t, writable, 0)
	mapPage(t, m, 0, 1, 200, readable)
	wantCheck(t, m, 0, 60, 8, false, api.OK)
	wantCheck(t, m, 0, 60, 8, true, api.ErrFault)
}

// P3.1: In

func TestInIsTheBytes(t *testing.T) {
	m := newSpace(t, readable, 0, 1, 2)
	text := pattern(192)
	for page := range 3 {
		frame, _, _ := ptable.Walk(m, 0, page)
		m.Write(frame, 0, text[page*64:page*64+64])
	}
	for addr := range 193 {
		for n := 0; addr+n <= 192; n++ {
			wantIn(t, m, 0, addr, n, text[addr:addr+n], api.OK)
		}
		wantIn(t, m, 0, addr, 193-addr, "", api.ErrFault)
	}
}

func TestInChangesNothing(t *testing.T) {
	m := newSpace(t, writable, fromTo(0, 64)...)
	wantOut(t, m, 0, 0, pattern(4096), api.OK)
	wantSame(t, m, func() {
		wantIn(t, m, 0, 0, 4096, pattern(4096), api.OK)
		wantIn(t, m, 0, 63, 2, pattern(4096)[63:65], api.OK)
	})
}

func TestInOfPagesInAnyFrames(t *testing.T) {
	m := newMem(t, 20)
	root := addRoot(t, m)
	// Later pages have earlier frames, and two pages one of them.
	for _, page := range []int{5, 4, 3} {
		addPage(t, m, root, page, writable)
	}
	first, _, _ := ptable.Walk(m, root, 3)
	mapPage(t, m, root, 6, first, readable)
	wantOut(t, m, root, 192, pattern(192), api.OK)
	wantIn(t, m, root, 192, 192, pattern(192), api.OK)
	wantIn(t, m, root, 192, 256, pattern(192)+pattern(64), api.OK)
	wantIn(t, m, root, 383, 2, pattern(192)[191:]+pattern(1), api.OK)
}

func TestInKeepsWhatItAnswered(t *testing.T) {
	m := newSpace(t, writable, 0, 1)
	wantOut(t, m, 0, 60, "abcdefgh", api.OK)
	s, _ := In(m, 0, 60, 8)
	one, _ := In(m, 0, 60, 2)
	wantOut(t, m, 0, 60, "--------", api.OK)
	if s != "abcdefgh" || one != "ab" {
		t.Errorf("what was read became %q, %q", s, one)
	}
}

// P3.2: Out

func TestOutOfTheChapter(t *testing.T) {
	m := newSpace(t, writable, 0, 1)
	wantOut(t, m, 0, 62, "abcd", api.OK)
	wantIn(t, m, 0, 63, 2, "bc", api.OK)
}

func TestOutWritesAllBytes(t *testing.T) {
	text := pattern(192)
	blank := strings.Repeat("\x00", 192)
	for addr := 0; addr <= 192; addr++ {
		for _, n := range []int{0, 1, 2, 63, 64, 65, 127, 128, 129, 192 - addr} {
			if addr+n > 192 {
				continue
			}
			m := newMem(t, 5)
			root := addRoot(t, m)
			var own []int
			for page := range 3 {
				own = append(own, addPage(t, m, root, page, writable))
			}
			wantOut(t, m, root, addr, text[:n], api.OK)
			all := blank[:addr] + text[:n] + blank[addr+n:]
			for page, frame := range own {
				wantBytes(t, m, frame, 0, all[page*64:page*64+64])
			}
		}
	}
}

func TestOutOfManyPages(t *testing.T) {
	m := newSpace(t, writable, fromTo(100, 166)...)
	for _, addr := range []int{6400, 6401, 6463, 6464} {
		text := pattern(4096)
		wantOut(t, m, 0, addr, text, api.OK)
		wantIn(t, m, 0, addr, 4096, text, api.OK)
		wantOut(t, m, 0, addr, strings.Repeat("\x00", 4096), api.OK)
	}
}

func TestOutAtBothEnds(t *testing.T) {
	m := newSpace(t, writable, 0, 254, 255)
	wantOut(t, m, 0, 0, "a", api.OK)
	wantOut(t, m, 0, 63, "b", api.OK)
	wantOut(t, m, 0, 16383, "z", api.OK)
	wantOut(t, m, 0, 16256, pattern(127), api.OK)
	wantIn(t, m, 0, 0, 64, "a"+strings.Repeat("\x00", 62)+"b", api.OK)
	wantIn(t, m, 0, 16256, 128, pattern(127)+"z", api.OK)
	wantSame(t, m, func() {
		wantOut(t, m, 0, 16383, "xy", api.ErrFault)
		wantOut(t, m, 0, 16384, "x", api.ErrFault)
		wantOut(t, m, 0, 16384, "", api.OK)
		wantOut(t, m, 0, 16385, "", api.ErrFault)
		wantOut(t, m, 0, -1, "xy", api.ErrFault)
		wantOut(t, m, 0, 63, "xy", api.ErrFault)
		wantOut(t, m, 0, 16255, "xy", api.ErrFault)
	})
}

func TestOutOfAnyBytes(t *testing.T) {
	m := newSpace(t, writable, 0, 1, 2, 3, 4)
	text := ""
	for k := range 256 {
		text += string([]byte{byte(k)})
	}
	wantOut(t, m, 0, 61, text, api.OK)
	wantIn(t, m, 0, 61, 256, text, api.OK)
	wantOut(t, m, 0, 62, "\xe2\x82\xac\xff", api.OK)
	wantIn(t, m, 0, 63, 2, "\x82\xac", api.OK)
}

// Where the pages of a span are is told ahead of writing: one of them may be a table's frame, which is written over.
func TestOutOverTables(t *testing.T) {
	m := newSpace(t, writable, 0, 1)
	table := 2 // the first page's frame was allocated ahead of its table
	mapPage(t, m, 0, 2, table, writable)
	mapPage(t, m, 0, 3, 0, writable)
	last := addPage(t, m, 0, 4, writable)
	wantOut(t, m, 0, 128, strings.Repeat("\x00", 128)+"end", api.OK)
	wantBytes(t, m, table, 0, strings.Repeat("\x00", 64))
	wantBytes(t, m, 0, 0, strings.Repeat("\x00", 64))
	wantBytes(t, m, last, 0, "end\x00")
}

// Of frames that are not in use the chapter says nothing; there is no panic, and no piece is written or read.
func TestFrameNotInUse(t *testing.T) {
	m := newSpace(t, writable, 0, 2)
	mapPage(t, m, 0, 1, 200, writable)
	wantSame(t, m, func() {
		wantIn(t, m, 0, 0, 192, "", api.ErrFrame)
		wantOut(t, m, 0, 0, pattern(192), api.ErrFrame)
	})
	wantOut(t, m, 0, 0, pattern(64), api.OK)
	wantOut(t, m, 0, 64, "", api.OK)
}

// P3.2: Spans

func TestSpans(t *testing.T) {
	for _, x := range []struct{ addr, n, want int }{
		{0, 0, 0}, {63, 0, 0}, {64, 0, 0}, {16383, 0, 0}, {16384, 0, 0},
		{0, 1, 1}, {63, 1, 1}, {64, 1, 1}, {16383, 1, 1},
		{63, 2, 2}, {64, 64, 1}, {1, 64, 2}, {1, 63, 1}, {0, 64, 1}, {0, 65, 2},
		{0, 128, 2}, {1, 128, 3}, {63, 65, 2}, {63, 66, 3},
		{0, 4096, 64}, {1, 4096, 65}, {63, 4096, 65}, {64, 4096, 64},
		{0, 4095, 64}, {1, 4095, 64}, {2, 4095, 65}, {63, 4034, 65}, {63, 4033, 64},
		{12288, 4096, 64}, {12289, 4096, 65}, {12352, 4096, 64},
		{16383, 2, 2}, {16383, 65, 2}, {16383, 66, 3}, {16383, 4096, 65},
		{16384, 1, 1}, {16384, 64, 1}, {16384, 65, 2}, {16384, 4096, 64},
		{16385, 0, 0}, {16385, 1, 0}, {16385, 4096, 0}, {-1, 0, 0}, {-1, 1, 0}, {-1, 2, 0}, {-64, 4096, 0},
		{0, -1, 0}, {0, 4097, 0}, {64, -64, 0}, {16384, 4097, 0}, {16385, 4097, 0},
	} {
		wantSpans(t, x.addr, x.n, x.want)
	}
	for _, far := range farNumbers {
		for _, near := range append([]int{0, 1, 63, 64, 4096, 16384}, farNumbers...) {
			wantSpans(t, far, near, 0)
			wantSpans(t, near, far, 0)
		}
	}
}

// Counted one by one, a span touches the pages of its bytes.
func TestSpansCountsPagesOfBytes(t *testing.T) {
	for _, addr := range []int{0, 1, 31, 62, 63, 64, 65, 127, 128, 8191, 16320, 16321, 16383, 16384} {
		pages := map[int]int{}
		for n := 1; n <= 4096; n++ {
			pages[(addr+n-1)/64]++
			wantSpans(t, addr, n, len(pages))
		}
	}
}

// P3.3

// model is what is known of a space's bytes, apart from how they are kept.
type model struct {
	flags [256]int
	bytes [end]byte
}

func (w *model) check(addr, n int, write bool) api.Errno {
	if n < 0 || n > 4096 {
		return api.ErrArg
	}
	if addr < 0 || addr > end || addr+n > end {
		return api.ErrFault
	}
	for k := addr; k < addr+n; k++ {
		if f := w.flags[k/64]; f == 0 || write && f&api.PageWrite == 0 {
			return api.ErrFault
		}
	}
	return api.OK
}

func (w *model) wantSame(t *testing.T, m *frames.Mem, root int) {
	t.Helper()
	for page, f := range w.flags {
		if f != 0 {
			wantIn(t, m, root, page*64, 64, string(w.bytes[page*64:page*64+64]), api.OK)
		} else {
			wantIn(t, m, root, page*64, 64, "", api.ErrFault)
		}
	}
}

// change maps a page, or unmaps it.
func (w *model) change(t *testing.T, m *frames.Mem, root, page, flags int) {
	if w.flags[page] != 0 {
		frame, _ := ptable.Unmap(m, root, page)
		m.Free(frame)
		w.flags[page] = 0
		return
	}
	if m.Left() < 2 {
		return
	}
	addPage(t, m, root, page, flags)
	w.flags[page] = flags
	clear(w.bytes[page*64 : page*64+64])
}

// step does one thing in the space and in its model.
func (w *model) step(t *testing.T, m *frames.Mem, root int, r *rand.Rand) {
	addr, n := r.Intn(end+70)-2, r.Intn(200)
	if r.Intn(8) == 0 {
		n = r.Intn(4100) - 1
	}
	switch r.Intn(6) {
	case 0:
		w.change(t, m, root, r.Intn(256), []int{1, 3, 5, 7, 3, 3, 7}[r.Intn(7)])
	case 1:
		wantCheck(t, m, root, addr, n, false, w.check(addr, n, false))
		wantCheck(t, m, root, addr, n, true, w.check(addr, n, true))
	case 2, 3:
		want, text := w.check(addr, n, false), ""
		if want == api.OK {
			text = string(w.bytes[addr : addr+n])
		}
		wantIn(t, m, root, addr, n, text, want)
	default:
		b := make([]byte, max(n, 0))
		r.Read(b)
		want := w.check(addr, len(b), true)
		if want == api.OK {
			copy(w.bytes[addr:], b)
		}
		wantOut(t, m, root, addr, string(b), want)
	}
}

// Two spaces in one memory are each what its model says: neither touches the other, nor its own tables.
func TestAgainstModel(t *testing.T) {
	for seed := range int64(20) {
		r := rand.New(rand.NewSource(seed))
		m := newMem(t, api.MaxFrames)
		roots := []int{addRoot(t, m), addRoot(t, m)}
		models := []*model{{}, {}}
		for k := range 2 {
			for page := r.Intn(100); page < 256 && m.Left() > 40; page++ {
				models[k].change(t, m, roots[k], page, writable)
			}
		}
		for step := range 600 {
			k := r.Intn(2)
			models[k].step(t, m, roots[k], r)
			if step%100 == 99 {
				models[0].wantSame(t, m, roots[0])
				models[1].wantSame(t, m, roots[1])
			}
		}
		if t.Failed() {
			t.Fatalf("seed %d", seed)
		}
	}
}

func TestOutChangesNothingBeside(t *testing.T) {
	m := newSpace(t, writable, 0, 1, 2, 17, 255)
	other := addRoot(t, m)
	own := addPage(t, m, other, 1, writable)
	for _, page := range []int{0, 1, 2, 17, 255} {
		wantOut(t, m, 0, page*64, strings.Repeat("o", 64), api.OK)
	}
	wantOut(t, m, other, 64, strings.Repeat("p", 64), api.OK)
	before := look(m)
	wantOut(t, m, 0, 100, strings.Repeat("n", 50), api.OK)
	after := look(m)
	first, _, _ := ptable.Walk(m, 0, 1)
	second, _, _ := ptable.Walk(m, 0, 2)
	for k := range before {
		if k != first && k != second && before[k] != after[k] {
			t.Errorf("frame %d was changed", k)
		}
	}
	wantBytes(t, m, first, 0, strings.Repeat("o", 36)+strings.Repeat("n", 28))
	wantBytes(t, m, second, 0, strings.Repeat("n", 22)+strings.Repeat("o", 42))
	wantBytes(t, m, own, 0, strings.Repeat("p", 64))
}

// Pages of two spaces that have one frame have one text.
func TestSharedFrame(t *testing.T) {
	m := newSpace(t, writable, 2)
	other := addRoot(t, m)
	frame, _, _ := ptable.Walk(m, 0, 2)
	m.Share(frame)
	mapPage(t, m, other, 9, frame, readable|api.PageShared)
	wantOut(t, m, 0, 130, "shared", api.OK)
	wantIn(t, m, other, 9*64+2, 6, "shared", api.OK)
	wantOut(t, m, other, 9*64+2, "x", api.ErrFault)
	wantIn(t, m, 0, 130, 6, "shared", api.OK)
}
