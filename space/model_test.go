package space

import (
	"maps"
	"math/rand"
	"slices"
	"testing"

	"taffrail/api"
	"taffrail/copyio"
	"taffrail/frames"
)

// mapping is what a model knows of a page.
type mapping struct{ frame, flags int }

// seen is what a model knows of a space.
type seen struct {
	space  api.Space
	tables map[int]int // by sixteen pages, which frame
	pages  map[int]mapping
}

func (s *seen) clone() *seen {
	return &seen{space: api.Space{Root: s.space.Root, Text: s.space.Text, Data: s.space.Data, Heap: s.space.Heap, Atts: slices.Clone(s.space.Atts)}, tables: maps.Clone(s.tables), pages: maps.Clone(s.pages)}
}

// model is what is known of a memory and its spaces, apart from how they are kept. What may fail is done to a copy of it, which is thrown away then.
type model struct {
	refs   []int
	bytes  [][64]byte
	spaces []*seen
}

func (w *model) clone() *model {
	c := &model{refs: slices.Clone(w.refs), bytes: slices.Clone(w.bytes)}
	for _, s := range w.spaces {
		c.spaces = append(c.spaces, s.clone())
	}
	return c
}

func (w *model) alloc() (int, bool) {
	k := slices.Index(w.refs, 0)
	if k < 0 {
		return 0, false
	}
	w.refs[k], w.bytes[k] = 1, [64]byte{}
	return k, true
}

func (w *model) share(frame int) bool {
	if w.refs[frame] >= 1000 {
		return false
	}
	w.refs[frame]++
	return true
}

func (w *model) mapPage(s *seen, page int, to mapping) bool {
	if _, there := s.tables[page/16]; !there {
		table, ok := w.alloc()
		if !ok {
			return false
		}
		s.tables[page/16] = table
	}
	s.pages[page] = to
	return true
}

func (w *model) addPage(s *seen, page, flags int, bytes [64]byte) bool {
	frame, ok := w.alloc()
	if !ok {
		return false
	}
	w.bytes[frame] = bytes
	return w.mapPage(s, page, mapping{frame, flags})
}

func (w *model) removePage(s *seen, page int) {
	w.refs[s.pages[page].frame]--
	delete(s.pages, page)
	for p := range s.pages {
		if p/16 == page/16 {
			return
		}
	}
	w.refs[s.tables[page/16]]--
	delete(s.tables, page/16)
}

// begin adds a space with a root alone.
func (w *model) begin(space api.Space) (*seen, bool) {
	root, ok := w.alloc()
	space.Root, space.Atts = root, slices.Clone(space.Atts)
	s := &seen{space: space, tables: map[int]int{}, pages: map[int]mapping{}}
	w.spaces = append(w.spaces, s)
	return s, ok
}

func (w *model) exec(text, data string) api.Errno {
	s, ok := w.begin(api.Space{Text: (len(text) + 63) / 64, Data: (len(data) + 63) / 64})
	lay := func(page, flags int, bytes string) {
		for ; len(bytes) > 0 && ok; page++ {
			var b [64]byte
			n := copy(b[:], bytes)
			bytes = bytes[n:]
			ok = w.addPage(s, page, flags, b)
		}
	}
	lay(0, 1, text)
	lay(s.space.Text, 3, data)
	if !ok || !w.addPage(s, 254, 3, [64]byte{}) || !w.addPage(s, 255, 3, [64]byte{}) {
		return api.ErrMem
	}
	return api.OK
}

func (w *model) grow(k, pages int) api.Errno {
	s := w.spaces[k]
	first := s.space.Text + s.space.Data
	if s.space.Heap+pages < 0 || first+s.space.Heap+pages > 128 {
		return api.ErrArg
	}
	for ; pages > 0; pages-- {
		if !w.addPage(s, first+s.space.Heap, 3, [64]byte{}) {
			return api.ErrMem
		}
		s.space.Heap++
	}
	for ; pages < 0; pages++ {
		s.space.Heap--
		w.removePage(s, first+s.space.Heap)
	}
	return api.OK
}

func (w *model) fork(k int) api.Errno {
	parent := w.spaces[k]
	s, ok := w.begin(parent.space)
	for _, page := range slices.Sorted(maps.Keys(parent.pages)) {
		p := parent.pages[page]
		if p.flags&4 != 0 {
			ok = ok && w.share(p.frame) && w.mapPage(s, page, p)
		} else {
			ok = ok && w.addPage(s, page, p.flags, w.bytes[p.frame])
		}
	}
	if !ok {
		return api.ErrMem
	}
	return api.OK
}

func (w *model) attach(k, page int, l []int, write bool) api.Errno {
	s := w.spaces[k]
	if len(l) == 0 || page < 128 || page > 239 || page+len(l) > 240 {
		return api.ErrArg
	}
	for p := page; p < page+len(l); p++ {
		if _, there := s.pages[p]; there {
			return api.ErrExists
		}
	}
	for _, frame := range l {
		if frame < 0 || frame >= len(w.refs) || w.refs[frame] == 0 {
			return api.ErrFrame
		}
	}
	flags := 5
	if write {
		flags = 7
	}
	for p, frame := range l {
		if !w.share(frame) || !w.mapPage(s, page+p, mapping{frame, flags}) {
			return api.ErrMem
		}
	}
	at := 0
	for at < len(s.space.Atts) && s.space.Atts[at].Page < page {
		at++
	}
	s.space.Atts = slices.Insert(s.space.Atts, at, api.Att{Page: page, Count: len(l), Write: write})
	return api.OK
}

func (w *model) detach(k, page int) api.Errno {
	s := w.spaces[k]
	for at, a := range s.space.Atts {
		if a.Page == page {
			s.space.Atts = slices.Delete(s.space.Atts, at, at+1)
			for p := range a.Count {
				w.removePage(s, page+p)
			}
			return api.OK
		}
	}
	return api.ErrArg
}

func (w *model) drop(k int) {
	for page := range maps.Clone(w.spaces[k].pages) {
		w.removePage(w.spaces[k], page)
	}
	w.refs[w.spaces[k].space.Root]--
	w.spaces = slices.Delete(w.spaces, k, k+1)
}

func (w *model) free(k, count int) int {
	if count < 1 {
		return 0
	}
search:
	for page := 128; page+count <= 240; page++ {
		for p := page; p < page+count; p++ {
			if _, there := w.spaces[k].pages[p]; there {
				continue search
			}
		}
		return page
	}
	return 0
}

// wantSame wants a memory and its spaces to be what the model says.
func (w *model) wantSame(t *testing.T, m *frames.Mem) {
	t.Helper()
	for frame, refs := range w.refs {
		if m.Refs(frame) != refs {
			t.Errorf("frame %d has %d references; want %d", frame, m.Refs(frame), refs)
		}
	}
	for _, s := range w.spaces {
		wantPages(t, m, s.space, slices.Sorted(maps.Keys(s.pages)))
		for page, p := range s.pages {
			wantPage(t, m, s.space, page, p.frame, p.flags)
			wantIn(t, m, s.space, page*64, string(w.bytes[p.frame][:]))
		}
	}
}

// run is a memory, its spaces, and their model.
type run struct {
	m     *frames.Mem
	now   *model
	r     *rand.Rand
	given []int
}

// frameOrNot is a frame that was given, now and then one that is not in use.
func (x *run) frameOrNot() int {
	if k := x.r.Intn(len(x.now.refs)+4) - 2; x.r.Intn(20) == 0 && x.m.Refs(k) == 0 {
		return k
	}
	return x.given[x.r.Intn(len(x.given))]
}

// judge holds what a call told against what the model says of it; the model that was tried on is the one from now on, if all went well.
func (x *run) judge(t *testing.T, what string, next *model, k int, s api.Space, e, want api.Errno) {
	t.Helper()
	if e != want {
		t.Fatalf("%s: %d; want %d", what, e, want)
	}
	if want != api.OK {
		wantSpace(t, s, api.Space{})
		return
	}
	x.now = next
	wantSpace(t, s, next.spaces[k].space)
}

// step does one thing in the memory and in its model.
func (x *run) step(t *testing.T) {
	next, r := x.now.clone(), x.r
	n := len(next.spaces)
	if n == 0 || r.Intn(20) == 0 && n < 6 {
		text, data := pattern(r.Intn(256)), pattern(r.Intn(256))
		s, e := Exec(x.m, imageOf(text, data))
		x.judge(t, "Exec", next, n, s, e, next.exec(text, data))
		return
	}
	k := r.Intn(n)
	old := x.now.spaces[k].space
	switch r.Intn(8) {
	case 0:
		if n < 6 {
			s, e := Fork(x.m, old)
			x.judge(t, "Fork", next, n, s, e, next.fork(k))
		}
	case 1, 2:
		pages := r.Intn(40) - 18
		s, at, e := Grow(x.m, old, pages)
		want := next.grow(k, pages)
		x.judge(t, "Grow", next, k, s, e, want)
		if end := (old.Text + old.Data + old.Heap) * 64; want == api.OK && at != end || want != api.OK && at != 0 {
			t.Errorf("Grow: at %d; the heap ended at %d", at, end)
		}
	case 3, 4:
		page, count, write := 126+r.Intn(116), r.Intn(9), r.Intn(2) == 0
		if r.Intn(2) == 0 {
			page = Free(old, count)
			if want := x.now.free(k, count); page != want {
				t.Fatalf("Free(%d): %d; want %d", count, page, want)
			}
		}
		var l []int
		for range count {
			l = append(l, x.frameOrNot())
		}
		s, e := Attach(x.m, old, page, l, write)
		x.judge(t, "Attach", next, k, s, e, next.attach(k, page, l, write))
	case 5:
		page := 126 + r.Intn(116)
		if len(old.Atts) > 0 && r.Intn(3) > 0 {
			page = old.Atts[r.Intn(len(old.Atts))].Page
		}
		s, e := Detach(x.m, old, page)
		x.judge(t, "Detach", next, k, s, e, next.detach(k, page))
	case 6:
		x.write(t, k)
	case 7:
		if r.Intn(3) == 0 {
			next.drop(k)
			drop(t, x.m, old)
			x.now = next
		}
	}
}

// write lays a byte into each page of a space that may be written to.
func (x *run) write(t *testing.T, k int) {
	s := x.now.spaces[k]
	for _, page := range slices.Sorted(maps.Keys(s.pages)) {
		b, at, want := byte(x.r.Intn(256)), x.r.Intn(64), api.ErrFault
		if p := s.pages[page]; p.flags&2 != 0 {
			x.now.bytes[p.frame][at], want = b, api.OK
		}
		if e := copyio.Out(x.m, s.space.Root, page*64+at, string([]byte{b})); e != want {
			t.Errorf("Out to page %d: %d; want %d", page, e, want)
		}
	}
}

// Spaces in one memory are what their model says, frame by frame, and behind dropping all of them nothing is left but what was given.
func TestAgainstModel(t *testing.T) {
	for seed := range int64(60) {
		r := rand.New(rand.NewSource(seed))
		total := []int{20, 60, 120, 256}[seed%4]
		m := newMem(t, total)
		x := &run{m: m, now: &model{refs: make([]int, total), bytes: make([][64]byte, total)}, r: r}
		x.given = give(t, m, 6)
		for _, frame := range x.given {
			x.now.alloc()
			// One of them is nearly not to be shared any more.
			if frame == 3 {
				shareUpTo(t, m, frame, 990)
				x.now.refs[frame] = 990
			}
		}
		for range 400 {
			x.step(t)
			x.now.wantSame(t, m)
			if t.Failed() {
				t.Fatalf("seed %d", seed)
			}
		}
		for len(x.now.spaces) > 0 {
			s := x.now.spaces[0].space
			x.now.drop(0)
			drop(t, m, s)
			x.now.wantSame(t, m)
		}
		wantLeft(t, m, total-6)
		for _, frame := range x.given {
			m.Free(frame)
		}
	}
}

// Fork, Attach and Exec at every number of frames that are left, in memories with holes: as many are left as before, and the next one who asks gets what it would have got.
func TestTooFewFramesChangeNothing(t *testing.T) {
	for left := range 40 {
		m := newMem(t, 200)
		given := give(t, m, 8)
		s := exec(t, m, imageOf(pattern(130), pattern(70)))
		s = grow(t, m, s, 12)
		s = attach(t, m, s, 141, given, true)
		taken := leave(t, m, 0)
		for k := range left {
			m.Free(taken[k*3])
		}
		before := look(m)
		for _, do := range []func() (api.Space, api.Errno){
			func() (api.Space, api.Errno) { return Exec(m, imageOf(pattern(255), pattern(255))) },
			func() (api.Space, api.Errno) { return Fork(m, s) },
			func() (api.Space, api.Errno) { return Attach(m, s, 160, slices.Repeat(given, 10), true) },
			func() (api.Space, api.Errno) {
				g, _, e := Grow(m, s, 30)
				return g, e
			},
		} {
			at := slices.IndexFunc(taken, func(frame int) bool { return m.Refs(frame) == 0 })
			made, e := do()
			if e == api.ErrMem {
				if !isZero(made) || !slices.Equal(look(m), before) {
					t.Errorf("%d left: %+v, or the memory was changed", left, made)
				}
				if at >= 0 {
					if frame, e := m.Alloc(); frame != taken[at] || e != api.OK {
						t.Errorf("%d left: the next frame is %d, %d; want %d", left, frame, e, taken[at])
					}
					m.Free(taken[at])
				}
			} else if e != api.OK {
				t.Errorf("%d left: %d", left, e)
			} else {
				// Back to what it was.
				if made.Root != s.Root {
					drop(t, m, made)
				} else if made.Heap != s.Heap {
					grow(t, m, made, -30)
				} else {
					detach(t, m, made, 160)
				}
				wantLeft(t, m, left)
			}
		}
	}
}
