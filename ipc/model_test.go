package ipc

import (
	"math/rand"
	"slices"
	"strconv"
	"testing"

	"taffrail/api"
)

// entry is a thing that a model has.
type entry struct {
	key int
	p   api.Perm
	v   string
}

// model has things by their numbers, and for each slot the number that is given next.
type model struct {
	things map[int]entry
	next   [8]int
}

func newModel() *model {
	w := &model{things: map[int]entry{}}
	for place := range w.next {
		w.next[place] = place
	}
	return w
}

func (w *model) ids() []int {
	var l []int
	for place := range 8 {
		for id := range w.things {
			if id%8 == place {
				l = append(l, id)
			}
		}
	}
	return l
}

// user tells whether a number is a user's, or a group's.
func user(numbers ...int) bool {
	for _, k := range numbers {
		if k < 0 || k > 65535 {
			return false
		}
	}
	return true
}

// owner tells whether somebody is one.
func owner(c api.Cred, p api.Perm) bool {
	return c.Uid == 0 || c.Uid == p.Uid || c.Uid == p.Cuid
}

func (w *model) get(c api.Cred, key, flags int, v string) (int, bool, api.Errno) {
	if !user(c.Uid, c.Gid) {
		return 0, false, api.ErrCred
	}
	if flags < 0 || flags > 2047 {
		return 0, false, api.ErrArg
	}
	makes, fresh := flags/512%2 == 1, flags/1024 == 1
	for id, it := range w.things {
		if key == 0 || it.key != key {
			continue
		}
		if makes && fresh {
			return 0, false, api.ErrExists
		}
		l := digits(flags % 512)
		if !among(modelBits(c, it.p), l[0], l[1], l[2]) {
			return 0, false, api.ErrPerm
		}
		return id, false, api.OK
	}
	if key != 0 && !makes {
		return 0, false, api.ErrNoEnt
	}
	for _, id := range w.next {
		if _, held := w.things[id]; !held {
			w.things[id] = entry{key, owned(c, flags%512), v}
			return id, true, api.OK
		}
	}
	return 0, false, api.ErrFull
}

func (w *model) find(c api.Cred, id, want int) (string, api.Errno) {
	it, held := w.things[id]
	switch {
	case !held:
		return "", api.ErrId
	case want == 0:
		return it.v, api.OK
	case !user(c.Uid, c.Gid) || want != 2 && want != 4 && want != 6:
		return "", api.ErrCred
	case !among(modelBits(c, it.p), want):
		return "", api.ErrPerm
	}
	return it.v, api.OK
}

func (w *model) put(id int, v string) api.Errno {
	it, held := w.things[id]
	if !held {
		return api.ErrId
	}
	it.v = v
	w.things[id] = it
	return api.OK
}

func (w *model) set(c api.Cred, id, uid, gid, mode int) api.Errno {
	it, held := w.things[id]
	switch {
	case !held:
		return api.ErrId
	case !user(c.Uid, c.Gid, uid, gid) || mode < 0 || mode > 511:
		return api.ErrCred
	case !owner(c, it.p):
		return api.ErrPerm
	}
	it.p.Uid, it.p.Gid, it.p.Mode = uid, gid, mode
	w.things[id] = it
	return api.OK
}

func (w *model) remove(c api.Cred, id int) (string, api.Errno) {
	it, held := w.things[id]
	switch {
	case !held:
		return "", api.ErrId
	case !user(c.Uid, c.Gid) || !owner(c, it.p):
		return "", api.ErrPerm
	}
	delete(w.things, id)
	w.next[id%8] = (id + 8) % 32768
	return it.v, api.OK
}

// answer is what a call tells, of either side.
type answer struct {
	id   int
	made bool
	v    string
	e    api.Errno
}

// counts is how often the runs came to each error of each call (0: to none), and to what is seldom.
type counts struct {
	errors             map[string]int
	again, given, none int
}

// person is somebody who asks: of few users and groups, so that they meet; now and then nobody.
func person(r *rand.Rand) api.Cred {
	if r.Intn(30) == 0 {
		return wrongCreds()[r.Intn(len(wrongCreds()))]
	}
	return api.Cred{Uid: r.Intn(6), Gid: 1 + r.Intn(3)}
}

// flagged is flags: of few bits, mostly, so that they fit now and then.
func flagged(r *rand.Rand) int {
	if r.Intn(20) == 0 {
		return wrongFlags[r.Intn(len(wrongFlags))]
	}
	modes := []int{0, 0400, 0600, 0640, 0660, 0666, 0444, 0004, 0020, 0777, r.Intn(512)}
	return modes[r.Intn(len(modes))] + 512*r.Intn(4)
}

// some is one of few numbers that are right; now and then one of those that are wrong.
func some(r *rand.Rand, right, wrong []int) int {
	if r.Intn(15) == 0 {
		return wrong[r.Intn(len(wrong))]
	}
	return right[r.Intn(len(right))]
}

// number is one that may be asked for: of a thing, mostly, or of one that was, or will be, or of none.
func (w *model) number(r *rand.Rand) int {
	l := w.ids()
	switch k := r.Intn(10); {
	case k < 8 && len(l) > 0:
		return l[r.Intn(len(l))]
	case k < 9:
		return w.next[r.Intn(8)] - 8 + 8*r.Intn(3)
	}
	return neverNumbers[r.Intn(len(neverNumbers))]
}

// keys are few, so that they are met again.
var keys = []int{0, 1, 2, 3, 4, 5, 6, 7, -1, 1 << 32}

// step does one thing to both, and fails the test unless they tell the same. To ten other calls come so many Gets.
func (w *model) step(t *testing.T, n *Names[string], r *rand.Rand, gets int, c *counts) {
	t.Helper()
	var got, want answer
	who, id, v := person(r), w.number(r), strconv.Itoa(r.Intn(1000))
	kind := ""
	switch k := r.Intn(10 + gets); {
	case k < 1:
		kind = "put"
		got.e, want.e = n.Put(id, v), w.put(id, v)
	case k < 3:
		kind = "set"
		uid := some(r, []int{0, 1, 2, 3, 4, 5}, wrongUsers)
		gid := some(r, []int{1, 2, 3}, wrongUsers)
		mode := some(r, []int{0, 0600, 0640, 0666, 0604, 0060, 0777, r.Intn(512)}, wrongModes)
		got.e, want.e = n.Set(who, id, uid, gid, mode), w.set(who, id, uid, gid, mode)
		if want.e == api.OK && w.things[id].p.Cuid != uid {
			c.given++
		}
	case k < 6:
		kind = "find"
		wanted := some(r, []int{0, 2, 4, 6}, wrongWants)
		got.v, got.e = n.Find(who, id, wanted)
		want.v, want.e = w.find(who, id, wanted)
	case k < 10:
		kind = "remove"
		got.v, got.e = n.Remove(who, id)
		want.v, want.e = w.remove(who, id)
	default:
		kind = "get"
		key, flags := keys[r.Intn(len(keys))], flagged(r)
		got.id, got.made, got.e = n.Get(who, key, flags, v)
		want.id, want.made, want.e = w.get(who, key, flags, v)
		if want.made && want.id >= 8 && key != 0 {
			c.again++
		}
	}
	if got != want {
		t.Errorf("%s by %v of %d: %v, not %v", kind, who, id, got, want)
	}
	c.errors[kind+" "+strconv.Itoa(int(want.e))]++
	if len(w.things) == 0 {
		c.none++
	}
}

// same fails the test unless a Names holds what the model does.
func (w *model) same(t *testing.T, n *Names[string]) {
	t.Helper()
	ids(t, n, w.ids()...)
	for id, it := range w.things {
		perm(t, n, id, it.p)
		finds(t, n, api.Cred{}, id, 0, it.v)
		if it.key != 0 {
			gets(t, n, api.Cred{}, it.key, excl|0777, "x", id)
		}
	}
	for _, key := range keys[1:] {
		if !slices.ContainsFunc(w.ids(), func(id int) bool { return w.things[id].key == key }) {
			getsNot(t, n, api.Cred{}, key, excl|0777, "x", api.ErrNoEnt)
		}
	}
}

func TestAgainstTheModel(t *testing.T) {
	c := &counts{errors: map[string]int{}}
	for seed := range int64(10) {
		r := rand.New(rand.NewSource(seed))
		n, w := New[string](), newModel()
		for step := range 8000 {
			w.step(t, n, r, []int{6, 2, 15, 6}[step/100%4], c)
			w.same(t, n)
			if t.Failed() {
				t.Fatalf("seed %d, step %d", seed, step)
			}
		}
	}
	for _, kind := range []string{"get 0", "get 2", "get 20", "get 50", "get 51", "get 101", "get 110", "find 0", "find 50", "find 51", "find 100", "put 0", "put 100", "set 0", "set 50", "set 51", "set 100", "remove 0", "remove 51", "remove 100"} {
		if c.errors[kind] < 100 {
			t.Errorf("the runs tell little of %s: %d", kind, c.errors[kind])
		}
	}
	if c.again < 1000 || c.given < 1000 || c.none < 50 || len(c.errors) != 20 {
		t.Errorf("the runs tell little: %+v", *c)
	}
}

// toldBy is all that a run tells.
func toldBy(seed int64) []answer {
	r := rand.New(rand.NewSource(seed))
	n := New[string]()
	var l []answer
	for range 2000 {
		var a answer
		who := person(r)
		switch r.Intn(4) {
		case 0, 1:
			a.id, a.made, a.e = n.Get(who, r.Intn(10), flagged(r), strconv.Itoa(r.Intn(100)))
		case 2:
			a.v, a.e = n.Remove(who, r.Intn(100))
		case 3:
			a.v, a.e = n.Find(who, r.Intn(100), 2*r.Intn(4))
		}
		l = append(l, a)
		for _, id := range n.Ids() {
			p, e := n.Perm(id)
			l = append(l, answer{id: id, v: strconv.Itoa(p.Uid) + " " + strconv.Itoa(p.Mode), e: e})
		}
	}
	return l
}

// The same calls are told the same.
func TestTheSameAgain(t *testing.T) {
	for seed := range int64(5) {
		if !slices.Equal(toldBy(seed), toldBy(seed)) {
			t.Errorf("seed %d", seed)
		}
	}
}
