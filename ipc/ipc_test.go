package ipc

import (
	"errors"
	"math"
	"reflect"
	"runtime"
	"slices"
	"strconv"
	"strings"
	"testing"
	"weak"

	"taffrail/api"
)

// Flags, by short names.
const (
	create = api.FlagCreate
	excl   = api.FlagExcl
)

// Some who ask: super is the user 0; me makes things, most of the time.
var (
	super  = api.Cred{Uid: 0, Gid: 3}
	me     = api.Cred{Uid: 5, Gid: 6}
	friend = api.Cred{Uid: 7, Gid: 6}
	other  = api.Cred{Uid: 8, Gid: 8}
)

// wrongUsers are no users and no groups; the low bits of some would be ones.
var wrongUsers = []int{math.MinInt, math.MinInt + 5, math.MinInt32, -65536, -65531, -6, -5, -1, 65536, 65541, 65542, 1 << 20, math.MaxInt32, 1 << 32, 1<<32 + 5, math.MaxInt - 1, math.MaxInt}

// wrongFlags are no flags; the low bits of some would be.
var wrongFlags = []int{math.MinInt, math.MinInt + 1, math.MinInt + 512, math.MinInt32, -1 << 32, -4096, -2049, -2048, -2047, -1536, -1024, -512, -511, -1, 2048, 2049, 2048 + 0600, 2048 + 512, 2048 + 1024, 2048 + 1536, 4095, 4096, 4096 + 512, 1 << 16, 1<<16 + 512, 1 << 31, 1 << 32, 1<<32 + 512, 1<<32 + 0777, math.MaxInt32, math.MaxInt - 1, math.MaxInt}

// wrongModes are no modes; the low bits of some would be ones.
var wrongModes = []int{math.MinInt, math.MinInt + 0600, math.MinInt32, -512, -511, -1, 512, 513, 512 + 0600, 1023, 1024, 2047, 1<<32 + 0600, math.MaxInt32, math.MaxInt}

// wrongWants are not to be wanted, and not 0; the low bits of some would be.
var wrongWants = []int{math.MinInt, math.MinInt + 2, math.MinInt + 4, -8, -6, -4, -2, -1, 1, 3, 5, 7, 8, 10, 12, 14, 16, 1<<16 + 4, 1 << 32, 1<<32 + 2, 1<<32 + 6, math.MaxInt32, math.MaxInt}

// neverNumbers are of no thing at any time; the low bits of some would be.
var neverNumbers = []int{math.MinInt, math.MinInt + 1, math.MinInt + 8, math.MinInt32, -1 << 32, -1<<32 + 1, -32768, -32767, -9, -8, -7, -2, -1, 32768, 32769, 32776, 65536, 65537, 1 << 31, 1 << 32, 1<<32 + 1, 1<<32 + 8, math.MaxInt32, math.MaxInt - 7, math.MaxInt}

// edgeKeys are keys that are not KeyPrivate; the low bits of some would be those of others.
var edgeKeys = []int{1, 2, -1, -2, 255, 256, 257, 32767, 32768, 65535, 65536, 65537, -65536, math.MaxInt32, math.MinInt32, 1 << 32, 1<<32 + 1, -1 << 32, math.MaxInt, math.MaxInt - 1, math.MinInt, math.MinInt + 1}

// wrongCreds are right but for one number, or wrong in both.
func wrongCreds() []api.Cred {
	var l []api.Cred
	for _, k := range wrongUsers {
		l = append(l, api.Cred{Uid: k, Gid: 6}, api.Cred{Uid: 5, Gid: k}, api.Cred{Uid: 0, Gid: k}, api.Cred{Uid: k, Gid: k})
	}
	return l
}

// pair is a struct that is a thing.
type pair struct {
	a int
	b string
}

// is ends the test unless an error is the one that is asked. It and those below end it at the first fault, as tests that go through all modes would tell of each.
func is(t *testing.T, e, want api.Errno) {
	t.Helper()
	if e != want {
		t.Fatalf("error %d, not %d", e, want)
	}
}

// ids ends the test unless these are all numbers, in order.
func ids[T any](t *testing.T, n *Names[T], want ...int) {
	t.Helper()
	if l := n.Ids(); !slices.Equal(l, want) {
		t.Fatalf("the numbers\n%v, not\n%v", l, want)
	}
}

// same ends the test if a Names is not what it was.
func same[T comparable](t *testing.T, n *Names[T], before Names[T]) {
	t.Helper()
	if *n != before {
		t.Fatalf("it was changed:\n%v, not\n%v", *n, before)
	}
}

// makes ends the test unless a new thing is made, under that number.
func makes[T any](t *testing.T, n *Names[T], c api.Cred, key, flags int, v T, want int) {
	t.Helper()
	if id, made, e := n.Get(c, key, flags, v); id != want || !made || e != api.OK {
		t.Fatalf("Get(%v, %d, %#o, %v): %d, %v, %d, not %d, made", c, key, flags, v, id, made, e, want)
	}
}

// gets ends the test unless the thing of a key has that number, which changes nothing.
func gets[T comparable](t *testing.T, n *Names[T], c api.Cred, key, flags int, v T, want int) {
	t.Helper()
	before := *n
	if id, made, e := n.Get(c, key, flags, v); id != want || made || e != api.OK {
		t.Fatalf("Get(%v, %d, %#o, %v): %d, %v, %d, not %d, not made", c, key, flags, v, id, made, e, want)
	}
	same(t, n, before)
}

// getsNot ends the test unless getting is refused, which changes nothing.
func getsNot[T comparable](t *testing.T, n *Names[T], c api.Cred, key, flags int, v T, want api.Errno) {
	t.Helper()
	before := *n
	if id, made, e := n.Get(c, key, flags, v); id != 0 || made || e != want {
		t.Fatalf("Get(%v, %d, %#o, %v): %d, %v, %d, not error %d", c, key, flags, v, id, made, e, want)
	}
	same(t, n, before)
}

// finds ends the test unless a thing is found, which changes nothing.
func finds[T comparable](t *testing.T, n *Names[T], c api.Cred, id, want int, v T) {
	t.Helper()
	before := *n
	if found, e := n.Find(c, id, want); found != v || e != api.OK {
		t.Fatalf("Find(%v, %d, %d): %v, %d, not %v", c, id, want, found, e, v)
	}
	same(t, n, before)
}

// findsNot ends the test unless finding is refused, which changes nothing.
func findsNot[T comparable](t *testing.T, n *Names[T], c api.Cred, id, want int, e api.Errno) {
	t.Helper()
	before := *n
	var none T
	if v, got := n.Find(c, id, want); v != none || got != e {
		t.Fatalf("Find(%v, %d, %d): %v, %d, not error %d", c, id, want, v, got, e)
	}
	same(t, n, before)
}

// puts ends the test unless another thing can be put under a number.
func puts[T any](t *testing.T, n *Names[T], id int, v T) {
	t.Helper()
	if e := n.Put(id, v); e != api.OK {
		t.Fatalf("Put(%d, %v): %d", id, v, e)
	}
}

// perm ends the test unless that is a thing's permission, which telling does not change.
func perm[T comparable](t *testing.T, n *Names[T], id int, want api.Perm) {
	t.Helper()
	before := *n
	if p, e := n.Perm(id); p != want || e != api.OK {
		t.Fatalf("Perm(%d): %v, %d, not %v", id, p, e, want)
	}
	same(t, n, before)
}

// sets ends the test unless a thing can be given another owner, group and mode.
func sets[T any](t *testing.T, n *Names[T], c api.Cred, id, uid, gid, mode int) {
	t.Helper()
	if e := n.Set(c, id, uid, gid, mode); e != api.OK {
		t.Fatalf("Set(%v, %d, %d, %d, %#o): %d", c, id, uid, gid, mode, e)
	}
}

// setsNot ends the test unless setting is refused, which changes nothing.
func setsNot[T comparable](t *testing.T, n *Names[T], c api.Cred, id, uid, gid, mode int, want api.Errno) {
	t.Helper()
	before := *n
	if e := n.Set(c, id, uid, gid, mode); e != want {
		t.Fatalf("Set(%v, %d, %d, %d, %#o): %d, not %d", c, id, uid, gid, mode, e, want)
	}
	same(t, n, before)
}

// removes ends the test unless a thing is that one, and can be removed.
func removes[T comparable](t *testing.T, n *Names[T], c api.Cred, id int, want T) {
	t.Helper()
	if v, e := n.Remove(c, id); v != want || e != api.OK {
		t.Fatalf("Remove(%v, %d): %v, %d, not %v", c, id, v, e, want)
	}
}

// removesNot ends the test unless removing is refused, which changes nothing.
func removesNot[T comparable](t *testing.T, n *Names[T], c api.Cred, id int, want api.Errno) {
	t.Helper()
	before := *n
	var none T
	if v, e := n.Remove(c, id); v != none || e != want {
		t.Fatalf("Remove(%v, %d): %v, %d, not error %d", c, id, v, e, want)
	}
	same(t, n, before)
}

// permNot ends the test unless a number has no permission, for that reason.
func permNot[T comparable](t *testing.T, n *Names[T], id int, want api.Errno) {
	t.Helper()
	if p, e := n.Perm(id); p != (api.Perm{}) || e != want {
		t.Fatalf("Perm(%d): %v, %d, not error %d", id, p, e, want)
	}
}

// nothing ends the test unless numbers are of no things, whoever asks for what, and asking changes nothing.
func nothing[T comparable](t *testing.T, n *Names[T], v T, numbers ...int) {
	t.Helper()
	before := *n
	for _, id := range numbers {
		for _, c := range []api.Cred{super, me, other, {Uid: -1, Gid: 6}, {Uid: 5, Gid: 65536}} {
			for _, want := range []int{0, api.WantRead, api.WantWrite, 6, 1, -2} {
				findsNot(t, n, c, id, want, api.ErrId)
			}
			setsNot(t, n, c, id, 5, 6, 0600, api.ErrId)
			setsNot(t, n, c, id, -1, 6, 0600, api.ErrId)
			setsNot(t, n, c, id, 5, 65536, 01000, api.ErrId)
			removesNot(t, n, c, id, api.ErrId)
		}
		is(t, n.Put(id, v), api.ErrId)
		permNot(t, n, id, api.ErrId)
	}
	same(t, n, before)
}

// owned is the permission of what somebody made, at first.
func owned(c api.Cred, mode int) api.Perm {
	return api.Perm{Uid: c.Uid, Gid: c.Gid, Cuid: c.Uid, Cgid: c.Gid, Mode: mode}
}

// letters are the things of eight slots.
var letters = []string{"a", "b", "c", "d", "e", "f", "g", "h"}

// eight holds eight letters of mine, under the keys 10 to 17.
func eight(t *testing.T) *Names[string] {
	t.Helper()
	n := New[string]()
	for place, v := range letters {
		makes(t, n, me, 10+place, create|0640, v, place)
	}
	return n
}

// mixed holds three things under keys, and two under KeyPrivate, of three makers and several modes; the slots 2 and 6 were removed from, once.
func mixed(t *testing.T) *Names[string] {
	t.Helper()
	n := New[string]()
	makes(t, n, me, 9, create|0640, "mine", 0)
	makes(t, n, friend, api.KeyPrivate, 0600, "private", 1)
	makes(t, n, other, 8, create, "gone", 2)
	makes(t, n, other, -7, create|excl|0666, "theirs", 3)
	makes(t, n, me, api.KeyPrivate, create|0, "another", 4)
	makes(t, n, super, math.MinInt, create|0444, "all read", 5)
	makes(t, n, me, 6, create, "gone, too", 6)
	removes(t, n, me, 6, "gone, too")
	removes(t, n, other, 2, "gone")
	return n
}

// digits are the three of a mode, as they are written in octal.
func digits(mode int) [3]int {
	s := strconv.FormatInt(int64(mode), 8)
	s = strings.Repeat("0", 3-len(s)) + s
	return [3]int{int(s[0] - '0'), int(s[1] - '0'), int(s[2] - '0')}
}

// modelBits are those that somebody has of a permission, as chapter 5 words it.
func modelBits(c api.Cred, p api.Perm) int {
	switch l := digits(p.Mode); {
	case c.Uid == 0:
		return 7
	case c.Uid == p.Uid || c.Uid == p.Cuid:
		return l[0]
	case c.Gid == p.Gid || c.Gid == p.Cgid:
		return l[1]
	default:
		return l[2]
	}
}

// among tells whether all bits of some numbers are among those of one.
func among(held int, numbers ...int) bool {
	for bit := 1; bit < 8; bit *= 2 {
		for _, k := range numbers {
			if k&bit != 0 && held&bit == 0 {
				return false
			}
		}
	}
	return true
}

// P12.1

func TestNewNames(t *testing.T) {
	n := New[int]()
	if n == nil {
		t.Fatal("nil")
	}
	ids(t, n)
	for id := -100; id < 33000; id += 7 {
		nothing(t, n, 5, id)
	}
	nothing(t, n, 5, 0, 1, 7, 8, 32767)
	nothing(t, n, 5, neverNumbers...)
	for _, key := range append(slices.Clone(edgeKeys), 9) {
		for _, flags := range []int{0, 0777, excl, excl | 0600} {
			getsNot(t, n, me, key, flags, 5, api.ErrNoEnt)
			getsNot(t, n, super, key, flags, 5, api.ErrNoEnt)
		}
	}
	ids(t, n)
}

func TestNewNamesShareNothing(t *testing.T) {
	a, b := New[int](), New[int]()
	makes(t, a, me, 9, create|0600, 1, 0)
	ids(t, b)
	nothing(t, b, 3, 0)
	getsNot(t, b, me, 9, 0600, 3, api.ErrNoEnt)
	makes(t, b, other, 9, create|excl|0400, 2, 0)
	sets(t, a, me, 0, 1, 2, 3)
	perm(t, b, 0, owned(other, 0400))
	removes(t, a, me, 0, 1)
	finds(t, b, other, 0, api.WantRead, 2)
	makes(t, a, me, 4, create, 3, 8)
	ids(t, a, 8)
	ids(t, b, 0)
}

// nilNames ends the test unless nil Names answer ErrNil, and nothing beside it, whatever they are asked.
func nilNames[T comparable](t *testing.T, things ...T) {
	t.Helper()
	var n *Names[T]
	var none T
	for _, v := range append(things, none) {
		for _, c := range append(wrongCreds(), super, me, api.Cred{}) {
			for _, flags := range append([]int{0, 0777, create, excl, 2047}, wrongFlags...) {
				for _, key := range []int{0, 1, -1, math.MinInt} {
					if id, made, e := n.Get(c, key, flags, v); id != 0 || made || e != api.ErrNil {
						t.Fatalf("Get: %d, %v, %d", id, made, e)
					}
				}
			}
			for _, id := range append([]int{0, 1, 8}, neverNumbers...) {
				for _, want := range append([]int{0, 2, 4, 6}, wrongWants...) {
					if v, e := n.Find(c, id, want); v != none || e != api.ErrNil {
						t.Fatalf("Find: %v, %d", v, e)
					}
				}
				if v, e := n.Remove(c, id); v != none || e != api.ErrNil {
					t.Fatalf("Remove: %v, %d", v, e)
				}
				is(t, n.Set(c, id, 5, 6, 0600), api.ErrNil)
				is(t, n.Set(c, id, -1, 65536, 512), api.ErrNil)
				is(t, n.Put(id, v), api.ErrNil)
				permNot(t, n, id, api.ErrNil)
			}
		}
		ids(t, n)
	}
}

func TestNilNames(t *testing.T) {
	nilNames(t, 1, math.MinInt)
	nilNames(t, "a")
	nilNames(t, pair{a: 1, b: "c"})
	nilNames(t, new(int))
	nilNames[any](t, 1, "a")
	nilNames[struct{}](t)
}

// What nobody got from New keeps things all the same, and has none at first.
func TestNamesOfNothing(t *testing.T) {
	n := &Names[string]{}
	ids(t, n)
	nothing(t, n, "x", 0, 1, 8, -1)
	getsNot(t, n, me, 9, 0, "x", api.ErrNoEnt)
	makes(t, n, me, 9, create|0600, "a", 0)
	gets(t, n, me, 9, 0600, "x", 0)
	makes(t, n, me, 0, 0, "b", 1)
	removes(t, n, me, 0, "a")
	ids(t, n, 1)
}

// A key that is there and one that is not, KeyPrivate, and the flags' four ways, each with a mode that fits and one that doesn't.
func TestFlags(t *testing.T) {
	for _, x := range []struct {
		key, flags int
		want       api.Errno
		id         int
		made       bool
	}{
		{9, 0600, api.OK, 1, false},
		{9, create | 0600, api.OK, 1, false},
		{9, excl | 0600, api.OK, 1, false},
		{9, create | excl | 0600, api.ErrExists, 0, false},
		{9, 0700, api.ErrPerm, 0, false},
		{9, create | 0700, api.ErrPerm, 0, false},
		{9, excl | 0700, api.ErrPerm, 0, false},
		{9, create | excl | 0700, api.ErrExists, 0, false},
		{9, 0, api.OK, 1, false},
		{9, create, api.OK, 1, false},
		{9, excl, api.OK, 1, false},
		{9, create | excl, api.ErrExists, 0, false},
		{8, 0600, api.ErrNoEnt, 0, false},
		{8, create | 0600, api.OK, 2, true},
		{8, excl | 0600, api.ErrNoEnt, 0, false},
		{8, create | excl | 0600, api.OK, 2, true},
		{8, 0, api.ErrNoEnt, 0, false},
		{8, create, api.OK, 2, true},
		{8, excl, api.ErrNoEnt, 0, false},
		{8, create | excl, api.OK, 2, true},
		{8, create | excl | 0777, api.OK, 2, true},
		{api.KeyPrivate, 0600, api.OK, 2, true},
		{api.KeyPrivate, create | 0600, api.OK, 2, true},
		{api.KeyPrivate, excl | 0600, api.OK, 2, true},
		{api.KeyPrivate, create | excl | 0600, api.OK, 2, true},
		{api.KeyPrivate, 0, api.OK, 2, true},
		{api.KeyPrivate, create, api.OK, 2, true},
		{api.KeyPrivate, excl, api.OK, 2, true},
		{api.KeyPrivate, create | excl, api.OK, 2, true},
		{api.KeyPrivate, create | excl | 0777, api.OK, 2, true},
	} {
		n := New[string]()
		makes(t, n, me, api.KeyPrivate, 0600, "private", 0)
		makes(t, n, me, 9, create|0640, "it", 1)
		switch {
		case x.want != api.OK:
			getsNot(t, n, me, x.key, x.flags, "new", x.want)
			ids(t, n, 0, 1)
		case x.made:
			makes(t, n, me, x.key, x.flags, "new", x.id)
			finds(t, n, me, x.id, 0, "new")
			perm(t, n, x.id, owned(me, x.flags%512))
			ids(t, n, 0, 1, 2)
		default:
			gets(t, n, me, x.key, x.flags, "new", x.id)
			finds(t, n, me, x.id, 0, "it")
			ids(t, n, 0, 1)
		}
		finds(t, n, me, 0, 0, "private")
		finds(t, n, me, 1, 0, "it")
	}
}

// All flags that are right make a thing of their mode, if they say so; all others do not.
func TestAllFlags(t *testing.T) {
	for flags := range 2048 {
		n := New[int]()
		if flags&512 == 0 {
			getsNot(t, n, me, 3, flags, 1, api.ErrNoEnt)
			makes(t, n, me, api.KeyPrivate, flags, 1, 0)
			getsNot(t, n, me, api.KeyPrivate+1, flags, 1, api.ErrNoEnt)
		} else {
			makes(t, n, me, 3, flags, 1, 0)
		}
		perm(t, n, 0, owned(me, flags%512))
		ids(t, n, 0)
	}
}

// Who makes a thing is its owner and its maker, in the group that they are of.
func TestMakers(t *testing.T) {
	for _, uid := range []int{0, 1, 5, 255, 256, 32768, 65534, 65535} {
		for _, gid := range []int{0, 1, 6, 65534, 65535} {
			for _, mode := range []int{0, 1, 0070, 0640, 0777} {
				n, c := New[int](), api.Cred{Uid: uid, Gid: gid}
				makes(t, n, c, 3, create|mode, 4, 0)
				perm(t, n, 0, api.Perm{Uid: uid, Gid: gid, Cuid: uid, Cgid: gid, Mode: mode})
				makes(t, n, c, api.KeyPrivate, mode, 4, 1)
				perm(t, n, 1, owned(c, mode))
			}
		}
	}
}

// askers are who may ask for a thing that me made, and friend's group and other own: each digit is somebody's.
func askers() []api.Cred {
	return []api.Cred{
		{Uid: 0, Gid: 0},
		{Uid: 5, Gid: 1},
		{Uid: 7, Gid: 1},
		{Uid: 5, Gid: 8},
		{Uid: 1, Gid: 6},
		{Uid: 1, Gid: 8},
		{Uid: 1, Gid: 1},
		{Uid: 65535, Gid: 65535},
		{Uid: 6, Gid: 5},
	}
}

// Each mode that is there and each one that is asked for, for the maker, the owner, their groups, and others.
func TestAllModes(t *testing.T) {
	n := New[string]()
	makes(t, n, api.Cred{Uid: 5, Gid: 6}, 9, create, "it", 0)
	for mode := range 512 {
		sets(t, n, super, 0, 7, 8, mode)
		p := api.Perm{Uid: 7, Gid: 8, Cuid: 5, Cgid: 6, Mode: mode}
		perm(t, n, 0, p)
		for _, c := range askers() {
			bits := modelBits(c, p)
			for asked := range 512 {
				l := digits(asked)
				var want api.Errno
				if !among(bits, l[0], l[1], l[2]) {
					want = api.ErrPerm
				}
				if id, made, e := n.Get(c, 9, asked, "x"); id != 0 || made || e != want {
					t.Fatalf("mode %#o, %v asks for %#o: %d, %v, %d, not %d", mode, c, asked, id, made, e, want)
				}
			}
		}
	}
	finds(t, n, super, 0, 0, "it")
	ids(t, n, 0)
}

// What is asked for comes from three digits together, whosever they are.
func TestDigitsTogether(t *testing.T) {
	n := New[int]()
	makes(t, n, me, 9, create|0640, 1, 0)
	for _, asked := range []int{0, 0400, 0040, 0004, 0200, 0020, 0002, 0600, 0420, 0402, 0042, 0024, 0666, 0660} {
		gets(t, n, me, 9, asked, 2, 0)
		gets(t, n, me, 9, asked|create, 2, 0)
		gets(t, n, me, 9, asked|excl, 2, 0)
	}
	for _, asked := range []int{0100, 0010, 0001, 0421, 0701, 0007, 0111, 0777} {
		getsNot(t, n, me, 9, asked, 2, api.ErrPerm)
		gets(t, n, super, 9, asked, 2, 0)
	}
	for _, asked := range []int{0, 0400, 0040, 0004, 0440, 0444} {
		gets(t, n, friend, 9, asked, 2, 0)
	}
	for _, asked := range []int{0200, 0020, 0002, 0640, 0600, 0042, 0100, 0777} {
		getsNot(t, n, friend, 9, asked, 2, api.ErrPerm)
		getsNot(t, n, friend, 9, asked|create, 2, api.ErrPerm)
		getsNot(t, n, friend, 9, asked|excl, 2, api.ErrPerm)
	}
	gets(t, n, other, 9, 0, 2, 0)
	gets(t, n, other, 9, create, 2, 0)
	for asked := 1; asked < 512; asked++ {
		getsNot(t, n, other, 9, asked, 2, api.ErrPerm)
	}
}

// The user 0 has all bits, even of what nobody else has any of; the group 0 has none by that.
func TestUserZero(t *testing.T) {
	n := New[int]()
	makes(t, n, me, 9, create|0, 1, 0)
	for _, gid := range []int{0, 6, 65535} {
		gets(t, n, api.Cred{Uid: 0, Gid: gid}, 9, 0777, 2, 0)
		finds(t, n, api.Cred{Uid: 0, Gid: gid}, 0, 6, 1)
	}
	getsNot(t, n, me, 9, 0400, 2, api.ErrPerm)
	getsNot(t, n, api.Cred{Uid: 1, Gid: 0}, 9, 1, 2, api.ErrPerm)
	getsNot(t, n, super, 9, create|excl|0777, 2, api.ErrExists)
	getsNot(t, n, super, 8, 0777, 2, api.ErrNoEnt)
	makes(t, n, super, 8, create|0600, 3, 1)
	getsNot(t, n, me, 8, 0400, 2, api.ErrPerm)
	sets(t, n, super, 0, 65535, 0, 0)
	removes(t, n, super, 0, 1)
}

// KeyPrivate makes a new thing each time, and is never found.
func TestKeyPrivate(t *testing.T) {
	n := New[int]()
	flags := []int{0, create, excl, create | excl, 0777, create | excl | 0777, 0, 0}
	for place, f := range flags {
		makes(t, n, me, api.KeyPrivate, f, place, place)
	}
	ids(t, n, 0, 1, 2, 3, 4, 5, 6, 7)
	for place, f := range flags {
		finds(t, n, me, place, 0, place)
		perm(t, n, place, owned(me, f%512))
		getsNot(t, n, me, api.KeyPrivate, f, 9, api.ErrFull)
	}
	removes(t, n, me, 3, 3)
	makes(t, n, me, api.KeyPrivate, 0, 33, 11)
	finds(t, n, me, 11, 0, 33)
	getsNot(t, n, me, 1, 0, 9, api.ErrNoEnt)
}

// A key is a number like any other, and no other key is it.
func TestKeys(t *testing.T) {
	for k, key := range edgeKeys {
		n := New[int]()
		makes(t, n, me, key, create|0600, k, 0)
		for _, next := range edgeKeys {
			if next == key {
				gets(t, n, me, next, 0600, 9, 0)
			} else {
				getsNot(t, n, me, next, 0600, 9, api.ErrNoEnt)
			}
		}
		makes(t, n, me, api.KeyPrivate, 0, 9, 1)
		next := edgeKeys[(k+1)%len(edgeKeys)]
		makes(t, n, me, next, create|excl, 9, 2)
		gets(t, n, me, key, 0600, 9, 0)
		gets(t, n, me, next, 0, 9, 2)
		ids(t, n, 0, 1, 2)
	}
}

// Eight things, and one more by a key that is there, by one that is not, and by KeyPrivate.
func TestEightAndOneMore(t *testing.T) {
	n := New[string]()
	var given []int
	for place, v := range letters {
		ids(t, n, given...)
		makes(t, n, me, 10+place, create|excl|0640, v, place)
		given = append(given, place)
	}
	for place := range letters {
		gets(t, n, me, 10+place, 0600, "x", place)
		gets(t, n, me, 10+place, create|0600, "x", place)
		getsNot(t, n, me, 10+place, create|excl|0600, "x", api.ErrExists)
		getsNot(t, n, other, 10+place, create|0600, "x", api.ErrPerm)
	}
	for _, c := range []api.Cred{super, me, other} {
		for _, mode := range []int{0, 0600, 0777} {
			getsNot(t, n, c, 18, mode, "x", api.ErrNoEnt)
			getsNot(t, n, c, 18, excl|mode, "x", api.ErrNoEnt)
			getsNot(t, n, c, 18, create|mode, "x", api.ErrFull)
			getsNot(t, n, c, 18, create|excl|mode, "x", api.ErrFull)
			for _, f := range []int{0, create, excl, create | excl} {
				getsNot(t, n, c, api.KeyPrivate, f|mode, "x", api.ErrFull)
			}
		}
	}
	ids(t, n, given...)
	for place, v := range letters {
		finds(t, n, me, place, 6, v)
	}
	removes(t, n, me, 7, "h")
	makes(t, n, other, 18, create, "i", 15)
	getsNot(t, n, me, 17, create, "x", api.ErrFull)
	ids(t, n, 0, 1, 2, 3, 4, 5, 6, 15)
}

// Whichever of eight slots are free, the first one of them is the next thing's.
func TestFirstFreeSlot(t *testing.T) {
	for set := range 256 {
		n := eight(t)
		numbers := []int{0, 1, 2, 3, 4, 5, 6, 7}
		for place, v := range letters {
			if set>>place&1 == 1 {
				removes(t, n, me, place, v)
				getsNot(t, n, me, 10+place, 0, "x", api.ErrNoEnt)
			} else {
				gets(t, n, me, 10+place, 0, "x", place)
			}
		}
		for place := range letters {
			if set>>place&1 == 1 {
				makes(t, n, me, 20+place, create, "new", place+8)
				numbers[place] = place + 8
			}
		}
		getsNot(t, n, me, 30, create, "x", api.ErrFull)
		ids(t, n, numbers...)
		for place, id := range numbers {
			if id < 8 {
				gets(t, n, me, 10+place, 0, "x", id)
			} else {
				gets(t, n, me, 20+place, 0, "x", id)
			}
		}
	}
}

func TestWrongCreds(t *testing.T) {
	n := mixed(t)
	for _, c := range wrongCreds() {
		for _, key := range []int{9, 8, api.KeyPrivate} {
			for _, flags := range []int{0, 0777, create, excl, create | excl, 2048, -1} {
				getsNot(t, n, c, key, flags, "x", api.ErrCred)
			}
		}
		for _, id := range n.Ids() {
			findsNot(t, n, c, id, api.WantRead, api.ErrCred)
			findsNot(t, n, c, id, 1, api.ErrCred)
			setsNot(t, n, c, id, 5, 6, 0600, api.ErrCred)
			removesNot(t, n, c, id, api.ErrPerm)
		}
	}
}

func TestWrongFlags(t *testing.T) {
	n := mixed(t)
	for _, flags := range wrongFlags {
		for _, key := range []int{9, -7, 8, api.KeyPrivate, 77} {
			getsNot(t, n, me, key, flags, "x", api.ErrArg)
			getsNot(t, n, super, key, flags, "x", api.ErrArg)
		}
		getsNot(t, n, api.Cred{Uid: -1}, 9, flags, "x", api.ErrCred)
		getsNot(t, n, api.Cred{Gid: 65536}, 0, flags, "x", api.ErrCred)
	}
	full := eight(t)
	for _, flags := range wrongFlags {
		getsNot(t, full, me, 10, flags, "x", api.ErrArg)
		getsNot(t, full, me, 20, flags, "x", api.ErrArg)
		getsNot(t, full, me, api.KeyPrivate, flags, "x", api.ErrArg)
	}
}

// Which error is told where several would hold: the one that the promise names first.
func TestOrderOfErrors(t *testing.T) {
	n := eight(t)
	bad := api.Cred{Uid: 5, Gid: -1}
	getsNot(t, n, bad, 10, 2048|create|excl|0777, "x", api.ErrCred)
	getsNot(t, n, me, 10, 2048|create|excl|0777, "x", api.ErrArg)
	getsNot(t, n, other, 10, create|excl|0777, "x", api.ErrExists)
	getsNot(t, n, other, 10, create|0777, "x", api.ErrPerm)
	getsNot(t, n, other, 20, 0777, "x", api.ErrNoEnt)
	getsNot(t, n, other, 20, create|0777, "x", api.ErrFull)
	findsNot(t, n, bad, 8, 1, api.ErrId)
	findsNot(t, n, bad, 0, 1, api.ErrCred)
	findsNot(t, n, other, 0, 1, api.ErrCred)
	findsNot(t, n, other, 0, 4, api.ErrPerm)
	setsNot(t, n, bad, 8, -1, -1, -1, api.ErrId)
	setsNot(t, n, bad, 0, 5, 6, 0600, api.ErrCred)
	setsNot(t, n, other, 0, -1, 6, 0600, api.ErrCred)
	setsNot(t, n, other, 0, 5, 6, 0600, api.ErrPerm)
	removesNot(t, n, bad, 8, api.ErrId)
	removesNot(t, n, bad, 0, api.ErrPerm)
	removesNot(t, n, other, 8, api.ErrId)
	removesNot(t, n, other, 0, api.ErrPerm)
}

// P12.2

// What is wanted, of each mode, by the maker, the owner, their groups, and others.
func TestFindAllModes(t *testing.T) {
	n := New[string]()
	makes(t, n, me, 9, create, "it", 0)
	for mode := range 512 {
		sets(t, n, super, 0, 7, 8, mode)
		p := api.Perm{Uid: 7, Gid: 8, Cuid: 5, Cgid: 6, Mode: mode}
		for _, c := range askers() {
			for _, want := range []int{0, api.WantWrite, api.WantRead, api.WantWrite | api.WantRead} {
				if among(modelBits(c, p), want) {
					finds(t, n, c, 0, want, "it")
				} else {
					findsNot(t, n, c, 0, want, api.ErrPerm)
				}
			}
		}
	}
}

// Nothing is wanted: whoever asks, rightly or not, finds it.
func TestFindWantingNothing(t *testing.T) {
	n := mixed(t)
	for _, c := range append(wrongCreds(), super, me, friend, other, api.Cred{}) {
		for id, v := range map[int]string{0: "mine", 1: "private", 3: "theirs", 4: "another", 5: "all read"} {
			finds(t, n, c, id, 0, v)
		}
		findsNot(t, n, c, 2, 0, api.ErrId)
		findsNot(t, n, c, 10, 0, api.ErrId)
	}
}

func TestWrongWants(t *testing.T) {
	n := mixed(t)
	for _, want := range wrongWants {
		for _, id := range n.Ids() {
			for _, c := range []api.Cred{super, me, friend, other} {
				findsNot(t, n, c, id, want, api.ErrCred)
			}
		}
		findsNot(t, n, me, 2, want, api.ErrId)
	}
}

// Another thing has the key, the permission and the number of the one that it was put in the place of.
func TestPut(t *testing.T) {
	n := eight(t)
	want := slices.Clone(letters)
	sets(t, n, me, 3, 7, 8, 0666)
	for k := range 24 {
		place := k * 3 % 8
		want[place] = strconv.Itoa(k)
		puts(t, n, place, want[place])
		for at, v := range want {
			finds(t, n, me, at, 6, v)
			gets(t, n, me, 10+at, 0600, "x", at)
			if at != 3 {
				perm(t, n, at, owned(me, 0640))
			}
		}
		perm(t, n, 3, api.Perm{Uid: 7, Gid: 8, Cuid: 5, Cgid: 6, Mode: 0666})
		ids(t, n, 0, 1, 2, 3, 4, 5, 6, 7)
	}
	puts(t, n, 4, "")
	finds(t, n, me, 4, 6, "")
	removes(t, n, me, 4, "")
	is(t, n.Put(4, "y"), api.ErrId)
	is(t, n.Put(12, "y"), api.ErrId)
	makes(t, n, me, api.KeyPrivate, 0600, "z", 12)
	puts(t, n, 12, "y")
	finds(t, n, me, 12, 6, "y")
	is(t, n.Put(4, "y"), api.ErrId)
}

// Each of a permission's numbers is told, whatever was set.
func TestPermAndSet(t *testing.T) {
	n := eight(t)
	want := make([]api.Perm, 8)
	for place := range want {
		want[place] = owned(me, 0640)
	}
	for k, to := range []api.Perm{{Uid: 7, Gid: 8, Mode: 0}, {Uid: 0, Gid: 0, Mode: 0777}, {Uid: 65535, Gid: 65535, Mode: 1}, {Uid: 5, Gid: 6, Mode: 0640}, {Uid: 8, Gid: 6, Mode: 0004}, {Uid: 5, Gid: 65535, Mode: 0070}} {
		place := k * 5 % 8
		sets(t, n, me, place, to.Uid, to.Gid, to.Mode)
		want[place] = api.Perm{Uid: to.Uid, Gid: to.Gid, Cuid: 5, Cgid: 6, Mode: to.Mode}
		for at, p := range want {
			perm(t, n, at, p)
			finds(t, n, super, at, 6, letters[at])
			gets(t, n, super, 10+at, 0, "x", at)
		}
	}
	ids(t, n, 0, 1, 2, 3, 4, 5, 6, 7)
}

// A thing that is given to another one is theirs, too; who made it owns it still, whatever they set.
func TestGiven(t *testing.T) {
	n := New[string]()
	makes(t, n, me, 9, create|0600, "it", 0)
	setsNot(t, n, friend, 0, 7, 6, 0600, api.ErrPerm)
	sets(t, n, me, 0, 7, 8, 0600)
	perm(t, n, 0, api.Perm{Uid: 7, Gid: 8, Cuid: 5, Cgid: 6, Mode: 0600})
	finds(t, n, friend, 0, 6, "it")
	sets(t, n, friend, 0, 7, 8, 0)
	findsNot(t, n, me, 0, api.WantRead, api.ErrPerm)
	findsNot(t, n, friend, 0, api.WantRead, api.ErrPerm)
	getsNot(t, n, me, 9, 0400, "x", api.ErrPerm)
	sets(t, n, me, 0, 7, 8, 0600)
	finds(t, n, me, 0, 6, "it")
	sets(t, n, me, 0, 8, 8, 0600)
	setsNot(t, n, friend, 0, 7, 8, 0600, api.ErrPerm)
	findsNot(t, n, friend, 0, api.WantRead, api.ErrPerm)
	removesNot(t, n, friend, 0, api.ErrPerm)
	for _, c := range []api.Cred{super, me, other} {
		sets(t, n, c, 0, 8, 8, 0600)
	}
	removes(t, n, me, 0, "it")
}

// The groups of the owner and of the maker have the second digit; who owned it and did not make it has no more than others.
func TestGivenGroups(t *testing.T) {
	n := New[int]()
	makes(t, n, me, 9, create|0640, 1, 0)
	sets(t, n, me, 0, 7, 8, 0640)
	finds(t, n, api.Cred{Uid: 1, Gid: 6}, 0, api.WantRead, 1)
	finds(t, n, api.Cred{Uid: 1, Gid: 8}, 0, api.WantRead, 1)
	gets(t, n, api.Cred{Uid: 1, Gid: 8}, 9, 0444, 2, 0)
	getsNot(t, n, api.Cred{Uid: 1, Gid: 8}, 9, 0600, 2, api.ErrPerm)
	findsNot(t, n, api.Cred{Uid: 1, Gid: 8}, 0, api.WantWrite, api.ErrPerm)
	sets(t, n, friend, 0, 65535, 65535, 0640)
	findsNot(t, n, api.Cred{Uid: 7, Gid: 8}, 0, api.WantRead, api.ErrPerm)
	findsNot(t, n, api.Cred{Uid: 1, Gid: 8}, 0, api.WantRead, api.ErrPerm)
	finds(t, n, api.Cred{Uid: 1, Gid: 65535}, 0, api.WantRead, 1)
	finds(t, n, api.Cred{Uid: 65535, Gid: 1}, 0, 6, 1)
}

func TestWrongSets(t *testing.T) {
	n := mixed(t)
	for _, id := range n.Ids() {
		for _, c := range []api.Cred{super, me, other} {
			for _, wrong := range wrongUsers {
				setsNot(t, n, c, id, wrong, 6, 0600, api.ErrCred)
				setsNot(t, n, c, id, 5, wrong, 0600, api.ErrCred)
				setsNot(t, n, c, id, wrong, wrong, wrong, api.ErrCred)
			}
			for _, mode := range wrongModes {
				setsNot(t, n, c, id, 5, 6, mode, api.ErrCred)
			}
		}
	}
}

// Who may remove: the user 0, the owner, the maker, and nobody else, whatever the mode.
func TestWhoMayRemove(t *testing.T) {
	for _, mode := range []int{0, 0600, 0777} {
		for _, x := range []struct {
			c   api.Cred
			may bool
		}{
			{api.Cred{Uid: 0, Gid: 0}, true},
			{api.Cred{Uid: 5, Gid: 1}, true},
			{api.Cred{Uid: 7, Gid: 1}, true},
			{api.Cred{Uid: 1, Gid: 6}, false},
			{api.Cred{Uid: 1, Gid: 8}, false},
			{api.Cred{Uid: 6, Gid: 5}, false},
			{api.Cred{Uid: 8, Gid: 7}, false},
			{api.Cred{Uid: 65535, Gid: 65535}, false},
			{api.Cred{Uid: 5, Gid: -1}, false},
			{api.Cred{Uid: 0, Gid: 65536}, false},
			{api.Cred{Uid: -7, Gid: 8}, false},
		} {
			n := New[string]()
			makes(t, n, me, 9, create|mode, "it", 0)
			sets(t, n, me, 0, 7, 8, mode)
			if !x.may {
				removesNot(t, n, x.c, 0, api.ErrPerm)
				finds(t, n, x.c, 0, 0, "it")
				continue
			}
			removes(t, n, x.c, 0, "it")
			nothing(t, n, "x", 0, 8)
			ids(t, n)
		}
	}
}

// A key whose thing was removed is found no more, and may be got again, by anybody.
func TestKeyOfWhatWasRemoved(t *testing.T) {
	n := eight(t)
	removes(t, n, me, 3, "d")
	nothing(t, n, "x", 3, 11)
	getsNot(t, n, me, 13, 0, "x", api.ErrNoEnt)
	getsNot(t, n, me, 13, excl, "x", api.ErrNoEnt)
	makes(t, n, other, 13, create|excl|0604, "new", 11)
	perm(t, n, 11, owned(other, 0604))
	gets(t, n, me, 13, 0004, "x", 11)
	getsNot(t, n, me, 13, 0600, "x", api.ErrPerm)
	getsNot(t, n, me, 13, create|excl, "x", api.ErrExists)
	nothing(t, n, "x", 3, 19)
	removesNot(t, n, me, 11, api.ErrPerm)
	removes(t, n, other, 11, "new")
	for k := 2; k < 100; k++ {
		makes(t, n, me, 13, create|excl, strconv.Itoa(k), 8*k+3)
		gets(t, n, me, 13, create, "x", 8*k+3)
		removes(t, n, me, 8*k+3, strconv.Itoa(k))
		getsNot(t, n, me, 13, 0, "x", api.ErrNoEnt)
	}
	ids(t, n, 0, 1, 2, 4, 5, 6, 7)
}

// A key that is got again may be in another slot than it was.
func TestKeyInAnotherSlot(t *testing.T) {
	n := eight(t)
	removes(t, n, me, 6, "g")
	removes(t, n, me, 1, "b")
	makes(t, n, me, 16, create, "g again", 9)
	getsNot(t, n, me, 11, 0, "x", api.ErrNoEnt)
	gets(t, n, me, 16, 0, "x", 9)
	makes(t, n, me, 11, create, "b again", 14)
	gets(t, n, me, 11, 0, "x", 14)
	ids(t, n, 0, 9, 2, 3, 4, 5, 14, 7)
}

// Slots count on behind their last sequence, and keys go with them.
func TestLastSequence(t *testing.T) {
	n := New[int]()
	for k := range 4096 {
		makes(t, n, me, 9, create|excl|0600, k, 8*k)
		removes(t, n, me, 8*k, k)
	}
	makes(t, n, me, 9, create|excl|0600, 7, 0)
	gets(t, n, me, 9, 0600, 8, 0)
	nothing(t, n, 8, 32760, 8)
}

func TestWrongNumbers(t *testing.T) {
	n := mixed(t)
	nothing(t, n, "x", 2, 6, 7, 8, 9, 10, 11, 12, 13, 14, 15, 16, 18)
	nothing(t, n, "x", neverNumbers...)
	for _, id := range n.Ids() {
		for _, by := range []int{8, 1 << 15, 1 << 16, 1 << 32, math.MinInt} {
			nothing(t, n, "x", id+by, id-by)
		}
		nothing(t, n, "x", ^id)
	}
	for id := -50; id < 33000; id++ {
		if !slices.Contains(n.Ids(), id) {
			findsNot(t, n, super, id, 0, api.ErrId)
			permNot(t, n, id, api.ErrId)
		}
	}
}

// The numbers of none, of some, and of eight.
func TestIdsOfEachSet(t *testing.T) {
	for set := range 256 {
		n := eight(t)
		var want []int
		for place, v := range letters {
			if set>>place&1 == 0 {
				removes(t, n, super, place, v)
			} else {
				want = append(want, place)
			}
		}
		ids(t, n, want...)
	}
	ids(t, mixed(t), 0, 1, 3, 4, 5)
}

// What Ids answered is the caller's, room behind it too, and stays as it is.
func TestIdsAreNewMemory(t *testing.T) {
	n := eight(t)
	before := *n
	a, b := n.Ids(), n.Ids()
	for k := range a[:cap(a)] {
		a[:cap(a)][k] = 77
	}
	same(t, n, before)
	ids(t, n, 0, 1, 2, 3, 4, 5, 6, 7)
	if !slices.Equal(b, []int{0, 1, 2, 3, 4, 5, 6, 7}) {
		t.Error(b)
	}
	removes(t, n, me, 2, "c")
	removes(t, n, me, 7, "h")
	c := n.Ids()
	_ = append(c, 5, 5)
	makes(t, n, me, api.KeyPrivate, 0, "i", 10)
	if !slices.Equal(b, []int{0, 1, 2, 3, 4, 5, 6, 7}) || !slices.Equal(c, []int{0, 1, 3, 4, 5, 6}) {
		t.Error(b, c)
	}
	ids(t, n, 0, 1, 10, 3, 4, 5, 6)
}

// What was handed in, and what was told, are values: a change of them is none of the Names.
func TestThingsAreValues(t *testing.T) {
	n := New[[2]int]()
	v := [2]int{1, 2}
	makes(t, n, me, 9, create|0600, v, 0)
	v[0] = 9
	finds(t, n, me, 0, 6, [2]int{1, 2})
	w, _ := n.Find(me, 0, 6)
	w[1] = 9
	finds(t, n, me, 0, 6, [2]int{1, 2})
	puts(t, n, 0, w)
	w[0] = 8
	p, _ := n.Perm(0)
	p.Mode = 0777
	perm(t, n, 0, owned(me, 0600))
	removes(t, n, me, 0, [2]int{1, 9})
}

// things ends the test unless things of a type, the zero one among them, are made, found, put and removed.
func things[T comparable](t *testing.T, some ...T) {
	t.Helper()
	var none T
	some = append(some, none)
	n := New[T]()
	at := 0
	for _, v := range some {
		for _, w := range some {
			makes(t, n, me, 9, create|0600, v, at)
			makes(t, n, me, api.KeyPrivate, 0400, w, at+1)
			gets(t, n, me, 9, 0600, w, at)
			finds(t, n, me, at, 6, v)
			finds(t, n, me, at+1, 4, w)
			findsNot(t, n, me, at+1, 2, api.ErrPerm)
			findsNot(t, n, friend, at, 4, api.ErrPerm)
			removesNot(t, n, friend, at, api.ErrPerm)
			puts(t, n, at, w)
			puts(t, n, at+1, v)
			ids(t, n, at, at+1)
			removes(t, n, me, at, w)
			removes(t, n, me, at+1, v)
			nothing(t, n, v, at, at+1, at+8)
			ids(t, n)
			at += 8
		}
	}
}

func TestThingsOfManyTypes(t *testing.T) {
	things(t, 1, -1, math.MinInt, math.MaxInt)
	things(t, "a", "a longer one", "\x00", "\xff")
	things(t, pair{a: 1}, pair{b: "c"})
	things(t, new(int), new(int))
	things(t, true)
	things(t, 1.5, math.Inf(-1))
	things(t, [3]int{1, 2, 3})
	things(t, struct{}{})
	things[any](t, 1, "a", pair{a: 4}, api.ErrId)
	things[error](t, errors.New("a thing"))
	things(t, New[int](), New[int]())
	things(t, *eight(t))
	things(t, make(chan int))
	things(t, api.Perm{Uid: 1}, api.Perm{Mode: 0777})
}

// What can't be compared, or is equal to nothing, is a thing like any other.
func TestThingsThatAreNotCompared(t *testing.T) {
	lists := New[[]int]()
	makes(t, lists, me, 9, create|0600, []int{1, 2}, 0)
	makes(t, lists, me, 0, 0600, nil, 1)
	if l, e := lists.Find(me, 0, 6); !slices.Equal(l, []int{1, 2}) || e != api.OK {
		t.Error(l, e)
	}
	if l, e := lists.Find(other, 0, 6); l != nil || e != api.ErrPerm {
		t.Error(l, e)
	}
	if l, e := lists.Remove(other, 0); l != nil || e != api.ErrPerm {
		t.Error(l, e)
	}
	if l, e := lists.Remove(me, 0); !slices.Equal(l, []int{1, 2}) || e != api.OK {
		t.Error(l, e)
	}
	calls := New[func() int]()
	makes(t, calls, me, 9, create, func() int { return 7 }, 0)
	if f, e := calls.Find(me, 0, 0); e != api.OK || f() != 7 {
		t.Error(e)
	}
	numbers := New[float64]()
	makes(t, numbers, me, 9, create, math.NaN(), 0)
	if v, e := numbers.Remove(me, 0); !math.IsNaN(v) || e != api.OK {
		t.Error(v, e)
	}
	anything := New[any]()
	makes(t, anything, me, 9, create, any([]int{3}), 0)
	makes(t, anything, me, 8, create, nil, 1)
	if v, e := anything.Remove(me, 0); e != api.OK || !slices.Equal(v.([]int), []int{3}) {
		t.Error(v, e)
	}
	if v, e := anything.Find(me, 1, 0); v != nil || e != api.OK {
		t.Error(v, e)
	}
	ids(t, anything, 1)
}

// What was removed, what had another one put in its place, and what was refused is not kept.
func TestNothingIsKeptThatIsGone(t *testing.T) {
	n := New[*[64]int]()
	var seen []weak.Pointer[[64]int]
	for place := range 8 {
		p := new([64]int)
		seen = append(seen, weak.Make(p))
		makes(t, n, me, 10+place, create|0600, p, place)
	}
	for _, flags := range []int{0600, create, create | excl, 0777, 2048} {
		p := new([64]int)
		seen = append(seen, weak.Make(p))
		n.Get(me, 10, flags, p)
		n.Get(me, 20, flags, p)
	}
	for _, id := range []int{0, 4, 7} {
		n.Remove(me, id)
	}
	is(t, n.Put(2, nil), api.OK)
	runtime.GC()
	for place, w := range seen {
		if gone := w.Value() == nil; gone != (place >= 8 || slices.Contains([]int{0, 2, 4, 7}, place)) {
			t.Errorf("%d: gone %v", place, gone)
		}
	}
	runtime.KeepAlive(n)
}

// A Names has the calls that the chapter lists, and no others, nor fields, that come up from within.
func TestNoOtherCalls(t *testing.T) {
	of := reflect.TypeFor[*Names[int]]()
	var l []string
	for k := range of.NumMethod() {
		l = append(l, of.Method(k).Name)
	}
	if s := strings.Join(l, " "); s != "Find Get Ids Perm Put Remove Set" {
		t.Error(s)
	}
	for _, f := range reflect.VisibleFields(of.Elem()) {
		if f.IsExported() {
			t.Error(f.Name)
		}
	}
}

// A fault tells itself as a text by its number, and is found within what wraps it.
func TestFaults(t *testing.T) {
	if s := fault(api.ErrNoEnt).Error(); s != "error 110" {
		t.Error(s)
	}
	is(t, number(errors.Join(errors.New("a thing"), fault(api.ErrId))), api.ErrId)
	is(t, number(nil), api.OK)
	is(t, number(errors.New("no fault")), api.OK)
}

func TestExample(t *testing.T) {
	n := New[string]()
	c := api.Cred{Uid: 7, Gid: 9}
	makes(t, n, c, 5, 1024+512+0600, "it", 0)
	getsNot(t, n, c, 5, 1024+512+0600, "it", api.ErrExists)
}

// P12.3

// keysOf are the keys of what is held, in the order of the slots, as far as callers can tell: those of some keys that are found.
func keysOf(n *Names[string], keys ...int) []int {
	var l []int
	for _, id := range n.Ids() {
		for _, key := range keys {
			if found, _, e := n.Get(super, key, 0, "x"); e == api.OK && found == id {
				l = append(l, key)
			}
		}
	}
	return l
}

// No two things have one key, but KeyPrivate, in whatever ways they are got, by whomever.
func TestOneKeyOneThing(t *testing.T) {
	for _, first := range []api.Cred{super, me, other} {
		for _, then := range []api.Cred{super, me, friend, other} {
			for flags := range 2048 {
				n := New[string]()
				makes(t, n, me, api.KeyPrivate, 0, "p", 0)
				makes(t, n, first, 9, create|flags, "it", 1)
				for _, f := range []int{0, create, excl, create | excl} {
					if _, made, _ := n.Get(then, 9, f|flags, "new"); made {
						t.Fatalf("%v made it, %v again by %#o", first, then, flags)
					}
				}
				ids(t, n, 0, 1)
				finds(t, n, me, 1, 0, "it")
			}
		}
	}
}

func TestKeysAreApart(t *testing.T) {
	n := New[string]()
	keys := []int{1, 2, 3, 4, 5}
	for range 3 {
		for place, key := range keys {
			n.Get(me, key, create|0600, letters[place])
			n.Get(other, key, create|0600, "x")
			n.Get(me, key, create|excl|0600, "x")
		}
	}
	makes(t, n, me, api.KeyPrivate, 0600, "p", 5)
	makes(t, n, me, api.KeyPrivate, 0600, "q", 6)
	ids(t, n, 0, 1, 2, 3, 4, 5, 6)
	if l := keysOf(n, keys...); !slices.Equal(l, keys) {
		t.Error(l)
	}
	for place := range keys {
		finds(t, n, me, place, 6, letters[place])
	}
}

// Who may not, changes nothing: strangers, groups that may all, and those whose thing it was.
func TestWhoMayNotChangesNothing(t *testing.T) {
	n := New[string]()
	makes(t, n, me, 9, create|0077, "it", 0)
	sets(t, n, me, 0, 7, 8, 0077)
	sets(t, n, friend, 0, 9, 9, 0077)
	for _, c := range []api.Cred{{Uid: 7, Gid: 6}, {Uid: 7, Gid: 8}, {Uid: 1, Gid: 9}, {Uid: 1, Gid: 6}, {Uid: 1, Gid: 1}, {Uid: 6, Gid: 5}, {Uid: 65535, Gid: 0}} {
		setsNot(t, n, c, 0, c.Uid, c.Gid, 0777, api.ErrPerm)
		setsNot(t, n, c, 0, 9, 9, 0077, api.ErrPerm)
		removesNot(t, n, c, 0, api.ErrPerm)
		getsNot(t, n, c, 9, create|excl|0777, "x", api.ErrExists)
	}
	for _, c := range []api.Cred{me, {Uid: 9, Gid: 1}} {
		findsNot(t, n, c, 0, api.WantRead, api.ErrPerm)
		getsNot(t, n, c, 9, 0400, "x", api.ErrPerm)
		getsNot(t, n, c, 9, create|0007, "x", api.ErrPerm)
	}
	perm(t, n, 0, api.Perm{Uid: 9, Gid: 9, Cuid: 5, Cgid: 6, Mode: 0077})
	finds(t, n, super, 0, 6, "it")
	ids(t, n, 0)
}
