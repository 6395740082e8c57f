package cred

import (
	"math"
	"strconv"
	"strings"
	"testing"

	"taffrail/api"
)

// edgeUsers are users and groups at the edges of what is right.
var edgeUsers = []int{0, 1, 2, 255, 256, 32767, 32768, 65534, 65535}

// wrongUsers are no users and no groups; the low bits of some would be ones.
var wrongUsers = []int{math.MinInt, math.MinInt + 1, math.MinInt + 7, math.MinInt32, -65536, -65535, -7, -1, 65536, 65537, 65543, 1 << 20, math.MaxInt32, 1 << 32, 1<<32 + 7, math.MaxInt - 1, math.MaxInt}

// wrongModes are no modes; the low bits of some would be ones.
var wrongModes = []int{math.MinInt, math.MinInt + 511, math.MinInt32, -512, -511, -1, 512, 513, 1023, 0644 + 512, 07777, 65535, math.MaxInt32, 1 << 32, 1<<32 + 0777, math.MaxInt - 1, math.MaxInt}

// wrongWants are not to be wanted; the low bits of some would be.
var wrongWants = []int{math.MinInt, math.MinInt + 2, math.MinInt + 6, math.MinInt32, -8, -6, -4, -2, -1, 0, 1, 3, 5, 7, 8, 10, 12, 14, 16, 1<<32 + 2, 1<<32 + 4, math.MaxInt32, math.MaxInt - 1, math.MaxInt}

var rightWants = []int{api.WantWrite, api.WantRead, api.WantWrite | api.WantRead}

// thing has another owner and group than who made it.
func thing(mode int) api.Perm {
	return api.Perm{Uid: 7, Gid: 9, Cuid: 17, Cgid: 19, Mode: mode}
}

// person is somebody, and which digit of thing's mode, from the right, is theirs (4: all bits, whatever the mode).
type person struct {
	name  string
	c     api.Cred
	digit int
}

func people() []person {
	return []person{
		{"the user 0", api.Cred{Uid: 0, Gid: 0}, 4},
		{"the user 0, of the owner's group", api.Cred{Uid: 0, Gid: 9}, 4},
		{"the user 0, of the last group", api.Cred{Uid: 0, Gid: 65535}, 4},
		{"the owner", api.Cred{Uid: 7, Gid: 9}, 3},
		{"the owner, of the maker's group", api.Cred{Uid: 7, Gid: 19}, 3},
		{"the owner, of another group", api.Cred{Uid: 7, Gid: 1}, 3},
		{"the owner, of the group 0", api.Cred{Uid: 7, Gid: 0}, 3},
		{"the maker", api.Cred{Uid: 17, Gid: 19}, 3},
		{"the maker, of the owner's group", api.Cred{Uid: 17, Gid: 9}, 3},
		{"the maker, of another group", api.Cred{Uid: 17, Gid: 65535}, 3},
		{"one of the owner's group", api.Cred{Uid: 8, Gid: 9}, 2},
		{"one of the maker's group", api.Cred{Uid: 8, Gid: 19}, 2},
		{"the first user, of the owner's group", api.Cred{Uid: 1, Gid: 9}, 2},
		{"the last user, of the maker's group", api.Cred{Uid: 65535, Gid: 19}, 2},
		{"a stranger", api.Cred{Uid: 8, Gid: 8}, 1},
		{"a stranger of the group 0", api.Cred{Uid: 8, Gid: 0}, 1},
		{"a stranger whose user is the owner's group", api.Cred{Uid: 9, Gid: 8}, 1},
		{"a stranger whose group is the owner", api.Cred{Uid: 8, Gid: 7}, 1},
		{"a stranger whose group is the maker", api.Cred{Uid: 19, Gid: 17}, 1},
		{"the first user, of the last group", api.Cred{Uid: 1, Gid: 65535}, 1},
		{"the last user, of the first group", api.Cred{Uid: 65535, Gid: 1}, 1},
	}
}

// digitOf is a digit of a mode as it is written in octal, the last one being 1.
func digitOf(mode, digit int) int {
	if digit == 4 {
		return 7
	}
	s := strconv.FormatInt(int64(mode), 8)
	s = strings.Repeat("0", 3-len(s)) + s
	return int(s[3-digit] - '0')
}

// modelDigit is whose digit somebody has, as the chapter words it.
func modelDigit(c api.Cred, p api.Perm) int {
	if c.Uid == 0 {
		return 4
	}
	if c.Uid == p.Uid || c.Uid == p.Cuid {
		return 3
	}
	if c.Gid == p.Gid || c.Gid == p.Cgid {
		return 2
	}
	return 1
}

// errnoOf is what a model asks of Allowed: are all bits of want among those?
func errnoOf(bits, want int) api.Errno {
	for _, bit := range []int{1, 2, 4} {
		if want&bit != 0 && bits&bit == 0 {
			return api.ErrPerm
		}
	}
	return api.OK
}

// wrongCreds are right but for one number, or wrong in both.
func wrongCreds() []api.Cred {
	var l []api.Cred
	for _, n := range wrongUsers {
		l = append(l, api.Cred{Uid: n, Gid: 9}, api.Cred{Uid: 7, Gid: n}, api.Cred{Uid: 0, Gid: n}, api.Cred{Uid: n, Gid: n})
	}
	return l
}

// wrongPerms are right but for one number; mode is that of the others.
func wrongPerms(mode int) []api.Perm {
	var l []api.Perm
	for _, n := range wrongUsers {
		for k := range 4 {
			p := thing(mode)
			*[]*int{&p.Uid, &p.Gid, &p.Cuid, &p.Cgid}[k] = n
			l = append(l, p)
		}
	}
	for _, n := range wrongModes {
		l = append(l, thing(n))
	}
	return l
}

// P5.1

func TestRightCredentials(t *testing.T) {
	for _, uid := range edgeUsers {
		for _, gid := range edgeUsers {
			if c := (api.Cred{Uid: uid, Gid: gid}); !Right(c) {
				t.Errorf("Right(%v): false", c)
			}
		}
	}
	for _, c := range wrongCreds() {
		if Right(c) {
			t.Errorf("Right(%v): true", c)
		}
	}
}

func TestRightPermissions(t *testing.T) {
	for _, a := range edgeUsers {
		for _, b := range edgeUsers {
			for _, mode := range []int{0, 1, 7, 8, 0640, 510, 511} {
				for _, p := range []api.Perm{
					{Uid: a, Gid: b, Cuid: b, Cgid: a, Mode: mode},
					{Uid: a, Gid: a, Cuid: b, Cgid: b, Mode: mode},
				} {
					if !RightPerm(p) {
						t.Errorf("RightPerm(%v): false", p)
					}
				}
			}
		}
	}
	for _, mode := range []int{0, 0640, 511} {
		for _, p := range wrongPerms(mode) {
			if RightPerm(p) {
				t.Errorf("RightPerm(%v): true", p)
			}
		}
	}
}

func TestMakeIsOfWhoMakes(t *testing.T) {
	for _, uid := range edgeUsers {
		for _, gid := range edgeUsers {
			for mode := range 512 {
				p, e := Make(api.Cred{Uid: uid, Gid: gid}, mode)
				if e != api.OK || p != (api.Perm{Uid: uid, Gid: gid, Cuid: uid, Cgid: gid, Mode: mode}) {
					t.Fatalf("Make(%d %d, %o): %v, %d", uid, gid, mode, p, e)
				}
			}
		}
	}
}

func TestMakeRefuses(t *testing.T) {
	refuse := func(c api.Cred, mode int) {
		t.Helper()
		if p, e := Make(c, mode); e != api.ErrCred || p != (api.Perm{}) {
			t.Errorf("Make(%v, %d): %v, %d", c, mode, p, e)
		}
	}
	for _, c := range wrongCreds() {
		for _, mode := range []int{0, 0640, 511, -1, 512} {
			refuse(c, mode)
		}
	}
	for _, mode := range wrongModes {
		for _, c := range []api.Cred{{}, {Uid: 7, Gid: 9}, {Uid: 65535, Gid: 65535}} {
			refuse(c, mode)
		}
	}
}

func TestBitsOfEachDigit(t *testing.T) {
	for digit := range 8 {
		for _, x := range []struct{ mode, owner, group, others int }{
			{digit << 6, digit, 0, 0},
			{digit << 3, 0, digit, 0},
			{digit, 0, 0, digit},
		} {
			for _, w := range people() {
				want := []int{x.others, x.group, x.owner, 7}[w.digit-1]
				if b := Bits(w.c, thing(x.mode)); b != want {
					t.Errorf("mode %o, %s: %d, not %d", x.mode, w.name, b, want)
				}
			}
		}
	}
}

func TestBitsOfAllModes(t *testing.T) {
	for mode := range 512 {
		for _, w := range people() {
			if b, want := Bits(w.c, thing(mode)), digitOf(mode, w.digit); b != want {
				t.Errorf("mode %o, %s: %d, not %d", mode, w.name, b, want)
			}
		}
	}
}

// The first that fits counts, though a later one would have more.
func TestBitsOfFewerThanTheOthers(t *testing.T) {
	for _, w := range people() {
		want := []int{7, 4, 0, 7}[w.digit-1]
		if b := Bits(w.c, thing(0047)); b != want {
			t.Errorf("%s: %d, not %d", w.name, b, want)
		}
	}
}

func TestBitsOfWrongOnes(t *testing.T) {
	for _, c := range wrongCreds() {
		if b := Bits(c, thing(511)); b != 0 {
			t.Errorf("Bits(%v): %d", c, b)
		}
	}
	for _, p := range wrongPerms(511) {
		for _, c := range []api.Cred{{}, {Uid: 7, Gid: 9}, {Uid: 17, Gid: 19}, {Uid: 8, Gid: 9}, {Uid: 8, Gid: 8}} {
			if b := Bits(c, p); b != 0 {
				t.Errorf("Bits(%v, %v): %d", c, p, b)
			}
		}
	}
}

// What is wrong is nobody's, though the same wrong number stands on both sides.
func TestWrongOnesThatAgree(t *testing.T) {
	for _, n := range wrongUsers {
		c := api.Cred{Uid: n, Gid: n}
		p := api.Perm{Uid: n, Gid: n, Cuid: n, Cgid: n, Mode: 511}
		if Bits(c, p) != 0 || Owns(c, p) || Allowed(c, p, 2) != api.ErrCred {
			t.Errorf("%d: %d, %t, %d", n, Bits(c, p), Owns(c, p), Allowed(c, p, 2))
		}
		if q, e := Set(c, p, 1, 1, 0); e != api.ErrCred || q != (api.Perm{}) {
			t.Errorf("%d: Set: %v, %d", n, q, e)
		}
	}
}

// P5.2

func TestAllowedByTheExample(t *testing.T) {
	p, e := Make(api.Cred{Uid: 7, Gid: 9}, 0640)
	if e != api.OK {
		t.Fatal(e)
	}
	for _, x := range []struct {
		c    api.Cred
		want int
		e    api.Errno
	}{
		{api.Cred{Uid: 7, Gid: 9}, api.WantWrite, api.OK},
		{api.Cred{Uid: 7, Gid: 1}, api.WantRead | api.WantWrite, api.OK},
		{api.Cred{Uid: 8, Gid: 9}, api.WantRead, api.OK},
		{api.Cred{Uid: 8, Gid: 9}, api.WantWrite, api.ErrPerm},
		{api.Cred{Uid: 8, Gid: 9}, api.WantRead | api.WantWrite, api.ErrPerm},
		{api.Cred{Uid: 8, Gid: 8}, api.WantRead, api.ErrPerm},
		{api.Cred{Uid: 0, Gid: 8}, api.WantRead | api.WantWrite, api.OK},
	} {
		if e := Allowed(x.c, p, x.want); e != x.e {
			t.Errorf("Allowed(%v, %d): %d, not %d", x.c, x.want, e, x.e)
		}
	}
}

func TestAllowedOfAllModes(t *testing.T) {
	for mode := range 512 {
		for _, w := range people() {
			for _, want := range rightWants {
				e := Allowed(w.c, thing(mode), want)
				if asked := errnoOf(digitOf(mode, w.digit), want); e != asked {
					t.Errorf("mode %o, %s wants %d: %d, not %d", mode, w.name, want, e, asked)
				}
			}
		}
	}
}

func TestAllowedRefusesWhatIsWrong(t *testing.T) {
	refuse := func(c api.Cred, p api.Perm, want int) {
		t.Helper()
		if e := Allowed(c, p, want); e != api.ErrCred {
			t.Errorf("Allowed(%v, %v, %d): %d", c, p, want, e)
		}
	}
	for _, mode := range []int{0, 511} { // where nothing is allowed ErrCred is first, too
		for _, w := range people() {
			for _, want := range wrongWants {
				refuse(w.c, thing(mode), want)
			}
			for _, p := range wrongPerms(mode) {
				refuse(w.c, p, api.WantRead)
				refuse(w.c, p, 0)
			}
		}
		for _, c := range wrongCreds() {
			refuse(c, thing(mode), api.WantWrite)
			refuse(c, thing(mode), 7)
		}
	}
}

func TestOwns(t *testing.T) {
	for _, mode := range []int{0, 7, 070, 0700, 511} {
		for _, w := range people() {
			if owns := Owns(w.c, thing(mode)); owns != (w.digit >= 3) {
				t.Errorf("mode %o, %s: %t", mode, w.name, owns)
			}
		}
		for _, c := range wrongCreds() {
			if Owns(c, thing(mode)) {
				t.Errorf("Owns(%v): true", c)
			}
		}
		for _, p := range wrongPerms(mode) {
			for _, c := range []api.Cred{{}, {Uid: 7, Gid: 9}, {Uid: 17, Gid: 19}} {
				if Owns(c, p) {
					t.Errorf("Owns(%v, %v): true", c, p)
				}
			}
		}
	}
}

func TestSetByEverybody(t *testing.T) {
	for _, w := range people() {
		for _, uid := range edgeUsers {
			for _, gid := range edgeUsers {
				for _, mode := range []int{0, 1, 0640, 511} {
					q, e := Set(w.c, thing(0123), uid, gid, mode)
					asked, want := api.OK, api.Perm{Uid: uid, Gid: gid, Cuid: 17, Cgid: 19, Mode: mode}
					if w.digit < 3 {
						asked, want = api.ErrPerm, api.Perm{}
					}
					if e != asked || q != want {
						t.Errorf("%s sets %d, %d, %o: %v, %d", w.name, uid, gid, mode, q, e)
					}
				}
			}
		}
	}
}

// Owning hangs on who somebody is, not on what the mode allows.
func TestSetWhateverTheMode(t *testing.T) {
	for mode := range 512 {
		for _, w := range people() {
			_, e := Set(w.c, thing(mode), 1, 2, 3)
			if (e == api.OK) != (w.digit >= 3) {
				t.Errorf("mode %o, %s: %d", mode, w.name, e)
			}
		}
	}
}

func TestSetRefusesWhatIsWrong(t *testing.T) {
	refuse := func(c api.Cred, p api.Perm, uid, gid, mode int) {
		t.Helper()
		if q, e := Set(c, p, uid, gid, mode); e != api.ErrCred || q != (api.Perm{}) {
			t.Errorf("Set(%v, %v, %d, %d, %d): %v, %d", c, p, uid, gid, mode, q, e)
		}
	}
	for _, w := range people() { // owners and strangers: ErrCred is first
		for _, n := range wrongUsers {
			refuse(w.c, thing(511), n, 2, 3)
			refuse(w.c, thing(511), 1, n, 3)
		}
		for _, n := range wrongModes {
			refuse(w.c, thing(511), 1, 2, n)
		}
		for _, p := range wrongPerms(511) { // also where what comes of it would be right
			refuse(w.c, p, 1, 2, 3)
		}
	}
	for _, c := range wrongCreds() {
		refuse(c, thing(511), 1, 2, 3)
		refuse(c, thing(511), 1, 2, 512)
	}
}

// All of a small world: whoever is owner, maker, neither or both, users and groups of the same numbers, and 0 among them.
func TestSmallWorld(t *testing.T) {
	for k := range 3 * 3 * 3 * 3 {
		for _, mode := range []int{0, 0124, 0421, 0246, 0642, 0135, 0777} {
			p := api.Perm{Uid: k % 3, Gid: k / 3 % 3, Cuid: k / 9 % 3, Cgid: k / 27, Mode: mode}
			for j := range 3 * 4 {
				c := api.Cred{Uid: j % 3, Gid: j / 3}
				digit := modelDigit(c, p)
				if b := Bits(c, p); b != digitOf(mode, digit) {
					t.Errorf("Bits(%v, %v): %d", c, p, b)
				}
				if Owns(c, p) != (digit >= 3) {
					t.Errorf("Owns(%v, %v): %t", c, p, Owns(c, p))
				}
				for _, want := range rightWants {
					if e := Allowed(c, p, want); e != errnoOf(digitOf(mode, digit), want) {
						t.Errorf("Allowed(%v, %v, %d): %d", c, p, want, e)
					}
				}
			}
		}
	}
}

// P5.3

func TestMoreBitsAllowMore(t *testing.T) {
	for more := range 512 {
		for fewer := range more + 1 {
			if fewer&more != fewer {
				continue
			}
			for _, w := range people() {
				if has, had := Bits(w.c, thing(more)), Bits(w.c, thing(fewer)); had&has != had {
					t.Errorf("%s: %d of %o, %d of %o", w.name, had, fewer, has, more)
				}
				for _, want := range rightWants {
					if Allowed(w.c, thing(fewer), want) == api.OK && Allowed(w.c, thing(more), want) != api.OK {
						t.Errorf("%s wants %d: of %o, not of %o", w.name, want, fewer, more)
					}
				}
			}
		}
	}
}

func TestOwnersSetThatAllIsAllowed(t *testing.T) {
	for mode := range 512 {
		for _, w := range people() {
			p := thing(mode)
			if !Owns(w.c, p) {
				continue
			}
			for _, open := range []int{0700, 0777} {
				q, e := Set(w.c, p, p.Uid, p.Gid, open)
				if e != api.OK || Bits(w.c, q) != 7 {
					t.Errorf("mode %o, %s: %v, %d", mode, w.name, q, e)
				}
				for _, want := range rightWants {
					if e := Allowed(w.c, q, want); e != api.OK {
						t.Errorf("mode %o, %s wants %d: %d", mode, w.name, want, e)
					}
				}
			}
		}
	}
}

// Owners hand a thing on, from one to the next; who made it owns it all the time, who had it before does not.
func TestMakersOwnForEver(t *testing.T) {
	maker := api.Cred{Uid: 17, Gid: 19}
	p, e := Make(maker, 0600)
	if e != api.OK {
		t.Fatal(e)
	}
	holder := maker
	for step, next := range []int{1, 65535, 0, 5, 17, 6, 65534} {
		q, e := Set(holder, p, next, step, step)
		if e != api.OK || q != (api.Perm{Uid: next, Gid: step, Cuid: 17, Cgid: 19, Mode: step}) {
			t.Fatalf("step %d: %v, %d", step, q, e)
		}
		if r, e := Set(maker, p, next, step, step); e != api.OK || r != q {
			t.Fatalf("step %d, by the maker: %v, %d", step, r, e)
		}
		if !Owns(maker, q) || !Owns(api.Cred{Uid: 17, Gid: 1}, q) || !Owns(api.Cred{Uid: next, Gid: 1}, q) {
			t.Errorf("step %d: %v is not the maker's, or not the owner's", step, q)
		}
		if holder.Uid != maker.Uid && holder.Uid != 0 && Owns(holder, q) {
			t.Errorf("step %d: %v is still %v's", step, q, holder)
		}
		if r, e := Set(maker, q, q.Uid, q.Gid, 0700); e != api.OK || Allowed(maker, r, 6) != api.OK {
			t.Errorf("step %d: the maker may not: %v, %d", step, r, e)
		}
		p, holder = q, api.Cred{Uid: next, Gid: 3}
	}
}
