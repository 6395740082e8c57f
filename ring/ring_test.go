package ring

import (
	"math"
	"strings"
	"testing"

	"taffrail/api"
)

// made is an empty ring of a size that is right.
func made(t *testing.T, size int) *Ring {
	t.Helper()
	r, e := New(size)
	if r == nil || e != api.OK {
		t.Fatalf("New(%d): %v, %d", size, r, e)
	}
	return r
}

// holds ends the test unless a ring of a size holds these bytes, and no others. It and those below end it at the first fault, as tests that go through all places would tell of each.
func holds(t *testing.T, r *Ring, size int, want string) {
	t.Helper()
	if s := r.Bytes(); s != want {
		t.Fatalf("it holds %q, not %q", s, want)
	}
	if n := r.Len(); n != len(want) {
		t.Fatalf("Len: %d, not %d", n, len(want))
	}
	if n := r.Room(); n != size-len(want) {
		t.Fatalf("Room: %d, not %d", n, size-len(want))
	}
}

// puts puts bytes, and ends the test unless so many of them are put.
func puts(t *testing.T, r *Ring, s string, want int) {
	t.Helper()
	if n, e := r.Put(s); n != want || e != api.OK {
		t.Fatalf("Put(%q): %d, %d, not %d", s, n, e, want)
	}
}

// gets gets n bytes, and ends the test unless they are these.
func gets(t *testing.T, r *Ring, n int, want string) {
	t.Helper()
	if s, e := r.Get(n); s != want || e != api.OK {
		t.Fatalf("Get(%d): %q, %d, not %q", n, s, e, want)
	}
}

// refused ends the test unless getting answers an error, and no bytes.
func refused(t *testing.T, r *Ring, n int, want api.Errno) {
	t.Helper()
	if s, e := r.Get(n); s != "" || e != want {
		t.Fatalf("Get(%d): %q, %d, not %d", n, s, e, want)
	}
}

// text is n bytes, each of which differs from those near it.
func text(n int) string {
	var b strings.Builder
	for k := range n {
		b.WriteByte(byte(33 + k%89))
	}
	return b.String()
}

// gone is an empty ring that has gone round by so many places.
func gone(t *testing.T, size, by int) *Ring {
	t.Helper()
	r := made(t, size)
	for left := by; left > 0; left -= size {
		s := strings.Repeat("-", min(left, size))
		puts(t, r, s, len(s))
		gets(t, r, len(s), s)
	}
	holds(t, r, size, "")
	return r
}

// everywhere hands each ring of a size on that has gone round by up to two rounds and holds so many bytes, with these.
func everywhere(t *testing.T, size int, check func(r *Ring, held string)) {
	t.Helper()
	for by := range 2*size + 1 {
		for count := range size + 1 {
			r := gone(t, size, by)
			held := text(count)
			puts(t, r, held, count)
			holds(t, r, size, held)
			check(r, held)
		}
	}
}

// someSizes are the least, the greatest, and some between.
var someSizes = []int{1, 2, 3, 4, 5, 8, 13, 32, 63, 64}

// most is a number that would be another one if it were cut to 32 bits.
const most = math.MaxInt

// P8.1

func TestNew(t *testing.T) {
	for size := 1; size <= 64; size++ {
		r := made(t, size)
		holds(t, r, size, "")
		gets(t, r, 0, "")
		gets(t, r, 1, "")
		gets(t, r, most, "")
		holds(t, r, size, "")
		puts(t, r, text(200), size)
		holds(t, r, size, text(size))
	}
}

func TestNewOfWrongSizes(t *testing.T) {
	for _, size := range []int{0, 65, 66, 128, 256 + 4, 1<<32 + 4, most, -1, -4, -64, -(1 << 32) + 4, math.MinInt} {
		if r, e := New(size); r != nil || e != api.ErrArg {
			t.Errorf("New(%d): %v, %d", size, r, e)
		}
	}
}

func TestNilRing(t *testing.T) {
	var r *Ring
	for _, s := range []string{"", "a", text(64), text(1000)} {
		if n, e := r.Put(s); n != 0 || e != api.ErrNil {
			t.Errorf("Put(%q): %d, %d", s, n, e)
		}
	}
	for _, n := range []int{0, 1, 64, 65, most, -1, math.MinInt} { // a nil ring is told ahead of a wrong number
		refused(t, r, n, api.ErrNil)
	}
	if r.Len() != 0 || r.Room() != 0 || r.Bytes() != "" {
		t.Error(r.Len(), r.Room(), r.Bytes())
	}
}

// What nobody got from New has no size: it has room for nothing.
func TestRingOfNothing(t *testing.T) {
	r := &Ring{}
	for range 3 {
		holds(t, r, 0, "")
		puts(t, r, "", 0)
		puts(t, r, "a", 0)
		puts(t, r, text(200), 0)
		gets(t, r, 0, "")
		gets(t, r, 9, "")
		refused(t, r, -1, api.ErrArg)
	}
	holds(t, r, 0, "")
}

// However many bytes a ring has, and wherever they begin: none, fewer than there is room for, as many, one more, many more.
func TestPutAsMuchAsThereIsRoomFor(t *testing.T) {
	for _, size := range someSizes {
		everywhere(t, size, func(r *Ring, held string) {
			room := size - len(held)
			if room > 1 {
				puts(t, r, "", 0)
				holds(t, r, size, held)
				puts(t, r, "\x00", 1)
				held += "\x00"
				room--
			}
			more := strings.ToUpper(text(room))
			puts(t, r, more, room)
			holds(t, r, size, held+more)
		})
		for _, over := range []int{1, 2, 64, 1000} {
			everywhere(t, size, func(r *Ring, held string) {
				room := size - len(held)
				more := strings.ToUpper(text(room + over))
				puts(t, r, more, room)
				holds(t, r, size, held+more[:room])
				gets(t, r, size, held+more[:room])
				holds(t, r, size, "")
			})
		}
	}
}

func TestPutToAFullRing(t *testing.T) {
	for _, size := range someSizes {
		for by := range 2*size + 1 {
			r := gone(t, size, by)
			full := text(size)
			puts(t, r, full, size)
			for _, s := range []string{"", "x", "\x00", text(size), text(64), text(500)} {
				puts(t, r, s, 0)
				holds(t, r, size, full)
			}
			gets(t, r, 1, full[:1])
			puts(t, r, "xy", 1)
			holds(t, r, size, full[1:]+"x")
		}
	}
}

// However many bytes a ring has, and wherever they begin: none, fewer than there are, as many, one more, many more.
func TestGetAsManyAsThereAre(t *testing.T) {
	for _, size := range someSizes {
		everywhere(t, size, func(r *Ring, held string) {
			gets(t, r, 0, "")
			holds(t, r, size, held)
			some := len(held) / 3
			gets(t, r, some, held[:some])
			holds(t, r, size, held[some:])
			gets(t, r, len(held)-some, held[some:])
			holds(t, r, size, "")
		})
		for _, over := range []int{1, 2, 64, 1 << 32, most - 64} {
			everywhere(t, size, func(r *Ring, held string) {
				gets(t, r, len(held)+over, held)
				holds(t, r, size, "")
				gets(t, r, over, "")
				puts(t, r, held, len(held)) // it goes on as any other
				holds(t, r, size, held)
			})
		}
	}
}

func TestGetOfAnEmptyRing(t *testing.T) {
	for _, size := range someSizes {
		for by := range 2*size + 1 {
			r := gone(t, size, by)
			for _, n := range []int{0, 1, size, size + 1, 64, most} {
				gets(t, r, n, "")
				holds(t, r, size, "")
			}
			refused(t, r, -1, api.ErrArg)
			puts(t, r, "a", 1)
			holds(t, r, size, "a")
		}
	}
}

func TestGetBelowZeroChangesNothing(t *testing.T) {
	for _, size := range someSizes {
		everywhere(t, size, func(r *Ring, held string) {
			for _, n := range []int{-1, -2, -len(held) - 1, -size - 1, -(1 << 32) + 1, math.MinInt} {
				refused(t, r, n, api.ErrArg)
				holds(t, r, size, held)
			}
			gets(t, r, size, held)
		})
	}
}

func TestBytesLenAndRoomChangeNothing(t *testing.T) {
	everywhere(t, 7, func(r *Ring, held string) {
		for range 20 {
			holds(t, r, 7, held)
		}
		puts(t, r, "abcdefghi", 7-len(held))
		gets(t, r, 7, held+"abcdefghi"[:7-len(held)])
	})
}

// What was told stays as it was, whatever is done with the ring from then on.
func TestWhatIsToldStays(t *testing.T) {
	r := gone(t, 6, 4)
	puts(t, r, "abcdef", 6)
	all := r.Bytes()
	some, _ := r.Get(4)
	puts(t, r, "wxyz", 4)
	gets(t, r, 6, "efwxyz")
	puts(t, r, "\x00\x00\x00\x00\x00\x00", 6)
	if all != "abcdef" || some != "abcd" {
		t.Error(all, some)
	}
}

func TestBytesOfEveryValue(t *testing.T) {
	for v := range 256 {
		b := string([]byte{byte(v)})
		r := gone(t, 3, v%6)
		puts(t, r, b+b+b+b, 3)
		holds(t, r, 3, b+b+b)
		gets(t, r, 2, b+b)
		puts(t, r, b, 1)
		gets(t, r, 9, b+b)
		holds(t, r, 3, "")
	}
}

// Texts are bytes: a ring cuts them where it is full, within a letter too, and takes those that are no UTF-8.
func TestTextsOfAnyBytes(t *testing.T) {
	for by := range 10 {
		r := gone(t, 5, by)
		puts(t, r, "é日本", 5)
		holds(t, r, 5, "é日")
		gets(t, r, 1, "\xc3")
		gets(t, r, 2, "\xa9\xe6")
		puts(t, r, "\xff\xfe\x00\x80", 3)
		holds(t, r, 5, "\x97\xa5\xff\xfe\x00")
		gets(t, r, 5, "\x97\xa5\xff\xfe\x00")
	}
}

// The places that hold none are zero, so that nothing is kept that came out.
func TestNothingIsKeptThatCameOut(t *testing.T) {
	for by := range 10 {
		r := gone(t, 5, by)
		puts(t, r, "abcde", 5)
		gets(t, r, 3, "abc")
		r.Bytes()
		if s := string(r.bytes[:]); strings.ContainsAny(s, "-abc") || strings.Count(s, "\x00") != 62 {
			t.Fatalf("%q", s)
		}
		gets(t, r, 9, "de")
		if r.bytes != [64]byte{} {
			t.Fatal(r.bytes)
		}
	}
}

// P8.2

func TestExample(t *testing.T) {
	r := made(t, 4)
	puts(t, r, "abcdef", 4)
	gets(t, r, 2, "ab")
	puts(t, r, "gh", 2)
	holds(t, r, 4, "cdgh")
}

// One byte at a time, at any size, with any number of bytes ahead of it, many times round.
func TestInOrderManyTimesRound(t *testing.T) {
	all := text(1000)
	for size := 1; size <= 64; size++ {
		for ahead := range size {
			r := made(t, size)
			puts(t, r, all[:ahead], ahead)
			for k := ahead; k < 5*size; k++ {
				puts(t, r, all[k:k+1], 1)
				gets(t, r, 1, all[k-ahead:k-ahead+1])
			}
			if r.Len() != ahead || r.Room() != size-ahead {
				t.Fatal(size, ahead, r.Len(), r.Room())
			}
		}
	}
}

// Whatever is the length of the parts in which bytes are put and got, they come out as one text.
func TestInOrderHoweverCut(t *testing.T) {
	all := text(700)
	for _, size := range someSizes {
		for in := 1; in <= size+1; in++ {
			for out := 1; out <= size+1; out++ {
				if got := flow(t, made(t, size), all, in, out); got != all {
					t.Fatalf("size %d, %d in, %d out: %q", size, in, out, got)
				}
			}
		}
	}
}

// flow puts a text by parts of at most in bytes, gets it by parts of at most out, and is what was got.
func flow(t *testing.T, r *Ring, all string, in, out int) string {
	t.Helper()
	var got strings.Builder
	for rest := all; rest != "" || r.Len() > 0; {
		n, e := r.Put(rest[:min(in, len(rest))])
		if e != api.OK {
			t.Fatal(e)
		}
		rest = rest[n:]
		s, e := r.Get(out)
		if e != api.OK || s == "" {
			t.Fatal(s, e)
		}
		got.WriteString(s)
	}
	return got.String()
}

// What goes on at the array's beginning, and what is got from both of its ends in one.
func TestOverTheTurn(t *testing.T) {
	r := made(t, 64)
	all := text(64)
	puts(t, r, all, 64)
	gets(t, r, 60, all[:60])
	puts(t, r, "0123456789", 10)
	holds(t, r, 64, all[60:]+"0123456789")
	gets(t, r, 3, all[60:63])
	gets(t, r, 3, all[63:]+"01")
	puts(t, r, text(90), 56)
	holds(t, r, 64, "23456789"+text(56))
	gets(t, r, 64, "23456789"+text(56))
	holds(t, r, 64, "")
}

// A ring is filled and emptied wherever it begins, and is neither taken for the other.
func TestFullAndEmptyAreApart(t *testing.T) {
	for size := 1; size <= 64; size++ {
		r := made(t, size)
		for round := range 3 * size {
			full := text(round + size)[round:]
			puts(t, r, full+"x", size)
			holds(t, r, size, full)
			gets(t, r, size+1, full)
			holds(t, r, size, "")
			puts(t, r, "y", 1)
			gets(t, r, 1, "y")
		}
	}
}

func TestRingsAreApart(t *testing.T) {
	a, b, c := made(t, 4), made(t, 4), made(t, 9)
	puts(t, a, "abcdef", 4)
	holds(t, b, 4, "")
	puts(t, b, "xy", 2)
	puts(t, c, "123456789", 9)
	gets(t, a, 1, "a")
	gets(t, c, 5, "12345")
	holds(t, a, 4, "bcd")
	holds(t, b, 4, "xy")
	holds(t, c, 9, "6789")
}
