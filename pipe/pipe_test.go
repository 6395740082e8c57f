package pipe

import (
	"math"
	"reflect"
	"slices"
	"strings"
	"testing"

	"taffrail/api"
)

// most is a number that would be another one if it were cut to 32 bits.
const most = math.MaxInt

// wrongKinds are neither KindReader nor KindWriter; the low bits of some would be.
var wrongKinds = []int{math.MinInt, math.MinInt + 1, math.MinInt + 2, math.MinInt32, -1<<32 + 1, -1<<32 + 2, -255, -3, -2, -1, 0, 3, 4, 5, 6, 100, 255, 257, 258, 1 << 16, 1<<16 + 1, math.MaxInt32, 1 << 32, 1<<32 + 1, 1<<32 + 2, most - 1, most}

// belowZero are no numbers of bytes; the low bits of some would be.
var belowZero = []int{-1, -2, -5, -32, -33, -64, -1<<32 + 1, -1<<32 + 32, math.MinInt32, math.MinInt + 1, math.MinInt}

// bothKinds are those that there are.
var bothKinds = []int{api.KindReader, api.KindWriter}

// state is all that a pipe tells of itself without being changed, and its bytes.
type state struct {
	readers, writers, len int
	canRead, canWrite     bool
	bytes                 string
}

func stateOf(p *Pipe) state {
	var s state
	s.readers, s.writers = p.Ends()
	s.len, s.canRead, s.canWrite = p.Len(), p.CanRead(), p.CanWrite()
	s.bytes = p.body.Bytes()
	return s
}

// is ends the test unless a pipe has so many ends, and these bytes. It and those below end it at the first fault, as tests that go through all places would tell of each.
func is(t *testing.T, p *Pipe, readers, writers int, bytes string) {
	t.Helper()
	want := state{
		readers: readers, writers: writers, len: len(bytes), bytes: bytes,
		canRead:  bytes != "" || writers == 0,
		canWrite: len(bytes) < 32 || readers == 0,
	}
	if s := stateOf(p); s != want {
		t.Fatalf("%#v, not %#v", s, want)
	}
}

// opens ends the test unless opening answers that.
func opens(t *testing.T, p *Pipe, kind int, want api.Errno) {
	t.Helper()
	if e := p.Open(kind); e != want {
		t.Fatalf("Open(%d): %d, not %d", kind, e, want)
	}
}

// closes ends the test unless an end is closed, and was, or was not, the last one of all.
func closes(t *testing.T, p *Pipe, kind int, gone bool) {
	t.Helper()
	if g, e := p.Close(kind); g != gone || e != api.OK {
		t.Fatalf("Close(%d): %v, %d, not %v", kind, g, e, gone)
	}
}

// cantClose ends the test unless closing answers an error, and nothing beside it.
func cantClose(t *testing.T, p *Pipe, kind int, want api.Errno) {
	t.Helper()
	if g, e := p.Close(kind); g || e != want {
		t.Fatalf("Close(%d): %v, %d, not %d", kind, g, e, want)
	}
}

// reads ends the test unless these bytes are read.
func reads(t *testing.T, p *Pipe, n int, want string) {
	t.Helper()
	if s, e := p.Read(n); s != want || e != api.OK {
		t.Fatalf("Read(%d): %q, %d, not %q", n, s, e, want)
	}
}

// cantRead ends the test unless reading answers an error, and nothing beside it.
func cantRead(t *testing.T, p *Pipe, n int, want api.Errno) {
	t.Helper()
	if s, e := p.Read(n); s != "" || e != want {
		t.Fatalf("Read(%d): %q, %d, not %d", n, s, e, want)
	}
}

// writes ends the test unless so many bytes are written.
func writes(t *testing.T, p *Pipe, s string, want int) {
	t.Helper()
	if n, e := p.Write(s); n != want || e != api.OK {
		t.Fatalf("Write(%q): %d, %d, not %d", s, n, e, want)
	}
}

// cantWrite ends the test unless writing answers an error, and nothing beside it.
func cantWrite(t *testing.T, p *Pipe, s string, want api.Errno) {
	t.Helper()
	if n, e := p.Write(s); n != 0 || e != want {
		t.Fatalf("Write(%q): %d, %d, not %d", s, n, e, want)
	}
}

// text is n bytes, each of which differs from those near it.
func text(n int) string {
	b := make([]byte, n)
	for k := range b {
		b[k] = byte(33 + k%89)
	}
	return string(b)
}

// gone is a new pipe through which so many bytes have gone.
func gone(t *testing.T, by int) *Pipe {
	t.Helper()
	p := New()
	for left := by; left > 0; left -= 32 {
		n := min(left, 32)
		writes(t, p, strings.Repeat("-", n), n)
		reads(t, p, n, strings.Repeat("-", n))
	}
	is(t, p, 1, 1, "")
	return p
}

// everywhere hands on each pipe that has gone round by up to two rounds and holds so many bytes, with these.
func everywhere(t *testing.T, check func(p *Pipe, held string)) {
	t.Helper()
	for by := range 65 {
		for count := range 33 {
			p, held := gone(t, by), text(count)
			if count > 0 {
				writes(t, p, held, count)
			}
			is(t, p, 1, 1, held)
			check(p, held)
		}
	}
}

// ends opens and closes ends of a pipe with one of each, until there are so many. Readers are closed first.
func ends(t *testing.T, p *Pipe, readers, writers int) {
	t.Helper()
	for k, n := range []int{readers, writers} {
		if n == 0 {
			closes(t, p, bothKinds[k], k == 1 && readers == 0)
		}
		for range n - 1 {
			opens(t, p, bothKinds[k], api.OK)
		}
	}
}

// made is a pipe of so many ends, which holds these bytes.
func made(t *testing.T, readers, writers int, held string) *Pipe {
	t.Helper()
	p := New()
	writes(t, p, held, len(held))
	ends(t, p, readers, writers)
	is(t, p, readers, writers, held)
	return p
}

// The example of the chapter.

func TestExample(t *testing.T) {
	p := New()
	cantRead(t, p, 5, api.ErrAgain)
	writes(t, p, "ab", 2)
	reads(t, p, 5, "ab")
	closes(t, p, api.KindWriter, false)
	reads(t, p, 5, "")
}

// P10.1

func TestNewOne(t *testing.T) {
	p := New()
	if p == nil {
		t.Fatal("nil")
	}
	is(t, p, 1, 1, "")
	cantRead(t, p, 1, api.ErrAgain)
	closes(t, p, api.KindReader, false)
	cantClose(t, p, api.KindReader, api.ErrArg)
	closes(t, p, api.KindWriter, true)
	cantClose(t, p, api.KindWriter, api.ErrArg)
	is(t, p, 0, 0, "")
}

func TestNewOnesAreApart(t *testing.T) {
	a, b := New(), New()
	writes(t, a, text(40), 32)
	opens(t, a, api.KindReader, api.OK)
	closes(t, a, api.KindWriter, false)
	is(t, b, 1, 1, "")
	is(t, a, 2, 0, text(32))
	writes(t, b, "xyz", 3)
	reads(t, a, 4, text(4))
	is(t, b, 1, 1, "xyz")
	is(t, New(), 1, 1, "")
}

// A nil pipe is told ahead of wrong kinds and numbers.
func TestNilPipe(t *testing.T) {
	var p *Pipe
	for _, kind := range slices.Concat(bothKinds, wrongKinds) {
		opens(t, p, kind, api.ErrNil)
		cantClose(t, p, kind, api.ErrNil)
	}
	for _, n := range slices.Concat([]int{0, 1, 32, 33, most}, belowZero) {
		cantRead(t, p, n, api.ErrNil)
	}
	for _, s := range []string{"", "a", "\x00", text(32), text(33), text(1000)} {
		cantWrite(t, p, s, api.ErrNil)
	}
	if readers, writers := p.Ends(); readers != 0 || writers != 0 {
		t.Error(readers, writers)
	}
	if p.CanRead() || p.CanWrite() || p.Len() != 0 {
		t.Error(p.CanRead(), p.CanWrite(), p.Len())
	}
}

// What nobody got from New has no ends, and room for nothing; no call of it panics.
func TestPipeOfNothing(t *testing.T) {
	p := &Pipe{}
	for range 3 {
		p.Read(-1)
		p.Read(0)
		p.Read(9)
		p.Write("")
		p.Write("ab")
		p.Close(api.KindReader)
		p.Open(3)
		p.Open(api.KindReader)
		p.Open(api.KindWriter)
		p.Close(api.KindWriter)
		if s := stateOf(p); s.len != 0 || s.bytes != "" {
			t.Error(s)
		}
	}
}

// Callers reach the calls of the chapter, and none of the ring's.
func TestNoOtherCalls(t *testing.T) {
	of := reflect.TypeFor[*Pipe]()
	var l []string
	for k := range of.NumMethod() {
		l = append(l, of.Method(k).Name)
	}
	if s := strings.Join(l, " "); s != "CanRead CanWrite Close Ends Len Open Read Write" {
		t.Error(s)
	}
}

func TestWrongKinds(t *testing.T) {
	for _, n := range []int{0, 1, 2, 100} {
		for _, m := range []int{0, 1, 2, 100} {
			p := made(t, n, m, "abc")
			for _, kind := range wrongKinds {
				opens(t, p, kind, api.ErrArg)
				cantClose(t, p, kind, api.ErrArg)
				is(t, p, n, m, "abc")
			}
		}
	}
}

// As many of a kind as there may be, however many there are of the other.
func TestHundredOfEachKind(t *testing.T) {
	for _, other := range []int{0, 1, 50, 100} {
		p := made(t, 1, other, "abc")
		for n := 2; n <= 100; n++ {
			opens(t, p, api.KindReader, api.OK)
			is(t, p, n, other, "abc")
		}
		for range 3 {
			opens(t, p, api.KindReader, api.ErrArg)
			is(t, p, 100, other, "abc")
		}
		closes(t, p, api.KindReader, false)
		opens(t, p, api.KindReader, api.OK)
		opens(t, p, api.KindReader, api.ErrArg)
		is(t, p, 100, other, "abc")

		p = made(t, other, 1, "abc")
		for n := 2; n <= 100; n++ {
			opens(t, p, api.KindWriter, api.OK)
			is(t, p, other, n, "abc")
		}
		for range 3 {
			opens(t, p, api.KindWriter, api.ErrArg)
			is(t, p, other, 100, "abc")
		}
		closes(t, p, api.KindWriter, false)
		opens(t, p, api.KindWriter, api.OK)
		opens(t, p, api.KindWriter, api.ErrArg)
		is(t, p, other, 100, "abc")
	}
}

// All ends are closed, one kind first, then the other; the last one of all is told, and no other.
func TestCloseThemAll(t *testing.T) {
	for _, n := range []int{1, 2, 3, 99, 100} {
		for _, m := range []int{1, 2, 3, 99, 100} {
			p := made(t, n, m, "abc")
			for left := n - 1; left >= 0; left-- {
				closes(t, p, api.KindReader, false)
				is(t, p, left, m, "abc")
			}
			cantClose(t, p, api.KindReader, api.ErrArg)
			for left := m - 1; left >= 0; left-- {
				closes(t, p, api.KindWriter, left == 0)
				is(t, p, 0, left, "abc")
			}

			p = made(t, n, m, "abc")
			for left := m - 1; left >= 0; left-- {
				closes(t, p, api.KindWriter, false)
				is(t, p, n, left, "abc")
			}
			cantClose(t, p, api.KindWriter, api.ErrArg)
			for left := n - 1; left >= 0; left-- {
				closes(t, p, api.KindReader, left == 0)
				is(t, p, left, 0, "abc")
			}
		}
	}
}

func TestCloseOneOfWhichThereIsNone(t *testing.T) {
	for _, other := range []int{0, 1, 2, 100} {
		noReader, noWriter := made(t, 0, other, "ab"), made(t, other, 0, "ab")
		for range 3 {
			cantClose(t, noReader, api.KindReader, api.ErrArg)
			is(t, noReader, 0, other, "ab")
			cantClose(t, noWriter, api.KindWriter, api.ErrArg)
			is(t, noWriter, other, 0, "ab")
		}
	}
}

// A pipe without any end goes on as any other, when it gets ends again, and is gone again, as often as it has none.
func TestEndsAfterTheLastOne(t *testing.T) {
	for _, kind := range bothKinds {
		p := made(t, 0, 0, "xyz")
		for range 5 {
			opens(t, p, kind, api.OK)
			opens(t, p, kind, api.OK)
			closes(t, p, kind, false)
			closes(t, p, kind, true)
			cantClose(t, p, kind, api.ErrArg)
			is(t, p, 0, 0, "xyz")
		}
		opens(t, p, api.KindWriter, api.OK)
		opens(t, p, api.KindReader, api.OK)
		is(t, p, 1, 1, "xyz")
		writes(t, p, "w", 1)
		reads(t, p, 9, "xyzw")
		cantRead(t, p, 1, api.ErrAgain)
	}
}

// However many bytes there are, and wherever they begin: none, fewer, just as many, one more, many more.
func TestReadAsManyAsThereAre(t *testing.T) {
	everywhere(t, func(p *Pipe, held string) {
		reads(t, p, 0, "")
		is(t, p, 1, 1, held)
		some := len(held) / 3
		reads(t, p, some, held[:some])
		is(t, p, 1, 1, held[some:])
		if held != "" {
			reads(t, p, len(held)-some, held[some:])
		}
		is(t, p, 1, 1, "")
		cantRead(t, p, 1, api.ErrAgain)
	})
	for _, over := range []int{1, 2, 64, 1 << 32, most - 32} {
		everywhere(t, func(p *Pipe, held string) {
			if held == "" {
				cantRead(t, p, over, api.ErrAgain)
			} else {
				reads(t, p, len(held)+over, held)
			}
			is(t, p, 1, 1, "")
			writes(t, p, "abcd", 4) // it goes on as any other
			reads(t, p, 3, "abc")
		})
	}
}

// One waits as long as there is a writer, however many readers there are.
func TestReadWhereThereAreNoBytes(t *testing.T) {
	for by := range 65 {
		for _, readers := range []int{0, 1, 2, 100} {
			for _, writers := range []int{0, 1, 2, 100} {
				p := gone(t, by)
				ends(t, p, readers, writers)
				reads(t, p, 0, "")
				for _, n := range []int{1, 2, 32, 33, most} {
					if writers == 0 {
						reads(t, p, n, "")
					} else {
						cantRead(t, p, n, api.ErrAgain)
					}
					is(t, p, readers, writers, "")
				}
			}
		}
	}
}

// A number below 0 is told ahead of the waiting, and of the end.
func TestReadBelowZero(t *testing.T) {
	for _, held := range []string{"", "a", "abc", text(32)} {
		for _, readers := range []int{0, 1, 2} {
			for _, writers := range []int{0, 1, 2} {
				p := made(t, readers, writers, held)
				for _, n := range belowZero {
					cantRead(t, p, n, api.ErrArg)
					is(t, p, readers, writers, held)
				}
				reads(t, p, 0, "")
			}
		}
	}
}

// However many bytes there are, and wherever they begin: none, just as many as there is room for, one more, many more.
func TestWriteAsManyAsThereIsRoomFor(t *testing.T) {
	everywhere(t, func(p *Pipe, held string) {
		writes(t, p, "", 0)
		is(t, p, 1, 1, held)
		room := 32 - len(held)
		if room == 0 {
			return
		}
		writes(t, p, "\x00", 1)
		held, room = held+"\x00", room-1
		if room > 0 {
			writes(t, p, text(room), room)
		}
		is(t, p, 1, 1, held+text(room))
		reads(t, p, 32, held+text(room))
	})
	for _, over := range []int{1, 2, 31, 32, 33, 1000} {
		everywhere(t, func(p *Pipe, held string) {
			room := 32 - len(held)
			more := strings.ToUpper(text(room + over))
			if room == 0 {
				cantWrite(t, p, more, api.ErrAgain)
			} else {
				writes(t, p, more, room)
			}
			is(t, p, 1, 1, held+more[:room])
			reads(t, p, 32, held+more[:room])
			is(t, p, 1, 1, "")
		})
	}
}

func TestWriteToAFullPipe(t *testing.T) {
	for by := range 65 {
		for _, writers := range []int{0, 1, 100} {
			for _, readers := range []int{1, 2, 100} {
				p, full := gone(t, by), text(32)
				writes(t, p, full, 32)
				ends(t, p, readers, writers)
				writes(t, p, "", 0)
				for _, s := range []string{"x", "\x00", text(32), text(33), text(500)} {
					cantWrite(t, p, s, api.ErrAgain)
					is(t, p, readers, writers, full)
				}
				reads(t, p, 1, full[:1])
				writes(t, p, "xy", 1)
				is(t, p, readers, writers, full[1:]+"x")
			}
		}
	}
}

// Broken is told of any bytes, also of none, and ahead of the waiting.
func TestWriteToABrokenPipe(t *testing.T) {
	for count := range 33 {
		for _, writers := range []int{0, 1, 2, 100} {
			held := text(count)
			p := made(t, 0, writers, held)
			for _, s := range []string{"", "x", "\x00", text(32 - count), text(33 - count), text(32), text(500)} {
				cantWrite(t, p, s, api.ErrPipe)
				is(t, p, 0, writers, held)
			}
			opens(t, p, api.KindReader, api.OK) // it is broken no longer
			is(t, p, 1, writers, held)
			writes(t, p, "", 0)
			if count < 32 {
				writes(t, p, "!", 1)
				held += "!"
			} else {
				cantWrite(t, p, "!", api.ErrAgain)
			}
			reads(t, p, 32, held)
		}
	}
}

// P10.2

// Whatever ends and bytes there are: CanRead and CanWrite tell what reading and writing one byte do tell, and change nothing.
func TestCanReadAndCanWrite(t *testing.T) {
	for count := range 33 {
		for _, readers := range []int{0, 1, 2, 100} {
			for _, writers := range []int{0, 1, 2, 100} {
				held := text(count)
				p := made(t, readers, writers, held)
				canRead, canWrite := p.CanRead(), p.CanWrite()
				for range 5 {
					is(t, p, readers, writers, held)
				}
				if _, e := p.Read(1); canRead != (e != api.ErrAgain) {
					t.Fatal("reading", canRead, e)
				}
				p = made(t, readers, writers, held)
				if _, e := p.Write("x"); canWrite != (e != api.ErrAgain) {
					t.Fatal("writing", canWrite, e)
				}
			}
		}
	}
}

func TestEndsAndLenTellWhatThereIs(t *testing.T) {
	for _, readers := range []int{0, 1, 2, 7, 99, 100} {
		for _, writers := range []int{0, 1, 2, 7, 99, 100} {
			for count := range 33 {
				p := made(t, readers, writers, text(count))
				for range 3 {
					n, m := p.Ends()
					if n != readers || m != writers || p.Len() != count {
						t.Fatal(n, m, p.Len(), "not", readers, writers, count)
					}
				}
			}
		}
	}
}

// P10.3

// What is read is what was written, whatever is the length of the parts.
func TestInOrderHoweverCut(t *testing.T) {
	all := text(500)
	for in := 1; in <= 34; in++ {
		for out := 1; out <= 34; out++ {
			if got := flow(t, New(), all, in, out); got != all {
				t.Fatalf("%d in, %d out: %q", in, out, got)
			}
		}
	}
}

// flow writes a text by parts of at most in bytes, reads it by parts of at most out, and is what was read. Ends are opened and closed all the while, so that one of each kind is left.
func flow(t *testing.T, p *Pipe, all string, in, out int) string {
	t.Helper()
	var got strings.Builder
	for k := 0; got.Len() < len(all); k++ {
		rest := all[got.Len()+p.Len():]
		if rest != "" && p.CanWrite() {
			part := rest[:min(in, len(rest))]
			writes(t, p, part, min(len(part), 32-p.Len()))
		}
		opens(t, p, bothKinds[k%2], api.OK)
		s, e := p.Read(out)
		if e != api.OK || s == "" {
			t.Fatal(s, e)
		}
		got.WriteString(s)
		closes(t, p, bothKinds[k%2], false)
	}
	cantRead(t, p, out, api.ErrAgain)
	is(t, p, 1, 1, "")
	return got.String()
}

// One byte in, one byte out, many times round, with any number of bytes ahead of it.
func TestInTurnManyTimesRound(t *testing.T) {
	all := text(1000)
	for ahead := range 32 {
		p := New()
		writes(t, p, all[:ahead], ahead)
		for k := ahead; k < len(all); k++ {
			writes(t, p, all[k:k+1], 1)
			reads(t, p, 1, all[k-ahead:k-ahead+1])
		}
		is(t, p, 1, 1, all[len(all)-ahead:])
	}
}

// Behind the last writer's closing: what is left, in any parts, then the end, for ever.
func TestWhatIsLeftThenTheEnd(t *testing.T) {
	for _, part := range []int{1, 2, 3, 31, 32, 33, most} {
		everywhere(t, func(p *Pipe, held string) {
			closes(t, p, api.KindWriter, false)
			for rest := held; rest != ""; {
				n := min(part, len(rest))
				reads(t, p, part, rest[:n])
				rest = rest[n:]
				is(t, p, 1, 0, rest)
			}
			for _, n := range []int{1, 0, part, 32, most, 1} {
				reads(t, p, n, "")
				is(t, p, 1, 0, "")
			}
		})
	}
}

// The end comes with the last writer's closing, not with one ahead of it, nor with a reader's; that of the last reader does not take it away.
func TestTheEndIsTheLastWritersAlone(t *testing.T) {
	p := made(t, 2, 3, "")
	for range 2 {
		closes(t, p, api.KindWriter, false)
		cantRead(t, p, 1, api.ErrAgain)
	}
	closes(t, p, api.KindReader, false)
	cantRead(t, p, 1, api.ErrAgain)
	closes(t, p, api.KindWriter, false)
	reads(t, p, 1, "")
	closes(t, p, api.KindReader, true)
	for range 3 {
		reads(t, p, 1, "")
		is(t, p, 0, 0, "")
	}
}

// A pipe that has had no writer gets one again: the end is over, and what was left stands ahead.
func TestAWriterAgain(t *testing.T) {
	for _, held := range []string{"", "a", "abc", text(31)} {
		p := made(t, 1, 0, held)
		for range 3 {
			opens(t, p, api.KindWriter, api.OK)
			is(t, p, 1, 1, held)
			writes(t, p, "z", 1)
			reads(t, p, 32, held+"z")
			cantRead(t, p, 1, api.ErrAgain)
			writes(t, p, held, len(held))
			closes(t, p, api.KindWriter, false)
			is(t, p, 1, 0, held)
		}
		reads(t, p, 32, held)
		reads(t, p, 32, "")
	}
}

// Bytes written before nobody read any more are there for whoever reads again.
func TestAReaderAgain(t *testing.T) {
	for _, held := range []string{"", "a", "abc", text(31)} {
		p := made(t, 0, 1, held)
		for range 3 {
			cantWrite(t, p, "z", api.ErrPipe)
			opens(t, p, api.KindReader, api.OK)
			writes(t, p, "z", 1)
			reads(t, p, 32, held+"z")
			writes(t, p, held, len(held))
			closes(t, p, api.KindReader, false)
			is(t, p, 0, 1, held)
		}
	}
}

// Writing hangs on the readers and the room, and not on the writers.
func TestWriteWithoutAWriter(t *testing.T) {
	p := made(t, 1, 0, "ab")
	writes(t, p, "cd", 2)
	reads(t, p, 9, "abcd")
	reads(t, p, 9, "")
	writes(t, p, "ef", 2)
	reads(t, p, 1, "e")
	reads(t, p, 9, "f")
	reads(t, p, 9, "")
}

// Reading hangs on the bytes and the writers, and not on the readers.
func TestReadWithoutAReader(t *testing.T) {
	p := made(t, 0, 1, "ab")
	reads(t, p, 1, "a")
	reads(t, p, 9, "b")
	cantRead(t, p, 9, api.ErrAgain)
	closes(t, p, api.KindWriter, true)
	reads(t, p, 9, "")
}

func TestBytesOfEveryValue(t *testing.T) {
	for v := range 256 {
		b := string([]byte{byte(v)})
		p := gone(t, v%64)
		writes(t, p, strings.Repeat(b, 40), 32)
		is(t, p, 1, 1, strings.Repeat(b, 32))
		reads(t, p, 20, strings.Repeat(b, 20))
		writes(t, p, b+"\x00"+b+"\xff", 4)
		closes(t, p, api.KindWriter, false)
		reads(t, p, 99, strings.Repeat(b, 13)+"\x00"+b+"\xff")
		reads(t, p, 1, "")
	}
}

// Texts are bytes: a pipe cuts them where it is full, within a letter too, and takes those that are no UTF-8.
func TestTextsOfAnyBytes(t *testing.T) {
	for by := range 33 {
		p := gone(t, by)
		writes(t, p, "é"+strings.Repeat("日", 11), 32)
		reads(t, p, 1, "\xc3")
		reads(t, p, 2, "\xa9\xe6")
		writes(t, p, "\xa5\xff\xfe\x00", 3)
		reads(t, p, 32, "\x97\xa5"+strings.Repeat("日", 9)+"\xa5\xff\xfe")
	}
}

// What was told stays as it was, whatever is done with the pipe from then on.
func TestWhatIsToldStays(t *testing.T) {
	p := gone(t, 30)
	writes(t, p, text(32), 32)
	some, _ := p.Read(20)
	writes(t, p, strings.Repeat("\x00", 20), 20)
	rest, _ := p.Read(12)
	writes(t, p, strings.Repeat("\xff", 12), 12)
	if some+rest != text(32) {
		t.Errorf("%q, %q", some, rest)
	}
}
