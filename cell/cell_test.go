package cell

import (
	"bytes"
	"encoding/binary"
	"errors"
	"math"
	"math/rand"
	"slices"
	"testing"

	"concertina/api"
)

const most = 1<<28 - 1

// raised is what f panics with, and nil if it does not panic.
func raised(f func()) (x any) {
	defer func() { x = recover() }()
	f()
	return nil
}

// numbers is all small numbers, those about each power of two, and some others.
func numbers() []int {
	var l []int
	for x := range 1 << 15 {
		l = append(l, x)
	}
	for shift := 15; shift < 28; shift++ {
		l = append(l, 1<<shift-1, 1<<shift, 1<<shift+1)
	}
	r := rand.New(rand.NewSource(1))
	for range 10000 {
		l = append(l, r.Intn(most+1))
	}
	return append(l, most-1, most)
}

// invalid is numbers that cannot be written.
func invalid() []int {
	return []int{-1, -2, -128, -most, math.MinInt32, math.MinInt, most + 1, most + 2, 1 << 29, 1<<32 + 5, 1 << 35, 1 << 60, math.MaxInt}
}

func written(l ...int) []byte {
	w := &Writer{}
	for _, x := range l {
		w.Num(x)
	}
	return w.Out()
}

func mustOut(t *testing.T, w *Writer, want []byte) {
	t.Helper()
	if got := w.Out(); !bytes.Equal(got, want) {
		t.Errorf("Out() has %d bytes, %x.., want %d, %x..", len(got), got[:min(len(got), 20)], len(want), want[:min(len(want), 20)])
	}
}

func TestP4_1NumKnown(t *testing.T) {
	for _, c := range []struct {
		x    int
		want []byte
	}{
		{0, []byte{0}}, {1, []byte{1}}, {2, []byte{2}}, {126, []byte{126}}, {127, []byte{127}},
		{128, []byte{0x80, 1}}, {129, []byte{0x81, 1}}, {255, []byte{0xff, 1}}, {256, []byte{0x80, 2}},
		{300, []byte{0xac, 2}}, {16382, []byte{0xfe, 0x7f}}, {16383, []byte{0xff, 0x7f}},
		{16384, []byte{0x80, 0x80, 1}}, {16385, []byte{0x81, 0x80, 1}},
		{1<<21 - 1, []byte{0xff, 0xff, 0x7f}}, {1 << 21, []byte{0x80, 0x80, 0x80, 1}},
		{0x1234567, []byte{0xe7, 0x8a, 0x8d, 0x09}},
		{1 << 27, []byte{0x80, 0x80, 0x80, 0x40}},
		{most - 1, []byte{0xfe, 0xff, 0xff, 0x7f}}, {most, []byte{0xff, 0xff, 0xff, 0x7f}},
	} {
		if got := written(c.x); !bytes.Equal(got, c.want) {
			t.Errorf("Num(%d) wrote %x, want %x", c.x, got, c.want)
		}
	}
}

func TestP4_1NumMany(t *testing.T) {
	w := &Writer{}
	var all []byte
	for _, x := range numbers() {
		want := binary.AppendUvarint(nil, uint64(x))
		if got := written(x); !bytes.Equal(got, want) {
			t.Fatalf("Num(%d) wrote %x, want %x", x, got, want)
		}
		w.Num(x)
		all = append(all, want...)
	}
	mustOut(t, w, all)
}

func TestP4_1NumPanics(t *testing.T) {
	for _, x := range invalid() {
		w := &Writer{}
		if raised(func() { w.Num(x) }) == nil {
			t.Errorf("Num(%d) did not panic", x)
		}
		mustOut(t, w, nil)
		w.Num(300)
		if raised(func() { w.Num(x) }) == nil {
			t.Errorf("the second Num(%d) did not panic", x)
		}
		mustOut(t, w, []byte{0xac, 2})
		w.Num(5)
		mustOut(t, w, []byte{0xac, 2, 5})
	}
	for _, x := range []int{0, 1, 127, 128, most - 1, most} {
		if p := raised(func() { written(x) }); p != nil {
			t.Errorf("Num(%d) panicked: %v", x, p)
		}
	}
}

func TestP4_1Bytes(t *testing.T) {
	r := rand.New(rand.NewSource(2))
	w := &Writer{}
	var all []byte
	for _, n := range []int{0, 1, 2, api.Block, 126, 127, 128, 129, 255, 256, api.MaxData, 16383, 16384, 16385, 1 << 21, 0, 3} {
		b := make([]byte, n)
		r.Read(b)
		want := append(binary.AppendUvarint(nil, uint64(n)), b...)
		alone := &Writer{}
		alone.Bytes(b)
		mustOut(t, alone, want)
		w.Bytes(b)
		all = append(all, want...)
	}
	mustOut(t, w, all)
	w.Bytes(nil)
	w.Bytes([]byte{})
	w.Num(7)
	w.Bytes([]byte("ab"))
	mustOut(t, w, append(all, 0, 0, 7, 2, 'a', 'b'))
}

func TestP4_1BytesPanics(t *testing.T) {
	w := &Writer{}
	w.Num(9)
	// Nothing touches the memory of this slice: it costs none.
	b := make([]byte, most+1)
	if raised(func() { w.Bytes(b) }) == nil {
		t.Error("Bytes of 2^28 bytes did not panic")
	}
	mustOut(t, w, []byte{9})
	w.Bytes([]byte("c"))
	mustOut(t, w, []byte{9, 1, 'c'})
}

func TestP4_1OutStarts(t *testing.T) {
	w := &Writer{}
	mustOut(t, w, nil)
	mustOut(t, w, nil)
	other := &Writer{}
	other.Num(1)
	mustOut(t, w, nil)
	w.Num(2)
	mustOut(t, other, []byte{1})
	mustOut(t, w, []byte{2})
}

func TestP4_1OutIsNewMemory(t *testing.T) {
	w := &Writer{}
	var want []byte
	for x := range 100 {
		w.Num(x)
		want = append(want, byte(x))
		mustOut(t, w, want)
		b := w.Out()
		for i := range b {
			b[i] = 255
		}
		spare := b[:cap(b)]
		for i := range spare {
			spare[i] = 255
		}
		mustOut(t, w, want)
	}
	before := w.Out()
	kept := slices.Clone(before)
	w.Bytes(make([]byte, 1000))
	if !bytes.Equal(before, kept) {
		t.Error("a later call changed what Out returned")
	}
}

func TestP4_1BytesLeavesItsArgument(t *testing.T) {
	for n := range 70 {
		whole := bytes.Repeat([]byte{9}, 100)
		b := whole[10 : 10+n]
		w := &Writer{}
		w.Bytes(b)
		w.Num(300)
		w.Bytes(b)
		if !bytes.Equal(whole, bytes.Repeat([]byte{9}, 100)) {
			t.Errorf("Bytes of %d bytes changed its argument", n)
		}
		want := w.Out()
		for i := range whole {
			whole[i] = 8
		}
		mustOut(t, w, want)
	}
}

func TestP4_1NoWriter(t *testing.T) {
	var w *Writer
	for _, x := range append(invalid(), 0, 3, most) {
		if p := raised(func() { w.Num(x) }); p != nil {
			t.Errorf("Num(%d) of nil panicked: %v", x, p)
		}
	}
	if p := raised(func() { w.Bytes(nil); w.Bytes([]byte("x")) }); p != nil {
		t.Errorf("Bytes of nil panicked: %v", p)
	}
	if b := w.Out(); len(b) != 0 {
		t.Errorf("Out of nil = %x", b)
	}
}

// num reads one number.
func num(b ...byte) (int, api.Errno) {
	x := -1
	e := Read(b, func(r *Reader) { x = r.Num() })
	return x, e
}

func mustNum(t *testing.T, b []byte, want int, wantE api.Errno) {
	t.Helper()
	if x, e := num(b...); x != want || e != wantE {
		t.Errorf("Num of %x = %d, %v, want %d, %v", b, x, e, want, wantE)
	}
}

func TestP4_2NumKnown(t *testing.T) {
	for _, c := range []struct {
		b    []byte
		want int
	}{
		{[]byte{0}, 0}, {[]byte{1}, 1}, {[]byte{127}, 127}, {[]byte{0x80, 1}, 128}, {[]byte{0xac, 2}, 300},
		{[]byte{0xff, 0x7f}, 16383}, {[]byte{0x80, 0x80, 1}, 16384}, {[]byte{0xff, 0xff, 0x7f}, 1<<21 - 1},
		{[]byte{0x80, 0x80, 0x80, 1}, 1 << 21}, {[]byte{0xff, 0xff, 0xff, 0x7f}, most},
	} {
		mustNum(t, c.b, c.want, api.OK)
		mustNum(t, append(c.b, 0), c.want, api.ErrLong)
	}
}

func TestP4_2NumMany(t *testing.T) {
	l := numbers()
	e := Read(written(l...), func(r *Reader) {
		for _, want := range l {
			left := r.Left()
			x := r.Num()
			if n := left - r.Left(); x != want || n != len(written(want)) {
				t.Fatalf("Num = %d from %d bytes, want %d", x, n, want)
			}
		}
	})
	if e != api.OK {
		t.Errorf("Read = %v", e)
	}
}

func TestP4_2NumErrors(t *testing.T) {
	for _, b := range [][]byte{
		nil, {}, {0x80}, {0xff}, {0x81}, {0x80, 0x80}, {0xff, 0xff}, {0x80, 0x80, 0x80}, {0xff, 0xff, 0xff}, {1<<7 | 5, 0xff, 0x80},
	} {
		mustNum(t, b, -1, api.ErrShort)
	}
	for _, b := range [][]byte{
		// The last byte is 0 and not the first.
		{0x80, 0}, {0xff, 0}, {0x81, 0x80, 0}, {0x80, 0x81, 0}, {0x80, 0x80, 0x80, 0}, {0xff, 0xff, 0xff, 0},
		{0x80, 0, 5}, {0xff, 0xff, 0xff, 0, 0xff},
		// The fourth byte has its highest bit set, whether bytes are behind it or not.
		{0x80, 0x80, 0x80, 0x80}, {0xff, 0xff, 0xff, 0xff}, {0x80, 0x80, 0x80, 0x81}, {0xff, 0xff, 0xff, 0x80},
		{0x80, 0x80, 0x80, 0x80, 0}, {0x80, 0x80, 0x80, 0x80, 1}, {0x80, 0x80, 0x80, 0x80, 0x80, 1}, {0xff, 0xff, 0xff, 0xff, 0x0f},
	} {
		mustNum(t, b, -1, api.ErrForm)
	}
}

// plain is the number at the start of b, read without a loop over its groups,
// and how many bytes it has.
func plain(b []byte) (int, int, api.Errno) {
	n := slices.IndexFunc(b, func(x byte) bool { return x < 128 }) + 1
	if n > 4 || n == 0 && len(b) >= 4 {
		return 0, 0, api.ErrForm
	}
	if n == 0 {
		return 0, 0, api.ErrShort
	}
	x, _ := binary.Uvarint(b[:n])
	if len(binary.AppendUvarint(nil, x)) != n {
		return 0, 0, api.ErrForm
	}
	return int(x), n, api.OK
}

func mustPlain(t *testing.T, b []byte) {
	t.Helper()
	x, n, e := plain(b)
	if e != api.OK {
		mustNum(t, b, -1, e)
	} else if n < len(b) {
		mustNum(t, b, x, api.ErrLong)
	} else {
		mustNum(t, b, x, api.OK)
	}
}

func TestP4_2NumOfAllShort(t *testing.T) {
	for i := range 256 {
		mustPlain(t, []byte{byte(i)})
		for j := range 256 {
			mustPlain(t, []byte{byte(i), byte(j)})
		}
	}
	edges := []byte{0, 1, 2, 64, 127, 128, 129, 192, 254, 255}
	for i := range 100000 {
		var b [5]byte
		for k := range b {
			b[k] = edges[i%10]
			i /= 10
		}
		mustPlain(t, b[:])
		mustPlain(t, b[:4])
		mustPlain(t, b[:3])
	}
}

// taken is what one call of Bytes reads, and how many bytes it leaves.
func taken(most int, b ...byte) ([]byte, int, api.Errno) {
	var x []byte
	left := -1
	e := Read(b, func(r *Reader) {
		x = r.Bytes(most)
		left = r.Left()
	})
	return x, left, e
}

func TestP4_2Bytes(t *testing.T) {
	for _, c := range []struct {
		most int
		b    []byte
		want []byte
		left int
		e    api.Errno
	}{
		{5, []byte{2, 'a', 'b'}, []byte("ab"), 0, api.OK},
		{2, []byte{2, 'a', 'b'}, []byte("ab"), 0, api.OK},
		{math.MaxInt, []byte{2, 'a', 'b'}, []byte("ab"), 0, api.OK},
		{2, []byte{2, 'a', 'b', 'c', 'd'}, []byte("ab"), 2, api.ErrLong},
		{0, []byte{0}, nil, 0, api.OK},
		{9, []byte{0}, nil, 0, api.OK},
		{0, []byte{0, 0}, nil, 1, api.ErrLong},
		// Longer than most.
		{1, []byte{2, 'a', 'b'}, nil, -1, api.ErrLong},
		{0, []byte{1, 'a'}, nil, -1, api.ErrLong},
		{-1, []byte{0}, nil, -1, api.ErrLong},
		{math.MinInt, []byte{0}, nil, -1, api.ErrLong},
		{-1, []byte{1, 'a'}, nil, -1, api.ErrLong},
		// Too few bytes, by as little as one and as many as possible.
		{5, []byte{3, 'a', 'b'}, nil, -1, api.ErrShort},
		{5, []byte{1}, nil, -1, api.ErrShort},
		{most, []byte{0xff, 0xff, 0xff, 0x7f, 'a'}, nil, -1, api.ErrShort},
		{math.MaxInt, []byte{0xff, 0xff, 0xff, 0x7f}, nil, -1, api.ErrShort},
		{128, []byte{0x80, 1, 'a'}, nil, -1, api.ErrShort},
		// Both: longer than most, and too few bytes.
		{2, []byte{3, 'a', 'b'}, nil, -1, api.ErrLong},
		{1, []byte{200, 1}, nil, -1, api.ErrLong},
		{most - 1, []byte{0xff, 0xff, 0xff, 0x7f}, nil, -1, api.ErrLong},
		// No length, or none that is well formed, comes before both.
		{9, nil, nil, -1, api.ErrShort},
		{-1, nil, nil, -1, api.ErrShort},
		{-1, []byte{0x80}, nil, -1, api.ErrShort},
		{9, []byte{0x80, 0}, nil, -1, api.ErrForm},
		{-1, []byte{0x80, 0, 'a'}, nil, -1, api.ErrForm},
		{9, []byte{0x80, 0x80, 0x80, 0x80}, nil, -1, api.ErrForm},
		{-1, []byte{0xff, 0xff, 0xff, 0xff, 0}, nil, -1, api.ErrForm},
	} {
		x, left, e := taken(c.most, c.b...)
		if !bytes.Equal(x, c.want) || left != c.left || e != c.e {
			t.Errorf("Bytes(%d) of %x = %x, %d left, %v, want %x, %d left, %v", c.most, c.b, x, left, e, c.want, c.left, c.e)
		}
	}
}

func TestP4_2BytesLengths(t *testing.T) {
	r := rand.New(rand.NewSource(3))
	for _, n := range []int{0, 1, 2, 63, 64, 127, 128, 129, api.MaxData - 1, api.MaxData, api.MaxData + 1, 16383, 16384, 1 << 21} {
		want := make([]byte, n)
		r.Read(want)
		w := &Writer{}
		w.Bytes(want)
		b := w.Out()
		for _, c := range []struct {
			most int
			b    []byte
			want []byte
			e    api.Errno
		}{
			{n, b, want, api.OK}, {n + 1, b, want, api.OK}, {n - 1, b, nil, api.ErrLong},
			{n, b[:len(b)-1], nil, api.ErrShort}, {n, append(slices.Clone(b), 0), want, api.ErrLong},
		} {
			if x, _, e := taken(c.most, c.b...); !bytes.Equal(x, c.want) || e != c.e {
				t.Errorf("Bytes(%d) of a length of %d and %d bytes in all: %d bytes, %v, want %d, %v", c.most, n, len(c.b), len(x), e, len(c.want), c.e)
			}
		}
	}
}

func TestP4_2Read(t *testing.T) {
	for _, b := range [][]byte{nil, {}, {1}, {0x80}} {
		if e := Read(b, nil); e != api.ErrArg {
			t.Errorf("Read(%x, nil) = %v", b, e)
		}
		calls, left := 0, -1
		want := api.OK
		if len(b) > 0 {
			want = api.ErrLong
		}
		e := Read(b, func(r *Reader) {
			calls++
			left = r.Left()
		})
		if e != want || calls != 1 || left != len(b) {
			t.Errorf("Read(%x) of a function that reads nothing = %v after %d calls, with %d left", b, e, calls, left)
		}
	}
	after := false
	e := Read([]byte{5, 0x80, 0, 1, 2, 3}, func(r *Reader) {
		if x := r.Num(); x != 5 || r.Left() != 5 {
			t.Errorf("Num = %d, %d left", x, r.Left())
		}
		r.Num()
		after = true
	})
	// Bytes are left, too.
	if e != api.ErrForm || after {
		t.Errorf("Read of a malformed number = %v, and the function went on: %v", e, after)
	}
}

func TestP4_2ReadNested(t *testing.T) {
	for _, c := range []struct {
		inner, outer         []byte
		wantInner, wantOuter api.Errno
	}{
		{[]byte{1}, []byte{2}, api.OK, api.OK},
		{[]byte{0x80}, []byte{2}, api.ErrShort, api.OK},
		{[]byte{1}, []byte{0x80, 0}, api.OK, api.ErrForm},
		{[]byte{0x80, 0}, []byte{}, api.ErrForm, api.ErrShort},
		{[]byte{1, 1}, []byte{2}, api.ErrLong, api.OK},
		{nil, []byte{2, 2}, api.ErrShort, api.ErrLong},
	} {
		var inner api.Errno
		outer := Read(c.outer, func(r *Reader) {
			inner = Read(c.inner, func(r *Reader) { r.Num() })
			r.Num()
		})
		if inner != c.wantInner || outer != c.wantOuter {
			t.Errorf("Read(%x) in Read(%x) = %v, %v, want %v, %v", c.inner, c.outer, inner, outer, c.wantInner, c.wantOuter)
		}
	}
}

// A panic that is a reader's has the value of its error, as f itself may see.
func TestP4_2PanicsWithErrors(t *testing.T) {
	for _, c := range []struct {
		b    []byte
		read func(r *Reader)
		want api.Errno
	}{
		{nil, func(r *Reader) { r.Num() }, api.ErrShort},
		{[]byte{0x80, 0}, func(r *Reader) { r.Num() }, api.ErrForm},
		{[]byte{0x80, 0x80, 0x80, 0x80}, func(r *Reader) { r.Num() }, api.ErrForm},
		{[]byte{2, 1, 1}, func(r *Reader) { r.Bytes(1) }, api.ErrLong},
		{[]byte{2, 1}, func(r *Reader) { r.Bytes(2) }, api.ErrShort},
		{nil, func(r *Reader) { r.Bytes(0) }, api.ErrShort},
		{[]byte{0x80, 0}, func(r *Reader) { r.Bytes(0) }, api.ErrForm},
	} {
		var x any
		Read(c.b, func(r *Reader) { x = raised(func() { c.read(r) }) })
		if x != c.want {
			t.Errorf("a call on %x panics with %v, want %v", c.b, x, c.want)
		}
		if e := Read(c.b, c.read); e != c.want {
			t.Errorf("Read of %x = %v, want %v", c.b, e, c.want)
		}
	}
}

func TestP4_2OwnPanics(t *testing.T) {
	own := errors.New("own")
	l := []any{"own", 7, own, &struct{ x int }{3}}
	for e := range api.ErrLost + 2 {
		l = append(l, e)
	}
	for _, want := range l {
		for name, f := range map[string]func(r *Reader){
			"at once":         func(r *Reader) { panic(want) },
			"after a number":  func(r *Reader) { r.Num(); panic(want) },
			"after all bytes": func(r *Reader) { r.Num(); r.Bytes(9); panic(want) },
			"after its end":   func(r *Reader) { r.Num(); r.Bytes(9); r.Left(); panic(want) },
		} {
			if got := raised(func() { Read([]byte{5, 1, 2}, f) }); got != want {
				t.Errorf("a function that panics with %v %s: Read panics with %v", want, name, got)
			}
		}
	}
	x := raised(func() { Read([]byte{5, 1, 2}, func(r *Reader) { panic([]int{1}) }) })
	if l, ok := x.([]int); !ok || !slices.Equal(l, []int{1}) {
		t.Errorf("a function that panics with a slice: Read panics with %v", x)
	}
	x = raised(func() { Read([]byte{5}, func(r *Reader) { var l []int; l[r.Num()] = 1 }) })
	if _, ok := x.(interface{ RuntimeError() }); !ok {
		t.Errorf("an index out of range: Read panics with %v", x)
	}
	// The panic of a writer is none of a reader.
	if raised(func() { Read([]byte{5}, func(r *Reader) { (&Writer{}).Num(-r.Num()) }) }) == nil {
		t.Error("Read recovered the panic of a writer")
	}
}

// A copy looks ahead: what it reads is left in the reader, but its panics are
// recovered just as well.
func TestP4_2Copies(t *testing.T) {
	e := Read([]byte{5}, func(r *Reader) {
		ahead := *r
		if x, y := ahead.Num(), r.Num(); x != 5 || y != 5 {
			t.Errorf("a copy and its reader read %d, %d", x, y)
		}
		ahead.Num()
	})
	if e != api.ErrShort {
		t.Errorf("Read = %v, want ErrShort", e)
	}
}

// A function that recovers the panic of its reader may go on, or panic itself.
func TestP4_2RecoveredByTheFunction(t *testing.T) {
	short := func(r *Reader) {
		if raised(func() { r.Num() }) == nil {
			t.Error("no panic")
		}
	}
	if e := Read([]byte{5}, func(r *Reader) { r.Num(); short(r) }); e != api.OK {
		t.Errorf("Read = %v", e)
	}
	for _, want := range []any{"own", api.ErrSum, api.ErrForm, api.ErrLong, api.OK, errors.New("own")} {
		for name, f := range map[string]func(r *Reader){
			"afterwards": func(r *Reader) { short(r); panic(want) },
			"instead": func(r *Reader) {
				defer func() { panic(want) }()
				r.Num()
			},
		} {
			if got := raised(func() { Read(nil, f) }); got != want {
				t.Errorf("a function that panics with %v %s: Read panics with %v", want, name, got)
			}
		}
	}
	// Of two panics with one value the first is the reader's, the second is not.
	x := raised(func() {
		Read([]byte{1, 'a', 'b'}, func(r *Reader) {
			if raised(func() { r.Bytes(0) }) != api.ErrLong {
				t.Error("Bytes of more than most did not panic")
			}
			r.Num()
			panic(api.ErrLong)
		})
	})
	if x != api.ErrLong {
		t.Errorf("a function that panics as its reader did before: Read panics with %v", x)
	}
	x = raised(func() { Read(nil, func(r *Reader) { short(r); panic([]int{1}) }) })
	if _, ok := x.([]int); !ok {
		t.Errorf("a function that panics with a slice: Read panics with %v", x)
	}
}

func TestP4_2BytesAreNewMemory(t *testing.T) {
	whole := []byte{9, 9, 2, 'a', 'b', 3, 'c', 'd', 'e', 0, 7, 9, 9}
	before := slices.Clone(whole)
	e := Read(whole[2:11], func(r *Reader) {
		for _, want := range []string{"ab", "cde", ""} {
			x := r.Bytes(9)
			if string(x) != want {
				t.Errorf("Bytes = %q, want %q", x, want)
			}
			x = x[:cap(x)]
			for i := range x {
				x[i] = 255
			}
		}
		if x := r.Num(); x != 7 {
			t.Errorf("Num = %d, want 7", x)
		}
	})
	if e != api.OK || !bytes.Equal(whole, before) {
		t.Errorf("Read = %v, and left %x", e, whole)
	}
}

func TestP4_2BytesOfTwoReadsAreApart(t *testing.T) {
	b := []byte{2, 'a', 'b', 2, 'c', 'd'}
	var first, second, again []byte
	Read(b, func(r *Reader) { first, second = r.Bytes(2), r.Bytes(2) })
	Read(b, func(r *Reader) { again = r.Bytes(2) })
	copy(b, "xxxxxx")
	first[0] = 'y'
	if string(first) != "yb" || string(second) != "cd" || string(again) != "ab" {
		t.Errorf("read %q, %q, %q", first, second, again)
	}
}

// A reader that f keeps does not keep what was passed to Read.
func TestP4_2NothingIsRetained(t *testing.T) {
	b := []byte{5, 6}
	var kept *Reader
	Read(b, func(r *Reader) { r.Num(); kept = r })
	b[1] = 9
	x := -1
	raised(func() { x = kept.Num() })
	if x == 9 {
		t.Error("a reader shows what became of the slice after Read")
	}
}

func TestP4_2NoReader(t *testing.T) {
	var none *Reader
	if p := raised(func() {
		if x, b, n := none.Num(), none.Bytes(3), none.Left(); x != 0 || len(b) != 0 || n != 0 {
			t.Errorf("Num, Bytes, Left of nil = %d, %x, %d", x, b, n)
		}
		none.Bytes(-1)
	}); p != nil {
		t.Errorf("a method of nil panicked: %v", p)
	}
	empty := &Reader{}
	if empty.Left() != 0 || raised(func() { empty.Num() }) != api.ErrShort || raised(func() { empty.Bytes(0) }) != api.ErrShort {
		t.Error("a reader of nothing has bytes")
	}
}

// item is one thing that is read: the bytes of at most most, or a number.
type item struct {
	isBytes bool
	most    int
}

// step reads an item from the start of b without package cell.
func (i item) step(b []byte) (x int, data, rest []byte, e api.Errno) {
	x, n, e := plain(b)
	if e != api.OK || !i.isBytes {
		return x, nil, b[n:], e
	}
	if x > i.most {
		return 0, nil, nil, api.ErrLong
	}
	if x > len(b)-n {
		return 0, nil, nil, api.ErrShort
	}
	return 0, b[n : n+x], b[n+x:], api.OK
}

func TestP4_2AgainstPlain(t *testing.T) {
	r := rand.New(rand.NewSource(4))
	seen := map[api.Errno]int{}
	for range 20000 {
		b := make([]byte, r.Intn(30))
		for i := range b {
			b[i] = []byte{0, 1, 2, 3, 4, 5, 127, 128, 129, 255}[min(r.Intn(40)%13, 9)]
		}
		items := make([]item, r.Intn(8))
		for i := range items {
			items[i] = item{r.Intn(2) == 0, r.Intn(9) - 1}
		}
		rest, done := b, 0
		got := Read(b, func(r *Reader) {
			for _, i := range items {
				x, data, next, e := i.step(rest)
				var y int
				var read []byte
				if i.isBytes {
					read = r.Bytes(i.most)
				} else {
					y = r.Num()
				}
				if e != api.OK || x != y || !bytes.Equal(data, read) || r.Left() != len(next) {
					t.Fatalf("%x: %+v read %d, %x and left %d, want %d, %x, %d, %v", b, i, y, read, r.Left(), x, data, len(next), e)
				}
				rest = next
				done++
			}
		})
		want := api.OK
		if done < len(items) {
			_, _, _, want = items[done].step(rest)
		} else if len(rest) > 0 {
			want = api.ErrLong
		}
		if got != want {
			t.Fatalf("Read(%x) of %+v = %v, want %v", b, items, got, want)
		}
		seen[want]++
	}
	for _, e := range []api.Errno{api.OK, api.ErrShort, api.ErrLong, api.ErrForm} {
		if seen[e] < 100 {
			t.Errorf("%v was seen only %d times", e, seen[e])
		}
	}
}

func TestP4_2ReadsWhatIsWritten(t *testing.T) {
	r := rand.New(rand.NewSource(5))
	for range 500 {
		w := &Writer{}
		var want []any
		for range r.Intn(20) {
			if r.Intn(2) == 0 {
				x := r.Intn(1 << r.Intn(29))
				w.Num(x)
				want = append(want, x)
			} else {
				b := make([]byte, r.Intn(300))
				r.Read(b)
				w.Bytes(b)
				want = append(want, b)
			}
		}
		e := Read(w.Out(), func(r *Reader) {
			for _, x := range want {
				switch x := x.(type) {
				case int:
					if y := r.Num(); y != x {
						t.Errorf("read %d, want %d", y, x)
					}
				case []byte:
					if y := r.Bytes(len(x)); !bytes.Equal(y, x) {
						t.Errorf("read %x, want %x", y, x)
					}
				}
			}
		})
		if e != api.OK {
			t.Errorf("Read = %v", e)
		}
	}
}
