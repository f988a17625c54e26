package extent

import (
	"bytes"
	"math"
	"math/rand"
	"slices"
	"testing"

	"concertina/api"
	"concertina/leaf"
	"concertina/lz"
	"concertina/mould"
	"concertina/words"
)

// plainNum is the first integer of b, and the rest.
func plainNum(b []byte) (int, []byte, api.Errno) {
	x := 0
	for i, unit := 0, 1; i < 4; i, unit = i+1, unit*128 {
		if i >= len(b) {
			return 0, nil, api.ErrShort
		}
		x += int(b[i]%128) * unit
		if b[i] == 0 && i > 0 {
			return 0, nil, api.ErrForm
		}
		if b[i] < 128 {
			return x, b[i+1:], api.OK
		}
	}
	return 0, nil, api.ErrForm
}

// plainItems is the three items of an extent's data.
func plainItems(data []byte) (sectors, kind int, packed []byte, e api.Errno) {
	var size int
	if sectors, data, e = plainNum(data); e != api.OK {
		return
	}
	if kind, data, e = plainNum(data); e != api.OK {
		return
	}
	if size, data, e = plainNum(data); e != api.OK {
		return
	}
	if size > api.MaxData {
		e = api.ErrLong
	} else if size > len(data) {
		e = api.ErrShort
	} else if size < len(data) {
		e = api.ErrLong
	} else {
		packed = data
	}
	return
}

// plainOpen is Open as the chapter tells it, in its order.
func plainOpen(b []byte) ([]byte, int, api.Errno) {
	gen, data, e := leaf.Open(b, 0xe7)
	if e != api.OK {
		return nil, 0, e
	}
	sectors, kind, packed, e := plainItems(data)
	if e != api.OK {
		return nil, 0, e
	}
	if sectors == 0 || sectors > api.Slots || kind > mould.Both {
		return nil, 0, api.ErrForm
	}
	whole, e := mould.Open(kind, packed, sectors*api.Sector)
	if e != api.OK {
		return nil, 0, e
	}
	return whole, gen, api.OK
}

// frame is an extent with any data.
func frame(data []byte) []byte {
	b, e := leaf.Make(0xe7, 7, data)
	if e != api.OK {
		panic(e)
	}
	return b
}

// notSlots is numbers of no slot, whatever the extent.
var notSlots = [...]int{-1, -2, -8, api.Slots, api.Slots + 1, 99, 256, 1 << 32, math.MinInt, math.MaxInt}

// mustOpen wants that Open returns these sectors, and Sector each of them.
func mustOpen(t *testing.T, b []byte, gen int, want [][]byte) {
	t.Helper()
	l, g, e := Open(b)
	if e != api.OK || g != gen || !slices.EqualFunc(l, want, bytes.Equal) {
		t.Fatalf("Open(%d bytes) = %d sectors, %d, %v, want %d, %d, OK: %x", len(b), len(l), g, e, len(want), gen, l)
	}
	for i, s := range want {
		if got, e := Sector(b, i); e != api.OK || !bytes.Equal(got, s) {
			t.Errorf("Sector(%d bytes, %d of %d) = %x, %v, want %x, OK", len(b), i, len(want), got, e, s)
		}
	}
	for _, slot := range append(notSlots[:], len(want), len(want)+1) {
		if got, e := Sector(b, slot); e != api.ErrArg || len(got) != 0 {
			t.Errorf("Sector(%d bytes, %d of %d) = %d bytes, %v, want none, ErrArg", len(b), slot, len(want), len(got), e)
		}
	}
}

// mustNotOpen wants this error of Open, and of Sector for any slot.
func mustNotOpen(t *testing.T, b []byte, want api.Errno) {
	t.Helper()
	if l, gen, e := Open(b); e != want || len(l) != 0 || gen != 0 {
		t.Errorf("Open(%x) = %d sectors, %d, %v, want none, 0, %v", b, len(l), gen, e, want)
	}
	for _, slot := range []int{0, 7, 8, -1, math.MaxInt} {
		if s, e := Sector(b, slot); e != want || len(s) != 0 {
			t.Errorf("Sector(%x, %d) = %d bytes, %v, want none, %v", b, slot, len(s), e, want)
		}
	}
}

// mustAgree compares Open and Sector with the plain one.
func mustAgree(t *testing.T, b []byte) api.Errno {
	t.Helper()
	whole, gen, e := plainOpen(b)
	if e != api.OK {
		mustNotOpen(t, b, e)
		return e
	}
	var l [][]byte
	for i := 0; i < len(whole); i += api.Sector {
		l = append(l, whole[i:i+api.Sector])
	}
	mustOpen(t, b, gen, l)
	return e
}

func TestP10_2OpenWhatBuildMade(t *testing.T) {
	for i, l := range samples() {
		for _, x := range []float64{0, 0.3, 0.6, 1, math.NaN()} {
			mustOpen(t, mustBuild(t, l, i, x), i, l)
		}
	}
	for _, gen := range []int{0, 1, 1 << 28, greatestGen} {
		mustOpen(t, mustBuild(t, counted(2), gen, 1), gen, counted(2))
	}
}

// Open does not ask whether Build would have made it.
func TestP10_2OpenEveryFormat(t *testing.T) {
	for _, l := range samples() {
		b := joined(l)
		z := lz.Pack(b)
		both := slices.Concat([]byte{byte(len(z)), byte(len(z) >> 8)}, words.Pack(z))
		for kind, packed := range [][]byte{b, z, both} {
			mustOpen(t, frame(dataOf(len(l), kind, packed)), 7, l)
		}
	}
}

func TestP10_2OpenErrorsOfTheFrame(t *testing.T) {
	good := mustBuild(t, text(4), 9, 1)
	mustOpen(t, good, 9, text(4))
	for n := range good {
		mustNotOpen(t, good[:n], api.ErrShort)
	}
	mustNotOpen(t, nil, api.ErrShort)
	mustNotOpen(t, append(slices.Clone(good), 0), api.ErrLong)
	mustNotOpen(t, append(slices.Clone(good), good...), api.ErrLong)
	for i := range good {
		for _, mask := range []byte{1, 0x80, 0xff} {
			bad := slices.Clone(good)
			bad[i] ^= mask
			_, _, want := leaf.Open(bad, 0xe7)
			if want == api.OK {
				t.Fatalf("a change of byte %d goes undetected", i)
			}
			mustNotOpen(t, bad, want)
		}
	}
	for _, kind := range []byte{0, 1, 0x4e, 0xe6, 0xe8, 0xff} {
		b, _ := leaf.Make(kind, 7, dataOf(1, mould.Raw, make([]byte, 128)))
		mustNotOpen(t, b, api.ErrForm)
	}
}

func TestP10_2OpenErrorsOfTheFrameComeFirst(t *testing.T) {
	for _, data := range [][]byte{nil, {1}, {1, 0, 129}, {0x80, 0}, dataOf(0, 0, nil), dataOf(1, 0, nil), append(dataOf(0, 3, nil), 1)} {
		other, _ := leaf.Make(0x4e, 7, data)
		mustNotOpen(t, other, api.ErrForm)
		b := frame(data)
		mustNotOpen(t, append(b[:64:64], 0), api.ErrLong)
		mustNotOpen(t, b[:63], api.ErrShort)
		b[12] ^= 1
		mustNotOpen(t, b, api.ErrSum)
	}
}

func TestP10_2OpenErrorsOfCell(t *testing.T) {
	short, form, long := api.ErrShort, api.ErrForm, api.ErrLong
	raw := make([]byte, 128)
	for _, x := range []struct {
		want  api.Errno
		parts [][]byte
	}{
		// Nothing, or the beginning of an item.
		{short, nil},
		{short, [][]byte{{0x81}}},
		{short, [][]byte{{0xff, 0xff, 0xff}}},
		{short, [][]byte{{1}}},
		{short, [][]byte{{1, 0x81}}},
		{short, [][]byte{{1, 0}}},
		{short, [][]byte{{1, 0, 0x80}}},
		{short, [][]byte{{1, 0, 0x80, 1}}},
		{short, [][]byte{{1, 0, 0x80, 1}, raw[:127]}},
		{short, [][]byte{{1, 0, 0x81, 1}, raw}},
		// More bytes than necessary, or than possible.
		{form, [][]byte{{0x81, 0}, {0, 0x80, 1}, raw}},
		{form, [][]byte{{0x81, 0x80, 0}, {0, 0x80, 1}, raw}},
		{form, [][]byte{{1, 0x80, 0}, {0x80, 1}, raw}},
		{form, [][]byte{{1, 0, 0x80, 0x81, 0}, raw}},
		{form, [][]byte{{0xff, 0xff, 0xff, 0xff, 0}}},
		{form, [][]byte{{1, 0x80, 0x80, 0x80, 0x80, 0}}},
		{form, [][]byte{{1, 0, 0xff, 0xff, 0xff, 0xff}, raw}},
		// Something behind the last item.
		{long, [][]byte{{1, 0, 0x80, 1}, raw, {0}}},
		{long, [][]byte{{1, 0, 0x80, 1}, raw, raw}},
		{long, [][]byte{{1, 0, 0}, raw}},
		// A length beyond the limit, of bytes that are not there.
		{long, [][]byte{{1, 0}, num(api.MaxData + 1), raw}},
		{long, [][]byte{{1, 0}, num(greatestNum), raw}},
		{short, [][]byte{{1, 0}, num(api.MaxData), raw}},
		{long, [][]byte{{1, 0}, num(api.MaxData + 1)}},
	} {
		mustNotOpen(t, frame(slices.Concat(x.parts...)), x.want)
	}
}

// greatest is a frame with the greatest data, the packed bytes of which are
// zeros.
func greatest(sectors, kind int) []byte {
	room := api.MaxData - len(num(sectors)) - len(num(kind)) - 2
	return frame(dataOf(sectors, kind, make([]byte, room)))
}

func TestP10_2OpenErrorsOfCellComeBeforeOthers(t *testing.T) {
	for _, head := range [][]byte{{0, 0}, {9, 0}, {1, 3}, {0, 3}, slices.Concat(num(greatestNum), num(greatestNum))} {
		mustNotOpen(t, frame(head), api.ErrShort)
		mustNotOpen(t, frame(append(slices.Clone(head), 1)), api.ErrShort)
		mustNotOpen(t, frame(append(slices.Clone(head), 0, 0)), api.ErrLong)
		mustNotOpen(t, frame(slices.Concat(head, num(api.MaxData+1))), api.ErrLong)
		mustNotOpen(t, frame(append(slices.Clone(head), 0)), api.ErrForm)
	}
	// A number of sectors that makes no sense, and then the format is malformed.
	mustNotOpen(t, frame([]byte{0, 0x80}), api.ErrShort)
	mustNotOpen(t, frame([]byte{0}), api.ErrShort)
}

func TestP10_2OpenCounts(t *testing.T) {
	for _, n := range []int{0, 9, 10, 16, 127, 128, 255, 256, 257, 264, 1 << 14, 1<<21 + 1, greatestNum} {
		// Some of these have as many bytes as the number says.
		for _, size := range []int{0, 128, 1024, 1152, min(n*128, 3968)} {
			mustNotOpen(t, frame(dataOf(n, mould.Raw, make([]byte, size))), api.ErrForm)
		}
		mustNotOpen(t, frame(dataOf(n, mould.Lz, lz.Pack(make([]byte, 128)))), api.ErrForm)
		mustNotOpen(t, greatest(n, mould.Both), api.ErrForm)
	}
	for n := 1; n <= 8; n++ {
		mustOpen(t, frame(dataOf(n, mould.Raw, joined(counted(n)))), 7, counted(n))
	}
}

func TestP10_2OpenFormats(t *testing.T) {
	for _, kind := range []int{3, 4, 5, 127, 128, 255, 256, 257, 258, 1 << 14, greatestNum} {
		for n := 1; n <= 8; n++ {
			mustNotOpen(t, frame(dataOf(n, kind, joined(counted(n)))), api.ErrForm)
			mustNotOpen(t, frame(dataOf(n, kind, nil)), api.ErrForm)
			mustNotOpen(t, frame(dataOf(n, kind, lz.Pack(joined(counted(n))))), api.ErrForm)
		}
		mustNotOpen(t, frame(dataOf(0, kind, nil)), api.ErrForm)
		mustNotOpen(t, frame(dataOf(9, kind, nil)), api.ErrForm)
	}
}

func TestP10_2OpenErrorsOfMould(t *testing.T) {
	for n := 1; n <= 8; n++ {
		b := joined(counted(n))
		more := append(slices.Clone(b), 1)
		mustNotOpen(t, frame(dataOf(n, mould.Raw, b[1:])), api.ErrShort)
		mustNotOpen(t, frame(dataOf(n, mould.Raw, more)), api.ErrLong)
		mustNotOpen(t, frame(dataOf(n, mould.Raw, nil)), api.ErrShort)
		mustNotOpen(t, frame(dataOf(n, mould.Lz, lz.Pack(b[1:]))), api.ErrShort)
		mustNotOpen(t, frame(dataOf(n, mould.Lz, lz.Pack(more))), api.ErrLong)
		// It goes back two bytes where there is one.
		mustNotOpen(t, frame(dataOf(n, mould.Lz, []byte{0x10, 'a', 2, 0, 0})), api.ErrForm)
		mustNotOpen(t, frame(dataOf(n, mould.Both, []byte{0})), api.ErrShort)
		mustNotOpen(t, frame(dataOf(n, mould.Both, []byte{1, 0x10, 0})), api.ErrLong)
		mustNotOpen(t, frame(dataOf(n, mould.Both, []byte{2, 0, 0xc0})), api.ErrForm)
	}
	mustNotOpen(t, greatest(8, mould.Raw), api.ErrLong)
	mustNotOpen(t, greatest(8, mould.Lz), api.ErrForm)
}

func TestP10_2OpenAnyBytes(t *testing.T) {
	mustAgree(t, frame(nil))
	for x := range 1 << 16 {
		data := []byte{byte(x), byte(x >> 8)}
		if data[1] == 0 {
			mustAgree(t, frame(data[:1]))
		}
		mustAgree(t, frame(data))
	}
	parts := []byte{0, 1, 2, 3, 8, 9, 0x7f, 0x80, 0x81, 0xff}
	for x := range 100000 {
		data := make([]byte, 5)
		for i := range data {
			data[i] = parts[x%10]
			x /= 10
		}
		mustAgree(t, frame(data))
	}
}

// damaged is the data of an extent with some change, behind which it still has
// a good frame.
func damaged(r *rand.Rand, data []byte) []byte {
	data = slices.Clone(data)
	switch r.Intn(5) {
	case 0:
		data = data[:r.Intn(len(data)+1)]
	case 1:
		data = append(data, byte(r.Intn(256)))
	case 2:
		data[r.Intn(min(len(data), 4))] = byte(r.Intn(256))
	case 3:
		data[r.Intn(min(len(data), 4))] ^= 1 << r.Intn(8)
	case 4:
		data[r.Intn(len(data))] ^= byte(1 + r.Intn(255))
	}
	return data
}

func TestP10_2OpenOfDamage(t *testing.T) {
	r := rand.New(rand.NewSource(4))
	list := samples()
	var seen [api.ErrLost + 1]int
	for range 8000 {
		l := list[r.Intn(len(list))]
		_, data, _ := leaf.Open(mustBuild(t, l, 7, float64(r.Intn(3))/2), Kind)
		b := frame(damaged(r, data))
		if r.Intn(8) == 0 {
			b[r.Intn(len(b))] ^= 1 << r.Intn(8)
		}
		seen[mustAgree(t, b)]++
	}
	for e, n := range seen {
		if (n > 9) != slices.Contains([]api.Errno{api.OK, api.ErrShort, api.ErrLong, api.ErrForm, api.ErrSum}, api.Errno(e)) {
			t.Errorf("%v occurred %d times", api.Errno(e), n)
		}
	}
}

// spoil changes all bytes of b, spare capacity included.
func spoil(b []byte) {
	b = b[:cap(b)]
	for i := range b {
		b[i] ^= 0xff
	}
}

func TestP10_2OpenLeavesItsArgument(t *testing.T) {
	for i, l := range samples() {
		for _, x := range []float64{0, 1} {
			form := mustBuild(t, l, i, x)
			if i%7 == 0 {
				form[len(form)-1] ^= 1
			}
			whole := slices.Concat([]byte("before"), form, []byte("behind"))
			kept := slices.Clone(whole)
			given := whole[6 : 6+len(form)]
			got, _, _ := Open(given)
			one, _ := Sector(given, len(l)-1)
			if !bytes.Equal(whole, kept) {
				t.Fatalf("sample %d: they have changed their argument", i)
			}
			spoil(one)
			for _, s := range got {
				spoil(s)
			}
			if !bytes.Equal(whole, kept) {
				t.Fatalf("sample %d: they have handed out their argument", i)
			}
		}
	}
}

func TestP10_2OpenSharesNothing(t *testing.T) {
	for _, want := range samples() {
		for _, x := range []float64{0, 1} {
			b := mustBuild(t, want, 1, x)
			one, _, _ := Open(b)
			two, _, _ := Open(b)
			s, _ := Sector(b, len(want)-1)
			for _, s := range two {
				spoil(s)
			}
			clear(two[:cap(two)])
			spoil(s)
			clear(b)
			for k, s := range one {
				if !bytes.Equal(s, want[k]) {
					t.Fatalf("sector %d of %d shares memory", k, len(one))
				}
				spoil(s)
			}
		}
	}
}

func TestP10_2OpenIsTheSameEachTime(t *testing.T) {
	b := mustBuild(t, text(8), 1, 1)
	for range 3 {
		mustOpen(t, b, 1, text(8))
		mustNotOpen(t, b[:64], api.ErrShort)
	}
}
