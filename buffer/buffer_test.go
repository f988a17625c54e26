package buffer

import (
	"bytes"
	"math/rand"
	"slices"
	"testing"

	"concertina/api"
)

func TestP19_1Example(t *testing.T) {
	b := New(64)
	if !b.Put(5, sector(1)) || !b.Trim(5, 1) {
		t.Error("Put and Trim do not return true")
	}
	if data, ok := b.Get(5); data != nil || !ok {
		t.Errorf("Get(5) = %v, %v, want nil, true", data, ok)
	}
}

func TestP19_1NewIsEmpty(t *testing.T) {
	for _, most := range slices.Concat(extremes[:], edges[:]) {
		b, p := New(most), plainNew(most)
		mustBe(t, b, p)
		for _, x := range slices.Concat(extremes[:], edges[:]) {
			mustGet(t, b, p, x)
		}
		if l := b.List(); len(l) != 0 {
			t.Errorf("New(%d): List = %v", most, l)
		}
	}
}

func TestP19_1NewCapacity(t *testing.T) {
	for most, want := range map[int]int{
		0: 0, 1: 1, 2: 2, 3: 3, 63: 63, 64: 64, 65: 65, 510: 510, 511: 511, 512: 512,
		-1: 0, -2: 0, -512: 0, extremes[0]: 0, extremes[1]: 0, -1 << 32: 0,
		513: 512, 514: 512, 1024: 512, extremes[2]: 512, extremes[3]: 512, 1 << 32: 512,
	} {
		written, trimmed, asked := New(most), New(most), []int{}
		for i := range want {
			if !written.Put(i, sector(1)) || !trimmed.Trim(i, 1) {
				t.Errorf("New(%d): there is no room for sector %d", most, i)
			}
			asked = append(asked, i)
		}
		if b := New(most); !b.Trim(0, want) || !b.Fits(asked) {
			t.Errorf("New(%d): there is no room for %d sectors at once", most, want)
		}
		if written.Put(600, sector(1)) || trimmed.Put(600, sector(1)) || trimmed.Trim(want, 1) {
			t.Errorf("New(%d): there is room for more than %d sectors", most, want)
		}
		if b := New(most); b.Trim(0, want+1) || b.Fits(append(asked, 600)) || b.Len() != 0 {
			t.Errorf("New(%d): there is room for more than %d sectors at once", most, want)
		}
		if written.Len() != want || trimmed.Len() != want {
			t.Errorf("New(%d): Len = %d, %d, want %d", most, written.Len(), trimmed.Len(), want)
		}
	}
}

func TestP19_1PutKeepsTheBytes(t *testing.T) {
	b, p := New(512), plainNew(512)
	for i := range 256 {
		mustPut(t, b, p, i, bytes.Repeat([]byte{byte(i)}, api.Sector))
	}
	mustPut(t, b, p, 300, sector(7))
	// Zero bytes are a write, not a trim.
	if data, ok := b.Get(0); !ok || len(data) != api.Sector {
		t.Errorf("Get of zero bytes = %v, %v", data, ok)
	}
}

func TestP19_1PutAnySector(t *testing.T) {
	b, p := New(64), plainNew(64)
	for _, x := range slices.Concat(extremes[:], edges[:], []int{100, 4096, 8191, 8192}) {
		if ok := mustPut(t, b, p, x, sector(byte(x))); ok != (x >= 0) {
			t.Errorf("Put(%d) = %v", x, ok)
		}
		mustGet(t, b, p, x)
	}
}

func TestP19_1PutLengths(t *testing.T) {
	for _, show := range []string{"", "a", "-", "ab"} {
		b, p := made(t, 2, show)
		long := bytes.Repeat(sector(3), 3)
		for n := range len(long) + 1 {
			if n != api.Sector && mustPut(t, b, p, 0, long[:n]) {
				t.Errorf("%s: Put with %d bytes = true", show, n)
			}
		}
		if mustPut(t, b, p, 0, nil) {
			t.Errorf("%s: Put with nil = true", show)
		}
		if !mustPut(t, b, p, 0, long[:api.Sector]) {
			t.Errorf("%s: Put = false", show)
		}
	}
}

func TestP19_1PutReplaces(t *testing.T) {
	for _, most := range []int{3, 4} {
		for _, show := range []string{"a-b", "---", "aaa"} {
			b, p := made(t, most, show)
			for i := range show {
				if !mustPut(t, b, p, i, sector(byte(i))) {
					t.Errorf("%s: Put(%d) = false", show, i)
				}
			}
			if b.Len() != 3 {
				t.Errorf("%s: Len = %d", show, b.Len())
			}
		}
	}
}

func TestP19_1PutIntoAFullBuffer(t *testing.T) {
	for _, show := range []string{"a", "-", "a-b", "---", ".a.b.-", "..aaaa"} {
		n := len(show) - bytes.Count([]byte(show), []byte{'.'})
		b, p := made(t, n, show)
		for _, x := range slices.Concat(extremes[:], edges[:], []int{len(show)}) {
			if ok := mustPut(t, b, p, x, sector(8)); ok && (x >= len(show) || show[x] == '.') {
				t.Errorf("%s: Put(%d) = true", show, x)
			}
		}
	}
}

func TestP19_1TrimEachSector(t *testing.T) {
	b, p := made(t, 64, "")
	if !mustTrim(t, b, p, 10, 4) {
		t.Error("Trim(10, 4) = false")
	}
	want := []Item{{10, nil}, {11, nil}, {12, nil}, {13, nil}}
	if l := b.List(); !slices.EqualFunc(l, want, equal) {
		t.Errorf("List = %v, want %v", l, want)
	}
	if !mustTrim(t, b, p, 12, 3) || b.Len() != 5 {
		t.Errorf("then there are %d", b.Len())
	}
}

func TestP19_1TrimReplaces(t *testing.T) {
	for _, x := range []struct {
		show    string
		from, n int
		want    string
	}{
		{"abcdef", 0, 6, "------"},
		{"abcdef", 2, 2, "ab--ef"},
		{"ab..ef", 1, 4, "a----f"},
		{"-b-d-f", 1, 1, "---d-f"},
		{"......", 2, 3, "..---."},
		{"a-....", 1, 1, "a-...."},
		{"a-....", 3, 0, "a-...."},
	} {
		b, p := made(t, 6, x.show)
		if !mustTrim(t, b, p, x.from, x.n) {
			t.Errorf("%s: Trim(%d, %d) = false", x.show, x.from, x.n)
		}
		_, p = made(t, 6, x.want)
		mustBe(t, b, p)
	}
}

func TestP19_1TrimCapacity(t *testing.T) {
	for _, x := range []struct {
		most    int
		show    string
		from, n int
		want    bool
	}{
		{4, "ab", 2, 2, true},
		{4, "ab", 2, 3, false},
		{4, "ab", 0, 4, true},
		{4, "ab", 1, 3, true},
		{4, "ab", 1, 4, false},
		{4, "a-b-", 0, 4, true},
		{4, "a-b-", 0, 5, false},
		{4, "a-b-", 4, 1, false},
		{4, "a-b-", 4, 0, true},
		{4, "a.b.c", 0, 3, true},
		{4, "a.b.c", 0, 4, false},
		{4, "a.b.c", 1, 3, false},
		{4, "a.b.c", 4, 2, true},
		{4, "", 0, 512, false},
		{511, "", 0, 512, false},
		{511, "", 1, 511, true},
		{512, "", 0, 512, true},
		{0, "", 0, 1, false},
		{0, "", 0, 0, true},
		{0, "", 512, 0, true},
	} {
		b, p := made(t, x.most, x.show)
		if ok := mustTrim(t, b, p, x.from, x.n); ok != x.want {
			t.Errorf("%s of %d: Trim(%d, %d) = %v", x.show, x.most, x.from, x.n, ok)
		}
	}
}

func TestP19_1TrimLimits(t *testing.T) {
	all := slices.Concat(extremes[:], edges[:])
	for _, from := range all {
		for _, n := range append(all, -from, 511-from, 512-from, 513-from) {
			b, p := made(t, 512, "a-b")
			ok := mustTrim(t, b, p, from, n)
			if want := from >= 0 && n >= 0 && from <= 512 && n <= 512-from; ok != want {
				t.Errorf("Trim(%d, %d) = %v", from, n, ok)
			}
		}
	}
}

func TestP19_1TrimBesideGreatSectors(t *testing.T) {
	// Put accepts what Trim does not, and its sectors count as all others.
	b, p := New(3), plainNew(3)
	mustPut(t, b, p, 512, sector(1))
	mustPut(t, b, p, 1<<62, sector(2))
	if mustTrim(t, b, p, 512, 1) || mustTrim(t, b, p, 1<<62, 1) || mustTrim(t, b, p, 510, 2) {
		t.Error("Trim = true")
	}
	if !mustTrim(t, b, p, 511, 1) {
		t.Error("Trim(511, 1) = false")
	}
}

func TestP19_1GetNothing(t *testing.T) {
	b, p := made(t, 8, "a.-.b")
	for _, x := range slices.Concat(extremes[:], edges[:], []int{4, 5}) {
		mustGet(t, b, p, x)
	}
	mustBe(t, b, p)
}

func TestP19_1Fits(t *testing.T) {
	for _, x := range []struct {
		most    int
		show    string
		sectors []int
		want    bool
	}{
		{3, "", nil, true},
		{3, "", []int{}, true},
		{3, "", []int{5, 7, 9}, true},
		{3, "", []int{5, 7, 9, 11}, false},
		{3, "", []int{5, 7, 9, 7, 5, 5, 9}, true},
		{3, "", []int{5, 7, 9, 7, 5, 5, 8}, false},
		{3, "a-", []int{0, 1, 0, 1}, true},
		{3, "a-", []int{0, 1, 2}, true},
		{3, "a-", []int{2}, true},
		{3, "a-", []int{2, 3}, false},
		{3, "a-", []int{2, 0, 2, 1, 2}, true},
		{3, "a-", []int{0, 1, 2, 3}, false},
		{3, "a-b", nil, true},
		{3, "a-b", []int{0, 1, 2, 2, 1, 0}, true},
		{3, "a-b", []int{3}, false},
		{3, "a-b", []int{-1}, false},
		{3, "a-b", []int{0, 1, 2, 512}, false},
		{3, "a-", []int{-1}, true},
		{3, "a-", []int{-1, -2}, false},
		{3, "a-", []int{-1, -1, -1}, true},
		{3, "a-", []int{512, 512}, true},
		{3, "a-", []int{512, -1}, false},
		{0, "", nil, true},
		{0, "", []int{0}, false},
	} {
		b, p := made(t, x.most, x.show)
		if ok := mustFit(t, b, p, x.sectors...); ok != x.want {
			t.Errorf("%s of %d: Fits(%v) = %v", x.show, x.most, x.sectors, ok)
		}
	}
}

func TestP19_1FitsOfAnyNumbers(t *testing.T) {
	all := slices.Concat(extremes[:], edges[:])
	for n := range len(all) + 1 {
		b, p := made(t, n, "")
		if !mustFit(t, b, p, all[:n]...) || !mustFit(t, b, p, slices.Concat(all[:n], all[:n])...) {
			t.Errorf("%d numbers do not fit into %d", n, n)
		}
		if n < len(all) && mustFit(t, b, p, all[:n+1]...) {
			t.Errorf("%d numbers fit into %d", n+1, n)
		}
	}
	b, p := made(t, 3, "ab")
	if mustFit(t, b, p, 0, 1, 1<<32, 1<<33) || !mustFit(t, b, p, 1<<32, 1<<32) {
		t.Error("greater numbers count otherwise")
	}
}

func TestP19_1FitsOfLongLists(t *testing.T) {
	long := make([]int, 1<<20)
	for i := range long {
		long[i] = i % 512
	}
	b, p := made(t, 512, "a-b")
	if !mustFit(t, b, p, long...) {
		t.Error("512 sectors, often named, do not fit")
	}
	if b := New(511); b.Fits(long) {
		t.Error("512 sectors fit into 511")
	}
}

func TestP19_1ListAscends(t *testing.T) {
	rnd := rand.New(rand.NewSource(1))
	b, p := New(512), plainNew(512)
	for _, x := range rnd.Perm(512) {
		if rnd.Intn(3) > 0 {
			mustPut(t, b, p, x, sector(byte(x)))
		} else {
			mustTrim(t, b, p, x, 1)
		}
	}
	l := b.List()
	if len(l) != 512 || b.Len() != 512 {
		t.Fatalf("there are %d items, Len = %d", len(l), b.Len())
	}
	for i, x := range l {
		if x.Sector != i {
			t.Errorf("item %d is of sector %d", i, x.Sector)
		}
	}
	b, p = New(3), plainNew(3)
	for _, x := range []int{1 << 62, 3, 1 << 32} {
		mustPut(t, b, p, x, sector(1))
	}
}

func TestP19_1Clear(t *testing.T) {
	for _, show := range []string{"", "a", "-", "a-b-", "aaaa"} {
		b, p := made(t, 4, show)
		mustClear(t, b, p)
		for i := range 4 {
			mustGet(t, b, p, i)
		}
		// All of the capacity is there again, and no more.
		if !mustFit(t, b, p, 4, 5, 6, 7) || mustFit(t, b, p, 4, 5, 6, 7, 8) {
			t.Errorf("%s: the capacity has changed", show)
		}
		if !mustTrim(t, b, p, 2, 4) || mustPut(t, b, p, 7, sector(1)) {
			t.Errorf("%s: the capacity has changed", show)
		}
		mustClear(t, b, p)
		mustClear(t, b, p)
	}
}
