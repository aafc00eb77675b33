package runs

import (
	"bytes"
	"encoding/binary"
	"math/bits"
	"math/rand"
	"slices"
	"testing"

	"hypostyle/api"
)

// someNumbers makes numbers that often stand one behind their like.
func someNumbers(r *rand.Rand, n int) []uint64 {
	var l []uint64
	for len(l) < n {
		x := uint64(r.Intn(3))
		if r.Intn(4) == 0 {
			x = r.Uint64() >> r.Intn(64)
		}
		l = append(l, slices.Repeat([]uint64{x}, min(1+r.Intn(6), n-len(l)))...)
	}
	return l
}

// inRun tells, of each number, whether its stretch is a run, by looking to both sides.
func inRun(l []uint64, at int) bool {
	n := 1
	for k := at - 1; k >= 0 && l[k] == l[at]; k-- {
		n++
	}
	for k := at + 1; k < len(l) && l[k] == l[at]; k++ {
		n++
	}
	return n >= 4
}

// cut is the chapter's Cut, number by number.
func cut(l []uint64) []int {
	var out []int
	for k := range l {
		if k > 0 && inRun(l, k) == inRun(l, k-1) && (!inRun(l, k) || l[k] == l[k-1]) {
			out[len(out)-1]++
		} else {
			out = append(out, 1)
		}
	}
	return out
}

// laid is the chapter's Encode.
func laid(l []uint64) []byte {
	var b []byte
	at := 0
	for _, n := range cut(l) {
		piece := l[at : at+n]
		if inRun(l, at) {
			b = binary.AppendUvarint(binary.AppendUvarint(b, uint64(2*n)), piece[0])
		} else {
			w := bits.Len64(slices.Max(piece))
			b = append(binary.AppendUvarint(b, uint64(2*n+1)), byte(w))
			packed := make([]byte, (n*w+7)/8)
			for k, x := range piece {
				for i := range w {
					packed[(k*w+i)/8] |= byte(x>>i&1) << ((k*w + i) % 8)
				}
			}
			b = append(b, packed...)
		}
		at += n
	}
	return b
}

func TestP10_1Cut(t *testing.T) {
	for _, x := range []struct {
		l    []uint64
		want []int
	}{
		{nil, nil}, {[]uint64{5}, []int{1}}, {[]uint64{7, 7, 7}, []int{3}}, {[]uint64{7, 7, 7, 7}, []int{4}}, {[]uint64{7, 7, 7, 7, 1}, []int{4, 1}},
		{[]uint64{1, 7, 7, 7, 7}, []int{1, 4}}, {[]uint64{7, 7, 7, 7, 8, 8, 8, 8, 8}, []int{4, 5}}, {[]uint64{1, 1, 1, 2, 2, 2, 3}, []int{7}},
		{[]uint64{1, 1, 1, 0, 0, 0, 0, 1, 1, 1}, []int{3, 4, 3}},
	} {
		if got := Cut(x.l); !slices.Equal(got, x.want) {
			t.Error(x.l, got)
		}
	}
	if got := Cut(make([]uint64, 70000)); !slices.Equal(got, []int{70000}) {
		t.Error("of more than MaxRows", got)
	}
	r := rand.New(rand.NewSource(1))
	for n := range 200 {
		l := someNumbers(r, n)
		if got := Cut(l); !slices.Equal(got, cut(l)) {
			t.Fatal(l, got)
		}
	}
}

func TestP10_2Encode(t *testing.T) {
	for _, x := range []struct {
		l    []uint64
		want []byte
	}{
		{nil, nil}, {[]uint64{7, 7, 7, 7, 1}, []byte{8, 7, 3, 1, 1}}, {[]uint64{0}, []byte{3, 0}}, {[]uint64{0, 0, 0}, []byte{7, 0}}, {[]uint64{0, 0, 0, 0}, []byte{8, 0}},
		{[]uint64{1 << 63}, []byte{3, 64, 0, 0, 0, 0, 0, 0, 0, 128}}, {[]uint64{300, 300, 300, 300}, []byte{8, 0xac, 2}},
	} {
		if b, ok := Encode(x.l); !ok || !bytes.Equal(b, x.want) {
			t.Error(x.l, b, ok)
		}
	}
	r := rand.New(rand.NewSource(2))
	for n := range 300 {
		l := someNumbers(r, n)
		if b, ok := Encode(l); !ok || !bytes.Equal(b, laid(l)) {
			t.Fatal(l, b, ok)
		}
	}
	if b, ok := Encode(make([]uint64, 65536)); !ok || !bytes.Equal(b, []byte{0x80, 0x80, 8, 0}) {
		t.Error("at the limit", b, ok)
	}
	if b, ok := Encode(make([]uint64, 65537)); ok || len(b) != 0 {
		t.Error("beyond the limit", b, ok)
	}
}

func TestP10_3DecodeWrong(t *testing.T) {
	for _, x := range []struct {
		name string
		b    []byte
		n    int
	}{
		{"too few", []byte{8, 7, 3, 1, 1}, 4}, {"too many", []byte{8, 7, 3, 1, 1}, 6}, {"none", nil, 1}, {"below none", nil, -1}, {"far below", nil, api.MinInt}, {"far too many", nil, api.MaxInt},
		{"beyond the limit", []byte{0x82, 0x80, 8, 0}, 65537}, {"more than there is room for", []byte{0x80, 0x80, 0x80, 0x80, 0x80, 0x80, 0x80, 0x40, 0}, 1 << 54},
		{"a short run", []byte{6, 7}, 3}, {"an empty run", []byte{0, 7}, 0}, {"an empty rest", []byte{1, 0}, 0}, {"an empty rest, wide", []byte{1, 1}, 0},
		{"a run as a rest", []byte{9, 0}, 4}, {"a run within a rest", []byte{11, 1, 1}, 5}, {"two runs of one number", []byte{8, 7, 8, 7}, 8}, {"a rest ahead of its like", []byte{3, 3, 7, 8, 7}, 5}, {"a rest behind its like", []byte{8, 7, 3, 3, 7}, 5},
		{"two rests", []byte{3, 1, 1, 3, 0}, 2}, {"too wide", []byte{3, 2, 1}, 1}, {"far too wide", []byte{3, 65, 0, 0, 0, 0, 0, 0, 0, 0, 0}, 1}, {"wide beyond all", []byte{3, 255}, 1},
		{"other bits", []byte{3, 1, 3}, 1}, {"an end within a rest", []byte{3, 8}, 1}, {"an end ahead of a width", []byte{3}, 1}, {"an end ahead of a number", []byte{8}, 4},
		{"a long form", []byte{0x88, 0, 7}, 4}, {"a long number", []byte{8, 0x87, 0}, 4}, {"more bytes", []byte{8, 7, 0}, 4}, {"great", []byte{255, 255, 255, 255, 255, 255, 255, 255, 255, 1, 0}, 65536},
	} {
		if l, ok := Decode(x.b, x.n); ok || len(l) != 0 {
			t.Error(x.name, l, ok)
		}
	}
	if l, ok := Decode(nil, 0); !ok || len(l) != 0 {
		t.Error("no numbers", l, ok)
	}
	if l, ok := Decode([]byte{0x80, 0x80, 8, 0}, 65536); !ok || !slices.Equal(l, make([]uint64, 65536)) {
		t.Error("at the limit", ok)
	}
}

func TestP10_4NothingIsShared(t *testing.T) {
	l := []uint64{7, 7, 7, 7, 1, 2}
	b, _ := Encode(l[:5])
	room := append(bytes.Clone(b), 9)
	got, _ := Decode(room[:len(b)], 5)
	got[0] = 9
	_ = append(got, 9)
	Cut(l[:5])
	if !slices.Equal(l, []uint64{7, 7, 7, 7, 1, 2}) || !bytes.Equal(room, append(b, 9)) {
		t.Error(l, room)
	}
}

func TestP10_5OneForm(t *testing.T) {
	r := rand.New(rand.NewSource(3))
	taken := 0
	for n := range 200 {
		l := someNumbers(r, n)
		b, _ := Encode(l)
		if got, ok := Decode(b, n); !ok || !slices.Equal(got, l) {
			t.Fatal(l, got, ok)
		}
		for range 100 {
			c := bytes.Clone(b)
			for range 1 + r.Intn(2) {
				if len(c) > 0 {
					c[r.Intn(len(c))] ^= 1 << r.Intn(8)
				}
			}
			m := max(0, n+r.Intn(3)-1)
			if got, ok := Decode(c, m); ok {
				taken++
				if again, is := Encode(got); !is || !bytes.Equal(again, c) || len(got) != m {
					t.Fatal(c, got)
				}
			}
		}
	}
	if taken < 100 {
		t.Error("the test takes few", taken)
	}
}
