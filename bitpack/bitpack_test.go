package bitpack

import (
	"bytes"
	"math/big"
	"math/rand"
	"slices"
	"testing"
)

const (
	maxInt = 1<<63 - 1
	minInt = -1 << 63
)

// packed is the packing by one great number, whose bits are those of all numbers.
func packed(l []uint64, w int) []byte {
	all := new(big.Int)
	for k, n := range l {
		x := new(big.Int).SetUint64(n)
		all.Or(all, x.Lsh(x, uint(k*w)))
	}
	b := make([]byte, (len(l)*w+7)/8)
	all.FillBytes(b)
	slices.Reverse(b)
	return b
}

func someNumbers(r *rand.Rand, n, w int) []uint64 {
	l := make([]uint64, n)
	for k := range l {
		if w > 0 {
			l[k] = r.Uint64() >> (64 - w)
		}
	}
	return l
}

func TestP5_1Width(t *testing.T) {
	for _, x := range []struct {
		l    []uint64
		want int
	}{{nil, 0}, {[]uint64{0, 0}, 0}, {[]uint64{1}, 1}, {[]uint64{0, 3, 1}, 2}, {[]uint64{4, 2}, 3}, {[]uint64{1 << 63}, 64}, {[]uint64{1<<63 - 1, 0}, 63}, {[]uint64{1<<64 - 1}, 64}} {
		if Width(x.l) != x.want {
			t.Error(x.l, Width(x.l))
		}
	}
	if Width(make([]uint64, 70000)) != 0 {
		t.Error("of more than MaxRows")
	}
}

func TestP5_2Bytes(t *testing.T) {
	for _, x := range [][3]int{{0, 0, 0}, {0, 65536, 0}, {1, 0, 0}, {1, 1, 1}, {1, 8, 1}, {1, 9, 2}, {3, 3, 2}, {64, 65536, 524288}, {63, 65536, 516096}, {64, 1, 8}, {-1, 0, -1}, {65, 0, -1}, {0, -1, -1}, {0, 65537, -1}, {64, 65537, -1}, {maxInt, maxInt, -1}, {minInt, minInt, -1}, {8, maxInt, -1}, {8, minInt, -1}, {minInt, 8, -1}} {
		if got := Bytes(x[0], x[1]); got != x[2] {
			t.Error(x, got)
		}
	}
}

func TestP5_3PackExample(t *testing.T) {
	if b, ok := Pack([]uint64{1, 2, 3}, 2); !ok || !bytes.Equal(b, []byte{0x39}) {
		t.Error(b, ok)
	}
}

func TestP5_3PackAllWidths(t *testing.T) {
	r := rand.New(rand.NewSource(1))
	for w := range 65 {
		for _, n := range []int{0, 1, 2, 3, 7, 8, 9, 31, 100} {
			l := someNumbers(r, n, w)
			b, ok := Pack(l, w)
			if !ok || !bytes.Equal(b, packed(l, w)) {
				t.Fatal(w, l, b, ok)
			}
			got, ok := Unpack(b, w, n)
			if !ok || !slices.Equal(got, l) {
				t.Fatal(w, l, got, ok)
			}
		}
	}
}

func TestP5_3PackWrong(t *testing.T) {
	for _, x := range []struct {
		l []uint64
		w int
	}{{[]uint64{1}, 0}, {[]uint64{0, 2}, 1}, {[]uint64{8}, 3}, {[]uint64{1 << 63}, 63}, {nil, -1}, {nil, 65}, {[]uint64{1}, 65}, {[]uint64{1}, maxInt}, {[]uint64{0}, minInt}, {make([]uint64, 65537), 0}, {make([]uint64, 65537), 1}} {
		if b, ok := Pack(x.l, x.w); ok || len(b) != 0 {
			t.Error(len(x.l), x.w, b, ok)
		}
	}
	if b, ok := Pack(make([]uint64, 65536), 64); !ok || len(b) != 524288 {
		t.Error("at the limit", len(b), ok)
	}
}

func TestP5_3UnpackWrong(t *testing.T) {
	for _, x := range []struct {
		b    []byte
		w, n int
	}{{nil, 1, 1}, {[]byte{0}, 0, 0}, {[]byte{0}, 0, 5}, {[]byte{0, 0}, 1, 8}, {[]byte{2}, 1, 1}, {[]byte{0x80}, 1, 7}, {[]byte{0x40}, 2, 3}, {[]byte{0}, 1, 9}, {nil, -1, 0}, {nil, 65, 0}, {nil, 1, -1}, {nil, 0, -1}, {nil, 0, 65537}, {nil, maxInt, maxInt}, {nil, minInt, minInt}} {
		if l, ok := Unpack(x.b, x.w, x.n); ok || len(l) != 0 {
			t.Error(x, l, ok)
		}
	}
	if l, ok := Unpack(nil, 0, 65536); !ok || len(l) != 65536 || slices.Max(l) != 0 {
		t.Error("no bits each", len(l), ok)
	}
	if l, ok := Unpack(nil, 64, 0); !ok || len(l) != 0 {
		t.Error("no numbers", l, ok)
	}
}

func TestP5_4NothingIsShared(t *testing.T) {
	l, b := []uint64{1, 2, 3, 7, 7}, []byte{0x39, 9}
	Pack(l[:3], 2)
	x, _ := Unpack(b[:1], 2, 3)
	x[0] = 9
	_ = append(x, 5)
	if !slices.Equal(l, []uint64{1, 2, 3, 7, 7}) || !bytes.Equal(b, []byte{0x39, 9}) {
		t.Error(l, b)
	}
}

// What is unpacked of any bytes is packed as these.
func TestP5_5OneForm(t *testing.T) {
	r := rand.New(rand.NewSource(2))
	taken := 0
	for range 20000 {
		w, n := r.Intn(10), r.Intn(10)
		b := make([]byte, max(0, (w*n+7)/8+r.Intn(3)-1))
		r.Read(b)
		if l, ok := Unpack(b, w, n); ok {
			taken++
			if again, is := Pack(l, w); !is || !bytes.Equal(again, b) || len(l) != n {
				t.Fatal(b, w, n, l)
			}
		}
	}
	if taken < 1000 {
		t.Error("the test takes few", taken)
	}
}
