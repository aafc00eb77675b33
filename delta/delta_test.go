package delta

import (
	"bytes"
	"encoding/binary"
	"math/big"
	"math/rand"
	"slices"
	"testing"

	"hypostyle/api"
)

// someNumbers makes numbers that rise, fall, stay, or leap.
func someNumbers(r *rand.Rand, n int) []int {
	l := make([]int, n)
	at, slope, wide := int(r.Uint64())>>r.Intn(64), r.Intn(2000)-1000, 1+r.Intn(1<<r.Intn(40))
	for k := range l {
		l[k] = at
		at += slope + r.Intn(wide)
		if r.Intn(50) == 0 {
			at = int(r.Uint64())
		}
	}
	return l
}

// laid is the chapter's Encode, by great numbers: those of a block are the bits of one.
func laid(l []int) []byte {
	if len(l) == 0 {
		return nil
	}
	b := binary.AppendVarint(nil, int64(l[0]))
	for at := 1; at < len(l); at += 32 {
		var steps []int
		for k := at; k < min(at+32, len(l)); k++ {
			steps = append(steps, l[k]-l[k-1])
		}
		least := slices.Min(steps)
		w := 0
		for _, s := range steps {
			w = max(w, new(big.Int).SetUint64(uint64(s-least)).BitLen())
		}
		all := new(big.Int)
		for k, s := range steps {
			x := new(big.Int).SetUint64(uint64(s - least))
			all.Or(all, x.Lsh(x, uint(k*w)))
		}
		packed := make([]byte, (len(steps)*w+7)/8)
		all.FillBytes(packed)
		slices.Reverse(packed)
		b = append(append(binary.AppendVarint(b, int64(least)), byte(w)), packed...)
	}
	return b
}

func TestP12_1Steps(t *testing.T) {
	for _, x := range [][2][]int{
		{nil, nil}, {{5}, nil}, {{5, 7, 9}, {2, 2}}, {{9, 7, 8}, {-2, 1}}, {{api.MinInt, api.MaxInt}, {-1}}, {{api.MaxInt, api.MinInt}, {1}}, {{-1, api.MaxInt}, {api.MinInt}}, {{0, api.MinInt}, {api.MinInt}},
	} {
		if got := Steps(x[0]); !slices.Equal(got, x[1]) {
			t.Error(x[0], got)
		}
	}
	if got := Steps(make([]int, 70000)); len(got) != 69999 {
		t.Error("of more than MaxRows", len(got))
	}
}

func TestP12_2Encode(t *testing.T) {
	for _, x := range []struct {
		l    []int
		want []byte
	}{
		{nil, nil}, {[]int{5, 7, 9}, []byte{10, 4, 0}}, {[]int{-1}, []byte{1}}, {[]int{0, 0}, []byte{0, 0, 0}}, {[]int{0, 1, 3, 2}, []byte{0, 1, 2, 2 | 3<<2 | 0<<4}},
	} {
		if b, ok := Encode(x.l); !ok || !bytes.Equal(b, x.want) {
			t.Error(x.l, b, ok)
		}
	}
	r := rand.New(rand.NewSource(1))
	for n := range 300 {
		l := someNumbers(r, n)
		if b, ok := Encode(l); !ok || !bytes.Equal(b, laid(l)) {
			t.Fatal(l, b, ok)
		}
	}
	ends := []int{api.MinInt, api.MaxInt, 0, -1, api.MaxInt, api.MinInt, 1, api.MinInt, 0}
	if b, ok := Encode(ends); !ok || !bytes.Equal(b, laid(ends)) {
		t.Error(b, ok)
	}
	if b, ok := Encode(make([]int, 65536)); !ok || len(b) != 1+2048*2 {
		t.Error("at the limit", len(b), ok)
	}
	if b, ok := Encode(make([]int, 65537)); ok || len(b) != 0 {
		t.Error("beyond the limit", len(b), ok)
	}
}

func TestP12_3DecodeWrong(t *testing.T) {
	for _, x := range []struct {
		name string
		b    []byte
		n    int
	}{
		{"too few", []byte{10, 4, 0}, 1}, {"none", nil, 1}, {"some of none", []byte{0}, 0}, {"below none", nil, -1}, {"far below", nil, api.MinInt}, {"far too many", []byte{0}, api.MaxInt}, {"beyond the limit", laid(make([]int, 65537)), 65537},
		{"too wide", []byte{10, 4, 1, 0}, 3}, {"not the least", []byte{10, 2, 1, 3}, 3}, {"a width beyond all", []byte{10, 4, 65, 0, 0, 0, 0, 0, 0, 0, 0, 0}, 2}, {"a wide width", []byte{10, 4, 255}, 2},
		{"other bits", []byte{0, 1, 2, 2 | 3<<2 | 1<<6}, 4}, {"an end", []byte{0, 1, 2}, 4}, {"an end ahead of a width", []byte{0, 1}, 2}, {"more", []byte{10, 4, 0, 0}, 3}, {"a long form", []byte{0x8a, 0, 4, 0}, 3},
		// The greater step wraps round, and is the least one then.
		{"a step beyond the greatest", append([]byte{0}, append(binary.AppendVarint(nil, api.MaxInt), 1, 2)...), 3},
	} {
		if l, ok := Decode(x.b, x.n); ok || len(l) != 0 {
			t.Error(x.name, l, ok)
		}
	}
	if l, ok := Decode(nil, 0); !ok || len(l) != 0 {
		t.Error("no numbers", l, ok)
	}
	// Of just so many numbers there are so many blocks.
	for _, n := range []int{1, 2, 32, 33, 34, 64, 65, 66, 65536} {
		b, _ := Encode(make([]int, n))
		for _, m := range []int{n - 1, n, n + 1} {
			l, ok := Decode(b, m)
			blocks := (n + 30) / 32
			if want := m <= 65536 && m > 0 && (m+30)/32 == blocks; ok != want || ok && !slices.Equal(l, make([]int, m)) {
				t.Error(n, "read as", m, ok)
			}
		}
	}
}

func TestP12_4NothingIsShared(t *testing.T) {
	l := []int{1, 2, 4, 8}
	Steps(l[:3])[0] = 9
	_ = append(Steps(l[:3]), 9)
	b, _ := Encode(l[:3])
	room := append(bytes.Clone(b), 9)
	got, _ := Decode(room[:len(b)], 3)
	got[0] = 9
	_ = append(got, 9)
	if !slices.Equal(l, []int{1, 2, 4, 8}) || !bytes.Equal(room, append(b, 9)) {
		t.Error(l, room)
	}
}

func TestP12_5OneForm(t *testing.T) {
	r := rand.New(rand.NewSource(2))
	taken := 0
	for n := range 150 {
		l := someNumbers(r, n)
		b, _ := Encode(l)
		if got, ok := Decode(b, n); !ok || !slices.Equal(got, l) {
			t.Fatal(l, got, ok)
		}
		for range 100 {
			c := bytes.Clone(b)
			for range 1 + r.Intn(2) {
				if len(c) > 0 {
					c[r.Intn(len(c))] ^= 1 << r.Intn(8)
				}
			}
			m := max(0, n+r.Intn(3)-1)
			if got, ok := Decode(c, m); ok {
				taken++
				if again, is := Encode(got); !is || !bytes.Equal(again, c) || len(got) != m {
					t.Fatal(c, got)
				}
			}
		}
	}
	if taken < 100 {
		t.Error("the test takes few", taken)
	}
}

// Each block of numbers that rise evenly has a least step, of few bytes, and a width of 0.
func TestP12_5EvenlyRising(t *testing.T) {
	l := make([]int, 1+32*100)
	for k := range l {
		l[k] = 1000 + 60*k
	}
	if b, ok := Encode(l); !ok || len(b) != 2+100*2 {
		t.Error(len(b), ok)
	}
}
