package nulls

import (
	"bytes"
	"math/rand"
	"slices"
	"testing"

	"hypostyle/api"
)

var null = api.Cell{Null: true}

func num(n int) api.Cell { return api.Cell{Int: n} }

func someCells(r *rand.Rand, n int) []api.Cell {
	l := make([]api.Cell, n)
	for k := range l {
		if l[k] = num(r.Intn(9)); r.Intn(3) == 0 {
			l[k] = null
		}
	}
	return l
}

func TestP8_1Split(t *testing.T) {
	bits, rest := Split([]api.Cell{null, num(5)})
	if !bytes.Equal(bits, []byte{2}) || !slices.Equal(rest, []api.Cell{num(5)}) {
		t.Error(bits, rest)
	}
	bits, rest = Split([]api.Cell{num(1), {Text: "a"}, null, null, null, null, null, null, num(2), {Null: true, Int: 5}})
	if !bytes.Equal(bits, []byte{3, 1}) || !slices.Equal(rest, []api.Cell{num(1), {Text: "a"}, num(2)}) {
		t.Error(bits, rest)
	}
	if bits, rest = Split(nil); len(bits) != 0 || len(rest) != 0 {
		t.Error(bits, rest)
	}
	if bits, rest = Split(make([]api.Cell, 65536)); len(bits) != 8192 || len(rest) != 65536 || bits[8191] != 255 {
		t.Error(len(bits), len(rest))
	}
	if bits, rest = Split(make([]api.Cell, 65537)); len(bits) != 0 || len(rest) != 0 {
		t.Error(len(bits), len(rest))
	}
}

func TestP8_2Count(t *testing.T) {
	for _, x := range []struct {
		bits    []byte
		n, want int
	}{{nil, 0, 0}, {[]byte{2}, 2, 1}, {[]byte{0}, 1, 0}, {[]byte{255}, 8, 8}, {[]byte{255, 1}, 9, 9}, {[]byte{4}, 2, -1}, {[]byte{0}, 0, -1}, {nil, 1, -1}, {[]byte{0, 0}, 8, -1}, {nil, -1, -1}, {nil, api.MinInt, -1}, {nil, api.MaxInt, -1}, {make([]byte, 8192), 65536, 0}, {make([]byte, 8193), 65537, -1}} {
		if got := Count(x.bits, x.n); got != x.want {
			t.Error(len(x.bits), x.n, got)
		}
	}
}

func TestP8_3Join(t *testing.T) {
	got, ok := Join([]byte{2}, []api.Cell{num(5)}, 2)
	if !ok || !slices.Equal(got, []api.Cell{null, num(5)}) {
		t.Error(got, ok)
	}
	for k, x := range []struct {
		bits []byte
		rest []api.Cell
		n    int
		ok   bool
	}{
		{nil, nil, 0, true}, {[]byte{0}, nil, 3, true}, {[]byte{7}, make([]api.Cell, 3), 3, true},
		{[]byte{7}, make([]api.Cell, 2), 3, false}, {[]byte{7}, make([]api.Cell, 4), 3, false}, {[]byte{8}, make([]api.Cell, 1), 3, false},
		{[]byte{1}, []api.Cell{null}, 1, false}, {[]byte{3}, []api.Cell{num(1), {Null: true, Int: 5}}, 2, false},
		{nil, nil, 1, false}, {[]byte{0}, nil, 0, false}, {nil, nil, -1, false}, {nil, []api.Cell{num(1)}, 0, false}, {nil, nil, api.MaxInt, false}, {nil, nil, api.MinInt, false},
	} {
		if got, ok := Join(x.bits, x.rest, x.n); ok != x.ok || ok && len(got) != x.n || !ok && len(got) != 0 {
			t.Error(k, got, ok)
		}
	}
}

func TestP8_4NothingIsShared(t *testing.T) {
	l := []api.Cell{num(1), null, num(2), num(3)}
	_, rest := Split(l[:3])
	rest[0] = num(9)
	_ = append(rest, num(8))
	if !slices.Equal(l, []api.Cell{num(1), null, num(2), num(3)}) {
		t.Error(l)
	}
	rest = []api.Cell{num(1), num(2), num(3)}
	bits := []byte{3, 9}
	got, _ := Join(bits[:1], rest[:2], 2)
	got[0] = num(9)
	_ = append(got, num(8))
	if !slices.Equal(rest, []api.Cell{num(1), num(2), num(3)}) || !bytes.Equal(bits, []byte{3, 9}) {
		t.Error(rest, bits)
	}
}

func TestP8_5SplitIsJoined(t *testing.T) {
	r := rand.New(rand.NewSource(1))
	for n := range 200 {
		l := someCells(r, n)
		bits, rest := Split(l)
		if Count(bits, n) != len(rest) {
			t.Fatal(n, len(rest))
		}
		got, ok := Join(bits, rest, n)
		if !ok || !slices.Equal(got, l) {
			t.Fatal(l, got, ok)
		}
	}
}

// What is joined of any bits and cells is split into these.
func TestP8_5OneForm(t *testing.T) {
	r := rand.New(rand.NewSource(2))
	for range 5000 {
		bits := make([]byte, r.Intn(3))
		r.Read(bits)
		rest := someCells(r, r.Intn(8))
		n := r.Intn(16)
		if l, ok := Join(bits, rest, n); ok {
			b, c := Split(l)
			if !bytes.Equal(b, bits) || !slices.Equal(c, rest) || len(l) != n {
				t.Fatal(bits, rest, n, l)
			}
		}
	}
}
