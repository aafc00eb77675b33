package query

import (
	"bytes"
	"encoding/binary"
	"math/rand"
	"reflect"
	"slices"
	"testing"

	"hypostyle/api"
)

func ask(from, to int, cols ...int) api.Query { return api.Query{Cols: cols, From: from, To: to} }

func laid(q api.Query) []byte {
	b := binary.AppendUvarint(nil, uint64(len(q.Cols)))
	for _, n := range append(slices.Clone(q.Cols), q.From, q.To) {
		b = binary.AppendUvarint(b, uint64(n))
	}
	return b
}

// first tells the numbers from 0 on, ahead of n.
func first(n int) []int {
	var out []int
	for k := range n {
		out = append(out, k)
	}
	return out
}

func same(a, b api.Query) bool {
	return slices.Equal(a.Cols, b.Cols) && a.From == b.From && a.To == b.To
}

func TestP24_1Encode(t *testing.T) {
	if b, ok := Encode(ask(2, 5, 1, 0)); !ok || !bytes.Equal(b, []byte{2, 1, 0, 2, 5}) {
		t.Error(b, ok)
	}
	for _, q := range []api.Query{ask(0, 0), ask(65536, 65536, 63), ask(0, 65536, first(64)...), ask(300, 301, 5, 63, 0), {Cols: []int{}}} {
		b, ok := Encode(q)
		if !ok || !bytes.Equal(b, laid(q)) {
			t.Error(q, b, ok)
		}
		if got, ok := Decode(b); !ok || !same(got, q) {
			t.Error(q, got, ok)
		}
	}
}

func TestP24_1Wrong(t *testing.T) {
	for _, q := range []api.Query{
		ask(1, 0), ask(-1, 0), ask(0, 65537), ask(65537, 65537), ask(api.MinInt, api.MaxInt), ask(api.MaxInt, api.MinInt), ask(0, 1, -1), ask(0, 1, 64), ask(0, 1, 1, 1), ask(0, 1, 3, 4, 3), ask(0, 1, api.MaxInt), ask(0, 1, api.MinInt), ask(0, 1, append(first(64), 0)...), ask(0, 1, first(65)...), ask(0, 1, make([]int, 5000)...),
	} {
		if b, ok := Encode(q); ok || len(b) != 0 {
			t.Error(q, b)
		}
		if got, ok := Decode(laid(q)); ok || !reflect.DeepEqual(got, api.Query{}) {
			t.Error(q, got)
		}
		if Fits(q, api.Footer{Cols: make([]api.Col, 70), Rows: api.MaxInt}) {
			t.Error(q, "fits")
		}
	}
	for _, b := range [][]byte{nil, {0}, {0, 0}, {0, 0, 0, 0}, {1, 0, 0}, {1, 0, 0, 0, 0}, {0x80, 0, 0, 0}, {0, 0, 0x80, 0}, {1, 0x81, 0, 0, 0}, {2, 1, 0, 2}, {0, 255, 255, 255, 255, 255, 255, 255, 255, 255, 1, 0}, {255, 255, 255, 255, 255, 255, 255, 255, 255, 1, 0, 0}} {
		if got, ok := Decode(b); ok || !reflect.DeepEqual(got, api.Query{}) {
			t.Error(b, got)
		}
	}
}

func TestP24_2Fits(t *testing.T) {
	f := api.Footer{Cols: make([]api.Col, 3), Rows: 10}
	for _, x := range []struct {
		q    api.Query
		want bool
	}{
		{ask(0, 10, 0, 1, 2), true}, {ask(0, 10, 2), true}, {ask(10, 10), true}, {ask(0, 0), true}, {ask(0, 11), false}, {ask(0, 10, 3), false}, {ask(0, 10, 0, 63), false}, {ask(11, 11), false}, {ask(5, 4), false}, {ask(0, 10, 1, 1), false},
	} {
		if Fits(x.q, f) != x.want {
			t.Error(x.q)
		}
	}
	if !Fits(ask(0, 0), api.Footer{}) || Fits(ask(0, 0, 0), api.Footer{}) || Fits(ask(0, 1), api.Footer{}) || Fits(ask(0, 0), api.Footer{Rows: -1}) {
		t.Error("of nothing")
	}
}

func TestP24_3NothingIsShared(t *testing.T) {
	q := ask(2, 5, 1, 0, 7)
	q.Cols = q.Cols[:2]
	b, _ := Encode(q)
	room := append(bytes.Clone(b), 9)
	got, _ := Decode(room[:len(b)])
	got.Cols[0] = 9
	_ = append(got.Cols, 9)
	Fits(q, api.Footer{Cols: make([]api.Col, 3), Rows: 9})
	if !slices.Equal(q.Cols[:3], []int{1, 0, 7}) || !bytes.Equal(room, append(b, 9)) {
		t.Error(q, room)
	}
}

func TestP24_4OneForm(t *testing.T) {
	r := rand.New(rand.NewSource(1))
	taken := 0
	for range 300 {
		from := r.Intn(1 << r.Intn(17))
		q := ask(from, from+r.Intn(65537-from), r.Perm(64)[:r.Intn(65)]...)
		b, ok := Encode(q)
		if got, is := Decode(b); !ok || !is || !same(got, q) {
			t.Fatal(q, got, ok, is)
		}
		for range 100 {
			wrong := bytes.Clone(b)
			wrong[r.Intn(len(b))] ^= 1 << r.Intn(8)
			if got, ok := Decode(wrong); ok {
				taken++
				if again, is := Encode(got); !is || !bytes.Equal(again, wrong) {
					t.Fatal(wrong, got)
				}
			}
		}
	}
	if taken < 100 {
		t.Error("the test takes few", taken)
	}
}
