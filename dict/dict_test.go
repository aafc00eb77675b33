package dict

import (
	"bytes"
	"encoding/binary"
	"math/rand"
	"slices"
	"strings"
	"testing"

	"hypostyle/api"
	"hypostyle/plain"
	"hypostyle/runs"
)

var types = []int{api.TypeInt, api.TypeBool, api.TypeText, api.TypePoint}

func num(n int) api.Cell      { return api.Cell{Int: n} }
func text(s string) api.Cell  { return api.Cell{Text: s} }
func place(x, y int) api.Cell { return api.Cell{At: api.Point{X: x, Y: y}} }

// someCells makes right cells of a type, of which many are alike.
func someCells(r *rand.Rand, typ, n int) []api.Cell {
	l := make([]api.Cell, n)
	for k := range l {
		x := r.Intn(1 + r.Intn(20))
		switch typ {
		case api.TypeInt:
			l[k] = num(x - 5)
		case api.TypeBool:
			l[k] = num(x & 1)
		case api.TypeText:
			l[k] = text(strings.Repeat("x", x))
		case api.TypePoint:
			l[k] = place(x, -x)
		}
	}
	return l
}

// entries is the chapter's Entries, by plain looks.
func entries(l []api.Cell) ([]api.Cell, []uint64) {
	var out []api.Cell
	var places []uint64
	for _, c := range l {
		at := slices.Index(out, c)
		if at < 0 {
			at = len(out)
			out = append(out, c)
		}
		places = append(places, uint64(at))
	}
	return out, places
}

// join lays entries and places, right ones or not.
func join(typ int, l []api.Cell, places []uint64) []byte {
	p, _ := plain.Encode(typ, l)
	q, _ := runs.Encode(places)
	b := binary.AppendUvarint(nil, uint64(len(l)))
	b = binary.AppendUvarint(b, uint64(len(p)))
	return append(append(b, p...), q...)
}

func TestP11_1Entries(t *testing.T) {
	l, places := Entries([]api.Cell{text("a"), text("b"), text("a")})
	if !slices.Equal(l, []api.Cell{text("a"), text("b")}) || !slices.Equal(places, []uint64{0, 1, 0}) {
		t.Error(l, places)
	}
	if l, places = Entries(nil); len(l)+len(places) != 0 {
		t.Error(l, places)
	}
	null := api.Cell{Null: true}
	if l, places = Entries([]api.Cell{null, {}, {Int: 1, Text: "x"}, null, {Null: true, Int: 1}, {Int: 1, Text: "x"}}); len(l) != 4 || !slices.Equal(places, []uint64{0, 1, 2, 0, 3, 2}) {
		t.Error("cells of any kind", l, places)
	}
	if l, places = Entries(make([]api.Cell, 70000)); len(l) != 1 || len(places) != 70000 {
		t.Error("of more than MaxRows", len(l), len(places))
	}
	r := rand.New(rand.NewSource(1))
	for n := range 100 {
		cells := someCells(r, n%4, n)
		l, places = Entries(cells)
		want, at := entries(cells)
		if !slices.Equal(l, want) || !slices.Equal(places, at) {
			t.Fatal(cells, l, places)
		}
	}
}

func TestP11_2Encode(t *testing.T) {
	if b, ok := Encode(api.TypeText, []api.Cell{text("a"), text("b"), text("a")}); !ok || !bytes.Equal(b, []byte{2, 4, 1, 'a', 1, 'b', 7, 1, 2}) {
		t.Error(b, ok)
	}
	r := rand.New(rand.NewSource(2))
	for _, typ := range types {
		if b, ok := Encode(typ, nil); !ok || !bytes.Equal(b, []byte{0, 0}) {
			t.Error("no cells", b, ok)
		}
		for n := range 60 {
			cells := someCells(r, typ, n)
			l, places := entries(cells)
			if b, ok := Encode(typ, cells); !ok || !bytes.Equal(b, join(typ, l, places)) {
				t.Fatal(typ, cells, b, ok)
			}
		}
		if _, ok := Encode(typ, make([]api.Cell, 65536)); !ok {
			t.Error("at the limit", typ)
		}
		if b, ok := Encode(typ, make([]api.Cell, 65537)); ok || len(b) != 0 {
			t.Error("beyond the limit", typ)
		}
	}
}

func TestP11_2EncodeWrong(t *testing.T) {
	for _, x := range []struct {
		typ int
		l   []api.Cell
	}{
		{-1, nil}, {4, nil}, {api.MaxInt, nil}, {api.MinInt, []api.Cell{{}}},
		{api.TypeInt, []api.Cell{num(1), {Null: true}}}, {api.TypeBool, []api.Cell{num(1), num(2)}}, {api.TypeText, []api.Cell{num(1)}}, {api.TypePoint, []api.Cell{place(1<<20+1, 0)}}, {api.TypeText, []api.Cell{text(strings.Repeat("x", 65537))}},
	} {
		if b, ok := Encode(x.typ, x.l); ok || len(b) != 0 {
			t.Errorf("%d %.40v: %v", x.typ, x.l, b)
		}
	}
}

func TestP11_3DecodeWrong(t *testing.T) {
	ab := []api.Cell{text("a"), text("b")}
	good := join(api.TypeText, ab, []uint64{0, 1, 0})
	for name, x := range map[string]struct {
		typ int
		b   []byte
		n   int
	}{
		"too few":             {api.TypeText, good, 2},
		"too many":            {api.TypeText, good, 4},
		"below none":          {api.TypeText, good, -1},
		"far below":           {api.TypeText, nil, api.MinInt},
		"far beyond":          {api.TypeText, nil, api.MaxInt},
		"another type":        {api.TypeInt, good, 3},
		"no type":             {4, []byte{0, 0}, 0},
		"nothing":             {api.TypeText, nil, 0},
		"half of nothing":     {api.TypeText, []byte{0}, 0},
		"more than nothing":   {api.TypeText, []byte{0, 0, 0}, 0},
		"more":                {api.TypeText, append(bytes.Clone(good), 0), 3},
		"an end":              {api.TypeText, good[:len(good)-1], 3},
		"a place of none":     {api.TypeText, join(api.TypeText, ab, []uint64{0, 1, 2}), 3},
		"a place far off":     {api.TypeText, join(api.TypeText, ab, []uint64{0, 1, 1 << 63}), 3},
		"another order":       {api.TypeText, join(api.TypeText, ab, []uint64{1, 0, 0}), 3},
		"an entry of none":    {api.TypeText, join(api.TypeText, ab, []uint64{0, 0, 0}), 3},
		"an entry twice":      {api.TypeText, join(api.TypeText, []api.Cell{text("a"), text("a")}, []uint64{0, 1, 0}), 3},
		"entries, no places":  {api.TypeText, join(api.TypeText, ab, nil), 0},
		"places, no entries":  {api.TypeText, join(api.TypeText, nil, []uint64{0}), 1},
		"more than can stand": {api.TypeText, join(api.TypeText, ab, []uint64{0}), 1},
		"a long size":         {api.TypeText, []byte{1, 0x82, 0, 1, 'a', 3, 0}, 1},
		"a great size":        {api.TypeText, []byte{1, 255, 255, 255, 255, 255, 255, 255, 255, 255, 1, 'a', 3, 0}, 1},
		"beyond the limit":    {api.TypeBool, []byte{1, 1, 0, 0x82, 0x80, 8, 0}, 65537},
	} {
		if l, ok := Decode(x.typ, x.b, x.n); ok || len(l) != 0 {
			t.Error(name, l, ok)
		}
	}
	if l, ok := Decode(api.TypeBool, []byte{1, 1, 0, 0x80, 0x80, 8, 0}, 65536); !ok || !slices.Equal(l, make([]api.Cell, 65536)) {
		t.Error("at the limit", ok)
	}
}

func TestP11_4NothingIsShared(t *testing.T) {
	l := []api.Cell{num(1), num(2), num(1), num(3)}
	e, places := Entries(l[:3])
	e[0], places[0] = num(9), 9
	_, _ = append(e, num(8)), append(places, 8)
	b, _ := Encode(api.TypeInt, l[:3])
	room := append(bytes.Clone(b), 9)
	got, _ := Decode(api.TypeInt, room[:len(b)], 3)
	got[0] = num(9)
	_ = append(got, num(8))
	if !slices.Equal(l, []api.Cell{num(1), num(2), num(1), num(3)}) || !bytes.Equal(room, append(b, 9)) {
		t.Error(l, room)
	}
}

func TestP11_5OneForm(t *testing.T) {
	r := rand.New(rand.NewSource(3))
	taken := 0
	for _, typ := range types {
		for n := range 60 {
			l := someCells(r, typ, n)
			b, _ := Encode(typ, l)
			if got, ok := Decode(typ, b, n); !ok || !slices.Equal(got, l) {
				t.Fatal(typ, l, got, ok)
			}
			for range 200 {
				c := bytes.Clone(b)
				for range 1 + r.Intn(2) {
					c[r.Intn(len(c))] ^= 1 << r.Intn(8)
				}
				m := max(0, n+r.Intn(3)-1)
				if got, ok := Decode(typ, c, m); ok {
					taken++
					if again, is := Encode(typ, got); !is || !bytes.Equal(again, c) || len(got) != m {
						t.Fatal(typ, c, got)
					}
				}
			}
		}
	}
	if taken < 100 {
		t.Error("the test takes few", taken)
	}
}
