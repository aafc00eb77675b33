package plain

import (
	"bytes"
	"encoding/binary"
	"math/rand"
	"slices"
	"strings"
	"testing"

	"hypostyle/api"
)

var types = []int{api.TypeInt, api.TypeBool, api.TypeText, api.TypePoint}

func num(n int) api.Cell      { return api.Cell{Int: n} }
func text(s string) api.Cell  { return api.Cell{Text: s} }
func place(x, y int) api.Cell { return api.Cell{At: api.Point{X: x, Y: y}} }

// someCells makes right cells of a type.
func someCells(r *rand.Rand, typ, n int) []api.Cell {
	l := make([]api.Cell, n)
	for k := range l {
		switch typ {
		case api.TypeInt:
			l[k] = num(int(r.Uint64()) >> r.Intn(64))
		case api.TypeBool:
			l[k] = num(r.Intn(2))
		case api.TypeText:
			l[k] = text(strings.Repeat(string(rune('a'+r.Intn(3))), r.Intn(4)*r.Intn(100)))
		case api.TypePoint:
			l[k] = place((r.Intn(1<<21+1)-1<<20)>>r.Intn(20), (r.Intn(1<<21+1)-1<<20)>>r.Intn(20))
		}
	}
	return l
}

// laid is what the chapter tells, built by the library's own numbers.
func laid(typ int, l []api.Cell) []byte {
	var b []byte
	if typ == api.TypeBool {
		b = make([]byte, (len(l)+7)/8)
	}
	for k, c := range l {
		switch typ {
		case api.TypeInt:
			b = binary.LittleEndian.AppendUint64(b, uint64(c.Int))
		case api.TypeBool:
			b[k/8] |= byte(c.Int) << (k % 8)
		case api.TypeText:
			b = append(binary.AppendUvarint(b, uint64(len(c.Text))), c.Text...)
		case api.TypePoint:
			b = binary.AppendVarint(binary.AppendVarint(b, int64(c.At.X)), int64(c.At.Y))
		}
	}
	return b
}

func TestP9_1EncodeExamples(t *testing.T) {
	for _, x := range []struct {
		typ  int
		l    []api.Cell
		want []byte
	}{
		{api.TypeText, []api.Cell{text("ab")}, []byte{2, 'a', 'b'}},
		{api.TypeText, []api.Cell{text(""), text("c")}, []byte{0, 1, 'c'}},
		{api.TypeInt, []api.Cell{num(258), num(-1)}, []byte{2, 1, 0, 0, 0, 0, 0, 0, 255, 255, 255, 255, 255, 255, 255, 255}},
		{api.TypeInt, []api.Cell{num(api.MinInt)}, []byte{0, 0, 0, 0, 0, 0, 0, 128}},
		{api.TypeBool, []api.Cell{num(1), num(0), num(1)}, []byte{5}},
		{api.TypePoint, []api.Cell{place(-1, 150)}, []byte{1, 0xac, 2}},
	} {
		if b, ok := Encode(x.typ, x.l); !ok || !bytes.Equal(b, x.want) {
			t.Error(x.l, b, ok)
		}
	}
	for _, typ := range types {
		if b, ok := Encode(typ, nil); !ok || len(b) != 0 {
			t.Error("no cells", typ, b, ok)
		}
		if b, ok := Encode(typ, []api.Cell{}); !ok || len(b) != 0 {
			t.Error("no cells", typ, b, ok)
		}
	}
}

func TestP9_1EncodeRandom(t *testing.T) {
	r := rand.New(rand.NewSource(1))
	for _, typ := range types {
		for n := range 80 {
			l := someCells(r, typ, n)
			if b, ok := Encode(typ, l); !ok || !bytes.Equal(b, laid(typ, l)) {
				t.Fatal(typ, l, b, ok)
			}
		}
	}
}

func TestP9_1EncodeWrong(t *testing.T) {
	wrong := map[int][]api.Cell{
		api.TypeInt:   {{Null: true}, text("a"), place(1, 0), {Int: 1, Text: "a"}},
		api.TypeBool:  {{Null: true}, num(2), num(-1), text("a"), place(1, 0)},
		api.TypeText:  {{Null: true}, num(1), place(1, 0), text(strings.Repeat("x", 65537))},
		api.TypePoint: {{Null: true}, num(1), text("a"), place(1<<20+1, 0), place(0, -1<<20-1)},
	}
	for typ, cells := range wrong {
		for _, c := range cells {
			for _, l := range [][]api.Cell{{c}, {{}, c}, {c, {}}} {
				if b, ok := Encode(typ, l); ok || len(b) != 0 {
					t.Errorf("%d %.40v: %v", typ, l, b)
				}
			}
		}
	}
	for _, typ := range []int{-1, 4, api.MaxInt, api.MinInt} {
		if b, ok := Encode(typ, nil); ok || len(b) != 0 {
			t.Error("no type", typ, b)
		}
		if l, ok := Decode(typ, nil, 0); ok || len(l) != 0 {
			t.Error("no type", typ, l)
		}
	}
	for _, typ := range types {
		if b, ok := Encode(typ, make([]api.Cell, 65536)); !ok || len(b) == 0 {
			t.Error("at the limit", typ)
		}
		if b, ok := Encode(typ, make([]api.Cell, 65537)); ok || len(b) != 0 {
			t.Error("beyond the limit", typ)
		}
	}
	if _, ok := Encode(api.TypeText, []api.Cell{text(strings.Repeat("x", 65536))}); !ok {
		t.Error("a text at the limit")
	}
	if _, ok := Encode(api.TypePoint, []api.Cell{place(1<<20, -1<<20)}); !ok {
		t.Error("a point at the limit")
	}
}

func TestP9_2DecodeWrong(t *testing.T) {
	for _, x := range []struct {
		typ int
		b   []byte
		n   int
	}{
		{api.TypeInt, make([]byte, 7), 1}, {api.TypeInt, make([]byte, 9), 1}, {api.TypeInt, make([]byte, 8), 0}, {api.TypeInt, make([]byte, 8), 2}, {api.TypeInt, make([]byte, 8), -1}, {api.TypeInt, nil, api.MaxInt}, {api.TypeInt, nil, api.MinInt}, {api.TypeInt, make([]byte, 65537*8), 65537},
		{api.TypeBool, []byte{2}, 1}, {api.TypeBool, nil, 1}, {api.TypeBool, []byte{0}, 0}, {api.TypeBool, []byte{0, 0}, 8}, {api.TypeBool, nil, -1}, {api.TypeBool, make([]byte, 8193), 65537},
		{api.TypeText, []byte{1}, 1}, {api.TypeText, []byte{0, 0}, 1}, {api.TypeText, []byte{0}, 2}, {api.TypeText, []byte{0x80, 0}, 1}, {api.TypeText, []byte{0x81, 0, 'a'}, 1}, {api.TypeText, append([]byte{0x81, 0x80, 4}, make([]byte, 65537)...), 1}, {api.TypeText, []byte{255, 255, 255, 255, 255, 255, 255, 255, 255, 1}, 1}, {api.TypeText, nil, 65536}, {api.TypeText, make([]byte, 65537), 65537}, {api.TypeText, nil, -5},
		{api.TypePoint, []byte{0}, 1}, {api.TypePoint, []byte{0, 0, 0}, 1}, {api.TypePoint, []byte{0x80, 0, 0}, 1}, {api.TypePoint, []byte{0x82, 0x80, 0x80, 1, 0}, 1}, {api.TypePoint, []byte{0, 0x81, 0x80, 0x80, 1}, 1}, {api.TypePoint, nil, api.MaxInt},
	} {
		if l, ok := Decode(x.typ, x.b, x.n); ok || len(l) != 0 {
			t.Errorf("%d %.30x %d: %v", x.typ, x.b, x.n, l)
		}
	}
	for _, typ := range types {
		if l, ok := Decode(typ, nil, 0); !ok || len(l) != 0 {
			t.Error("no cells", typ, l, ok)
		}
	}
	if l, ok := Decode(api.TypePoint, []byte{0x80, 0x80, 0x80, 1, 0xff, 0xff, 0x7f}, 1); !ok || l[0] != place(1<<20, -1<<20) {
		t.Error("a point at the limit", l, ok)
	}
	if l, ok := Decode(api.TypeText, make([]byte, 65536), 65536); !ok || len(l) != 65536 {
		t.Error("at the limit", len(l), ok)
	}
}

func TestP9_3NothingIsShared(t *testing.T) {
	for _, typ := range types {
		l := []api.Cell{{}, {}, {}}
		b, _ := Encode(typ, l[:2])
		room := append(bytes.Clone(b), 9, 9)
		got, ok := Decode(typ, room[:len(b)], 2)
		got[0].Int = 9
		_ = append(got, num(5))
		if !ok || !slices.Equal(l, make([]api.Cell, 3)) || !bytes.Equal(room[:len(b)], b) || room[len(b)] != 9 {
			t.Error(typ, l, room)
		}
	}
	b := []byte{1, 'a'}
	got, _ := Decode(api.TypeText, b, 1)
	b[1] = 'b'
	if got[0].Text != "a" {
		t.Error("a text shares with the bytes", got)
	}
}

func TestP9_4OneForm(t *testing.T) {
	r := rand.New(rand.NewSource(2))
	for _, typ := range types {
		for n := range 60 {
			l := someCells(r, typ, n)
			b, _ := Encode(typ, l)
			if got, ok := Decode(typ, b, n); !ok || !slices.Equal(got, l) {
				t.Fatal(typ, l, got, ok)
			}
			// Whatever bytes near these are taken are laid as they are.
			for range 30 {
				c := bytes.Clone(b)
				for range 1 + r.Intn(2) {
					if len(c) > 0 {
						c[r.Intn(len(c))] = byte(r.Intn(256))
					}
				}
				m := max(0, n+r.Intn(3)-1)
				if got, ok := Decode(typ, c, m); ok {
					if again, is := Encode(typ, got); !is || !bytes.Equal(again, c) || len(got) != m {
						t.Fatal(typ, c, got)
					}
				}
			}
		}
	}
}
