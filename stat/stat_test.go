package stat

import (
	"bytes"
	"encoding/binary"
	"math/rand"
	"slices"
	"strings"
	"testing"

	"hypostyle/api"
	"hypostyle/cell"
	"hypostyle/cursor"
	"hypostyle/plain"
)

var (
	types = []int{api.TypeInt, api.TypeBool, api.TypeText, api.TypePoint}
	null  = api.Cell{Null: true}
)

func num(n int) api.Cell                 { return api.Cell{Int: n} }
func text(s string) api.Cell             { return api.Cell{Text: s} }
func place(x, y int) api.Cell            { return api.Cell{At: api.Point{X: x, Y: y}} }
func some(n int, a, b api.Cell) api.Stat { return api.Stat{Nulls: n, Has: true, Min: a, Max: b} }

// someCells makes right cells of a type, and nulls.
func someCells(r *rand.Rand, typ, n int) []api.Cell {
	l := make([]api.Cell, n)
	for k := range l {
		switch x := r.Intn(20); {
		case x%4 == 0:
			l[k] = null
		case typ == api.TypeInt:
			l[k] = num(int(r.Uint64()) >> r.Intn(64))
		case typ == api.TypeBool:
			l[k] = num(x & 1)
		case typ == api.TypeText:
			l[k] = text(strings.Repeat("x", x))
		default:
			l[k] = place(x-9, r.Intn(40)-20)
		}
	}
	return l
}

// of is the chapter's Of, by a sorted row.
func of(typ int, l []api.Cell) api.Stat {
	order := slices.Clone(l)
	slices.SortStableFunc(order, func(a, b api.Cell) int { return cell.Compare(typ, a, b) })
	n := 0
	for n < len(order) && order[n].Null {
		n++
	}
	if n == len(order) {
		return api.Stat{Nulls: n}
	}
	return some(n, order[n], order[len(order)-1])
}

func TestP15_1Of(t *testing.T) {
	for _, x := range []struct {
		typ  int
		l    []api.Cell
		want api.Stat
	}{
		{api.TypeInt, nil, api.Stat{}}, {api.TypeInt, []api.Cell{null, null}, api.Stat{Nulls: 2}}, {api.TypeInt, []api.Cell{num(3), null, num(1)}, some(1, num(1), num(3))},
		{api.TypeInt, []api.Cell{num(api.MaxInt), num(api.MinInt)}, some(0, num(api.MinInt), num(api.MaxInt))}, {api.TypeInt, []api.Cell{num(5)}, some(0, num(5), num(5))},
		{api.TypeText, []api.Cell{text("ab"), text(""), text("a")}, some(0, text(""), text("ab"))}, {api.TypePoint, []api.Cell{place(3, 0), place(0, -4), place(0, 1)}, some(0, place(0, 1), place(0, -4))},
		{api.TypeBool, []api.Cell{num(1), num(1)}, some(0, num(1), num(1))},
	} {
		if got := Of(x.typ, x.l); got != x.want {
			t.Error(x.l, got)
		}
	}
	r := rand.New(rand.NewSource(1))
	for _, typ := range types {
		for n := range 60 {
			l := someCells(r, typ, n)
			if got := Of(typ, l); got != of(typ, l) {
				t.Fatal(typ, l, got)
			}
		}
	}
}

func TestP15_2Merge(t *testing.T) {
	r := rand.New(rand.NewSource(2))
	for _, typ := range types {
		for range 300 {
			a, b := someCells(r, typ, r.Intn(5)), someCells(r, typ, r.Intn(5))
			if got := Merge(typ, Of(typ, a), Of(typ, b)); got != of(typ, slices.Concat(a, b)) {
				t.Fatal(typ, a, b, got)
			}
		}
	}
}

func TestP15_3Right(t *testing.T) {
	for _, typ := range types {
		for n, want := range map[int]bool{-1: false, 0: true, 65536: true, 65537: false, api.MaxInt: false, api.MinInt: false} {
			if Right(typ, api.Stat{Nulls: n}) != want || Right(typ, some(n, api.Cell{}, api.Cell{})) != want {
				t.Error(typ, n)
			}
		}
		for _, s := range []api.Stat{{Min: num(1)}, {Max: num(1)}, {Min: null}, {Max: text("a")}, {Min: place(1, 0)}, some(1, null, null), some(1, null, api.Cell{}), some(1, api.Cell{}, null)} {
			if Right(typ, s) {
				t.Error(typ, s)
			}
		}
	}
	long := strings.Repeat("x", 65536)
	for _, x := range []struct {
		typ  int
		s    api.Stat
		want bool
	}{
		{api.TypeInt, some(0, num(1), num(2)), true}, {api.TypeInt, some(0, num(2), num(2)), true}, {api.TypeInt, some(0, num(3), num(2)), false}, {api.TypeInt, some(0, num(3), text("a")), false},
		{api.TypeBool, some(0, num(0), num(1)), true}, {api.TypeBool, some(0, num(1), num(0)), false}, {api.TypeBool, some(0, num(0), num(2)), false},
		{api.TypeText, some(0, text("a"), text("b")), true}, {api.TypeText, some(0, text("b"), text("a")), false}, {api.TypeText, some(0, text(""), text(long)), true}, {api.TypeText, some(0, text(""), text(long+"x")), false},
		{api.TypePoint, some(0, place(0, 1), place(5, 0)), true}, {api.TypePoint, some(0, place(5, 0), place(0, 1)), false}, {api.TypePoint, some(0, place(0, 1), place(1<<20+1, 0)), false},
		{4, api.Stat{}, false}, {-1, api.Stat{}, false}, {api.MaxInt, some(0, num(1), num(2)), false}, {api.MinInt, api.Stat{Nulls: 1}, false},
	} {
		if Right(x.typ, x.s) != x.want {
			t.Errorf("%d %.60v", x.typ, x.s)
		}
	}
}

func TestP15_3May(t *testing.T) {
	for _, x := range []struct {
		typ  int
		s    api.Stat
		c    api.Cell
		want bool
	}{
		{api.TypeInt, api.Stat{}, null, false}, {api.TypeInt, api.Stat{Nulls: 1}, null, true}, {api.TypeInt, some(0, num(1), num(5)), null, false}, {api.TypeInt, some(1, num(1), num(5)), null, true},
		{api.TypeInt, api.Stat{Nulls: 1}, num(0), false}, {api.TypeInt, some(0, num(1), num(5)), num(0), false}, {api.TypeInt, some(0, num(1), num(5)), num(1), true}, {api.TypeInt, some(0, num(1), num(5)), num(5), true}, {api.TypeInt, some(0, num(1), num(5)), num(6), false}, {api.TypeInt, some(0, num(1), num(5)), num(3), true},
		{api.TypeText, some(0, text("b"), text("d")), text("a"), false}, {api.TypeText, some(0, text("b"), text("d")), text("dd"), false}, {api.TypeText, some(0, text("b"), text("d")), text("bb"), true},
		{api.TypePoint, some(0, place(1, 0), place(3, 0)), place(0, -3), true}, {api.TypePoint, some(0, place(1, 0), place(3, 0)), place(0, 0), false}, {api.TypePoint, some(0, place(1, 0), place(3, 0)), place(0, 4), false},
	} {
		if May(x.typ, x.s, x.c) != x.want {
			t.Error(x)
		}
	}
}

func TestP15_4Put(t *testing.T) {
	for _, x := range []struct {
		typ  int
		s    api.Stat
		want []byte
	}{
		{api.TypeInt, api.Stat{}, []byte{0, 0}}, {api.TypeInt, api.Stat{Nulls: 300}, []byte{0xac, 2, 0}},
		{api.TypeInt, some(1, num(1), num(3)), []byte{1, 1, 16, 1, 0, 0, 0, 0, 0, 0, 0, 3, 0, 0, 0, 0, 0, 0, 0}},
		{api.TypeBool, some(0, num(0), num(1)), []byte{0, 1, 1, 2}}, {api.TypeText, some(0, text("a"), text("bc")), []byte{0, 1, 5, 1, 'a', 2, 'b', 'c'}}, {api.TypePoint, some(0, place(0, 0), place(-1, 2)), []byte{0, 1, 4, 0, 0, 1, 4}},
		{api.TypeInt, api.Stat{Nulls: -1}, nil}, {4, api.Stat{}, nil}, {api.TypeInt, some(0, num(2), num(1)), nil},
	} {
		if b := Put([]byte{7, 7}, x.typ, x.s); !bytes.Equal(b, append([]byte{7, 7}, x.want...)) {
			t.Error(x.s, b)
		}
		if b := Put(nil, x.typ, x.s); !bytes.Equal(b, x.want) {
			t.Error(x.s, b)
		}
		if x.want != nil {
			c := cursor.Over(append(bytes.Clone(x.want), 9))
			if s := Get(c, x.typ); s != x.s || c.Bad() || c.Left() != 1 {
				t.Error(x.s, s, c.Bad())
			}
		}
	}
}

func TestP15_4GetWrong(t *testing.T) {
	ends := func(typ int, l ...api.Cell) []byte {
		b, _ := plain.Encode(typ, l)
		return append(binary.AppendUvarint([]byte{0, 1}, uint64(len(b))), b...)
	}
	for name, x := range map[string]struct {
		typ int
		b   []byte
	}{
		"nothing": {api.TypeInt, nil}, "half": {api.TypeInt, []byte{0}}, "no ends": {api.TypeInt, []byte{0, 1}}, "no truth": {api.TypeInt, []byte{0, 2}}, "no truth, with ends": {api.TypeBool, []byte{0, 255, 1, 2}},
		"an end": {api.TypeBool, []byte{0, 1, 1}}, "too many nulls": {api.TypeInt, []byte{0x81, 0x80, 4, 0}}, "a long form": {api.TypeInt, []byte{0x80, 0, 0}}, "a long size": {api.TypeBool, []byte{0, 1, 0x81, 0, 2}},
		"one end": {api.TypeInt, ends(api.TypeInt, num(1))}, "three ends": {api.TypeInt, ends(api.TypeInt, num(1), num(2), num(3))}, "back to front": {api.TypeInt, ends(api.TypeInt, num(2), num(1))}, "another type": {api.TypeInt, ends(api.TypeText, text("a"), text("b"))},
		"no type": {4, []byte{0, 0}}, "below types": {-1, []byte{0, 0}}, "bits": {api.TypeBool, []byte{0, 1, 1, 6}}, "a great size": {api.TypeText, []byte{0, 1, 255, 255, 255, 255, 255, 255, 255, 255, 255, 1}},
		"far points": {api.TypePoint, []byte{0, 1, 7, 0, 0, 0x82, 0x80, 0x80, 1, 0}},
	} {
		c := cursor.Over(x.b)
		if s := Get(c, x.typ); s != (api.Stat{}) || !c.Bad() {
			t.Error(name, s, c.Bad())
		}
	}
	c := cursor.Over([]byte{0, 0})
	c.Fail()
	if s := Get(c, api.TypeInt); s != (api.Stat{}) || !c.Bad() {
		t.Error("of a bad cursor", s)
	}
}

func TestP15_5NothingIsShared(t *testing.T) {
	room := []byte{1, 2, 3, 4, 5, 6, 7, 8}
	for _, s := range []api.Stat{{}, some(0, num(0), num(1)), {Nulls: -1}} {
		b := Put(room[:1], api.TypeBool, s)
		b[0] = 9
		_ = append(b, 9)
	}
	if !bytes.Equal(room, []byte{1, 2, 3, 4, 5, 6, 7, 8}) {
		t.Error("what was handed in is written to", room)
	}
}

func TestP15_6PutIsGot(t *testing.T) {
	r := rand.New(rand.NewSource(3))
	taken := 0
	for _, typ := range types {
		for n := range 60 {
			l := someCells(r, typ, n)
			s := Of(typ, l)
			if !Right(typ, s) {
				t.Fatal(typ, s)
			}
			for _, c := range l {
				if !May(typ, s, c) {
					t.Fatal(typ, s, c)
				}
			}
			b := Put(nil, typ, s)
			c := cursor.Over(b)
			if got := Get(c, typ); got != s || !c.End() {
				t.Fatal(typ, s, got)
			}
			for range 60 {
				wrong := bytes.Clone(b)
				wrong[r.Intn(len(b))] ^= 1 << r.Intn(8)
				c := cursor.Over(wrong)
				if s := Get(c, typ); !c.Bad() {
					taken++
					if !Right(typ, s) || !bytes.Equal(Put(nil, typ, s), wrong[:len(wrong)-c.Left()]) {
						t.Fatal(typ, wrong, s)
					}
				}
			}
		}
	}
	if taken < 100 {
		t.Error("the test takes few", taken)
	}
}
