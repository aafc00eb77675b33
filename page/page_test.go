package page

import (
	"bytes"
	"encoding/binary"
	"math/rand"
	"slices"
	"strings"
	"testing"

	"hypostyle/api"
	"hypostyle/nulls"
	"hypostyle/values"
)

var (
	types = []int{api.TypeInt, api.TypeBool, api.TypeText, api.TypePoint}
	encs  = []int{api.EncPlain, api.EncDict, api.EncRuns, api.EncDelta, api.EncFront}
	null  = api.Cell{Null: true}
)

func num(n int) api.Cell      { return api.Cell{Int: n} }
func text(s string) api.Cell  { return api.Cell{Text: s} }
func place(x, y int) api.Cell { return api.Cell{At: api.Point{X: x, Y: y}} }

func col(typ int, nullable bool) api.Col {
	return api.Col{Name: "c", Type: typ, Nullable: nullable}
}

// someCells makes right cells of a column.
func someCells(r *rand.Rand, c api.Col, n int) []api.Cell {
	l := make([]api.Cell, n)
	for k := range l {
		switch x := r.Intn(12); {
		case c.Nullable && x < 4:
			l[k] = null
		case c.Type == api.TypeInt:
			l[k] = num(x * k)
		case c.Type == api.TypeBool:
			l[k] = num(x & 1)
		case c.Type == api.TypeText:
			l[k] = text(strings.Repeat("xy", x))
		default:
			l[k] = place(x-9, k)
		}
	}
	return l
}

// laid is the chapter's Encode of right cells.
func laid(c api.Col, enc int, l []api.Cell) []byte {
	bits, rest := nulls.Split(l)
	if enc == api.EncBest {
		enc = values.Best(c.Type, rest)
	}
	b := binary.AppendUvarint([]byte{byte(enc)}, uint64(len(l)))
	if c.Nullable {
		b = append(b, bits...)
	}
	data, _ := values.Encode(c.Type, enc, rest)
	return append(b, data...)
}

func TestP17_1Encode(t *testing.T) {
	for _, x := range []struct {
		c    api.Col
		enc  int
		l    []api.Cell
		want []byte
	}{
		{col(api.TypeInt, true), api.EncPlain, []api.Cell{null}, []byte{0, 1, 0}}, {col(api.TypeInt, false), api.EncPlain, nil, []byte{0, 0}}, {col(api.TypePoint, true), api.EncDelta, nil, []byte{3, 0, 0}},
		{col(api.TypeText, true), api.EncPlain, []api.Cell{text("a"), null, text("b")}, []byte{0, 3, 5, 1, 'a', 1, 'b'}}, {col(api.TypeText, false), api.EncFront, []api.Cell{text("a"), text("ab")}, []byte{4, 2, 0, 1, 'a', 1, 1, 'b'}},
		{col(api.TypeInt, false), api.EncBest, slices.Repeat([]api.Cell{num(5)}, 5), []byte{2, 5, 10, 10}}, {col(api.TypeInt, true), api.EncBest, []api.Cell{null, null}, []byte{0, 2, 0}},
		{api.Col{Type: api.TypeBool}, api.EncPlain, []api.Cell{num(1)}, []byte{0, 1, 1}},
	} {
		if b, err := Encode(x.c, x.enc, x.l); err != api.OK || !bytes.Equal(b, x.want) {
			t.Error(x.l, b, err)
		}
	}
	r := rand.New(rand.NewSource(1))
	for _, typ := range types {
		for _, nullable := range []bool{true, false} {
			for _, enc := range append([]int{api.EncBest}, encs...) {
				c := col(typ, nullable)
				for n := range 40 {
					l := someCells(r, c, n)
					b, err := Encode(c, enc, l)
					if enc != api.EncBest && !values.Fits(typ, enc) {
						if err != api.ErrType || len(b) != 0 {
							t.Fatal(typ, enc, b, err)
						}
					} else if err != api.OK || !bytes.Equal(b, laid(c, enc, l)) {
						t.Fatal(typ, enc, l, b, err)
					}
				}
			}
		}
	}
}

func TestP17_1EncodeWrong(t *testing.T) {
	long := text(strings.Repeat("x", 65536))
	for name, x := range map[string]struct {
		c    api.Col
		enc  int
		l    []api.Cell
		want api.Errno
	}{
		"no type": {col(4, true), api.EncBest, make([]api.Cell, 65537), api.ErrType}, "a type below all": {col(-1, true), api.EncPlain, []api.Cell{null}, api.ErrType}, "no encoding": {col(0, true), 5, nil, api.ErrType}, "an encoding below all": {col(0, true), -2, nil, api.ErrType},
		"no fit": {col(api.TypeInt, false), api.EncFront, make([]api.Cell, 65537), api.ErrType}, "too many": {col(api.TypeInt, false), api.EncPlain, slices.Repeat([]api.Cell{null}, 65537), api.ErrFull}, "at the limit": {col(api.TypeInt, false), api.EncBest, make([]api.Cell, 65536), api.OK},
		"nulls at the limit": {col(api.TypeInt, true), api.EncBest, slices.Repeat([]api.Cell{null}, 65536), api.OK}, "a null": {col(api.TypeInt, false), api.EncPlain, []api.Cell{null}, api.ErrArg}, "a null with more": {col(api.TypeInt, true), api.EncPlain, []api.Cell{{Null: true, Int: 1}}, api.ErrArg},
		"another type": {col(api.TypeInt, true), api.EncPlain, []api.Cell{num(1), text("a")}, api.ErrArg}, "too much to share": {col(api.TypeText, false), api.EncFront, slices.Repeat([]api.Cell{long}, 257), api.ErrArg}, "much to share": {col(api.TypeText, false), api.EncFront, slices.Repeat([]api.Cell{long}, 256), api.OK},
		"the best of much": {col(api.TypeText, false), api.EncBest, slices.Repeat([]api.Cell{long}, 257), api.OK},
	} {
		if b, err := Encode(x.c, x.enc, x.l); err != x.want || (len(b) == 0) != (err != api.OK) {
			t.Error(name, len(b), err)
		}
	}
}

func TestP17_2DecodeWrong(t *testing.T) {
	for name, x := range map[string]struct {
		c    api.Col
		b    []byte
		want api.Errno
	}{
		"no type": {col(4, true), []byte{0, 0}, api.ErrType}, "a type below all": {col(-1, false), nil, api.ErrType}, "nothing": {col(0, false), nil, api.ErrForm}, "an encoding alone": {col(0, false), []byte{0}, api.ErrForm}, "no encoding": {col(0, false), []byte{5, 0}, api.ErrForm}, "the best": {col(0, false), []byte{255, 0}, api.ErrForm},
		"no fit": {col(api.TypeInt, false), []byte{4, 0}, api.ErrForm}, "too few": {col(api.TypeBool, false), []byte{0, 9, 0}, api.ErrForm}, "more": {col(api.TypeBool, false), []byte{0, 8, 0, 0}, api.ErrForm}, "bits that are none": {col(api.TypeBool, true), []byte{0, 1, 2, 0}, api.ErrForm},
		"an end in bits": {col(api.TypeBool, true), []byte{0, 9, 0}, api.ErrForm}, "one value too few": {col(api.TypeText, true), []byte{0, 2, 3, 1, 'a'}, api.ErrForm}, "one value too many": {col(api.TypeText, true), []byte{0, 2, 1, 1, 'a', 1, 'b'}, api.ErrForm},
		"beyond the limit": {col(api.TypeInt, true), append([]byte{0, 0x81, 0x80, 4}, make([]byte, 8193)...), api.ErrForm}, "a long form": {col(api.TypeInt, false), []byte{0, 0x80, 0}, api.ErrForm}, "great": {col(api.TypeInt, true), []byte{0, 255, 255, 255, 255, 255, 255, 255, 255, 255, 1}, api.ErrForm},
		"at the limit": {col(api.TypeInt, true), append([]byte{0, 0x80, 0x80, 4}, make([]byte, 8192)...), api.OK}, "no cells": {col(api.TypeInt, true), []byte{0, 0}, api.OK}, "no points": {col(api.TypePoint, false), []byte{3, 0, 0}, api.OK},
	} {
		if l, err := Decode(x.c, x.b); err != x.want || err != api.OK && len(l) != 0 {
			t.Error(name, len(l), err)
		}
	}
}

func TestP17_2Enc(t *testing.T) {
	for x := range 256 {
		want := x
		if x > 4 {
			want = -1
		}
		if Enc([]byte{byte(x)}) != want || Enc([]byte{byte(x), 200, 1}) != want {
			t.Error(x)
		}
	}
	if Enc(nil) != -1 || Enc([]byte{}) != -1 {
		t.Error("of nothing")
	}
}

func TestP17_3NothingIsShared(t *testing.T) {
	for _, c := range []api.Col{col(api.TypeInt, true), col(api.TypeInt, false)} {
		for _, enc := range []int{api.EncPlain, api.EncDict, api.EncRuns, api.EncDelta} {
			l := []api.Cell{num(1), num(2), num(3)}
			b, _ := Encode(c, enc, l[:2])
			room := append(bytes.Clone(b), 9)
			got, _ := Decode(c, room[:len(b)])
			got[0] = num(9)
			_ = append(got, num(8))
			if !slices.Equal(l, []api.Cell{num(1), num(2), num(3)}) || !bytes.Equal(room, append(b, 9)) {
				t.Error(c, enc, l, room)
			}
		}
	}
}

func TestP17_4OneForm(t *testing.T) {
	r := rand.New(rand.NewSource(2))
	taken := 0
	for _, typ := range types {
		for _, nullable := range []bool{true, false} {
			for _, enc := range append([]int{api.EncBest}, encs...) {
				c := col(typ, nullable)
				for n := range 25 {
					l := someCells(r, c, n)
					b, err := Encode(c, enc, l)
					if err != api.OK {
						continue
					}
					if got, err := Decode(c, b); err != api.OK || !slices.Equal(got, l) {
						t.Fatal(typ, enc, l, got, err)
					}
					for range 60 {
						wrong := bytes.Clone(b)
						wrong[r.Intn(len(b))] ^= 1 << r.Intn(8)
						if got, err := Decode(c, wrong); err == api.OK {
							taken++
							if again, is := Encode(c, Enc(wrong), got); is != api.OK || !bytes.Equal(again, wrong) {
								t.Fatal(c, wrong, got)
							}
						}
					}
				}
			}
		}
	}
	if taken < 100 {
		t.Error("the test takes few", taken)
	}
}
