package values

import (
	"bytes"
	"encoding/binary"
	"math/rand"
	"slices"
	"strings"
	"testing"

	"hypostyle/api"
	"hypostyle/delta"
	"hypostyle/dict"
	"hypostyle/front"
	"hypostyle/plain"
	"hypostyle/runs"
	"hypostyle/varint"
)

var (
	types = []int{api.TypeInt, api.TypeBool, api.TypeText, api.TypePoint}
	encs  = []int{api.EncPlain, api.EncDict, api.EncRuns, api.EncDelta, api.EncFront}
	odd   = []int{-1, -2, 5, api.MaxInt, api.MinInt}
)

func num(n int) api.Cell      { return api.Cell{Int: n} }
func text(s string) api.Cell  { return api.Cell{Text: s} }
func place(x, y int) api.Cell { return api.Cell{At: api.Point{X: x, Y: y}} }

// someCells makes right cells of a type.
func someCells(r *rand.Rand, typ, n int) []api.Cell {
	l := make([]api.Cell, n)
	wide := 1 + r.Intn(1<<r.Intn(20))
	for k := range l {
		switch typ {
		case api.TypeInt:
			l[k] = num(r.Intn(wide) - wide/2)
		case api.TypeBool:
			l[k] = num(r.Intn(9) / 8)
		case api.TypeText:
			l[k] = text(strings.Repeat("xy", r.Intn(wide)%50))
		case api.TypePoint:
			l[k] = place(r.Intn(wide)-wide/2, 5*k)
		}
	}
	return l
}

// laid is the chapter's Encode of right cells and an encoding that fits.
func laid(typ, enc int, l []api.Cell) []byte {
	var zigs []uint64
	var ints, xs, ys []int
	var texts []string
	var at api.Point
	for _, c := range l {
		zigs, ints, texts = append(zigs, varint.Zig(c.Int)), append(ints, c.Int), append(texts, c.Text)
		xs, ys = append(xs, c.At.X-at.X), append(ys, c.At.Y-at.Y)
		at = c.At
	}
	var b []byte
	switch enc {
	case api.EncPlain:
		b, _ = plain.Encode(typ, l)
	case api.EncDict:
		b, _ = dict.Encode(typ, l)
	case api.EncRuns:
		b, _ = runs.Encode(zigs)
	case api.EncDelta:
		if b, _ = delta.Encode(ints); typ == api.TypePoint {
			x, _ := delta.Encode(xs)
			y, _ := delta.Encode(ys)
			b = append(append(binary.AppendUvarint(nil, uint64(len(x))), x...), y...)
		}
	case api.EncFront:
		b, _ = front.Encode(texts)
	}
	return b
}

func TestP14_1Fits(t *testing.T) {
	fit := [5][4]bool{{true, true, true, true}, {true, true, true, true}, {true, true, false, false}, {true, false, false, true}, {false, false, true, false}}
	for _, enc := range encs {
		for _, typ := range types {
			if Fits(typ, enc) != fit[enc][typ] {
				t.Error(typ, enc)
			}
		}
		for _, typ := range append(slices.Clone(odd), 4) {
			if Fits(typ, enc) {
				t.Error(typ, enc)
			}
		}
	}
	for _, enc := range odd {
		for _, typ := range append(slices.Clone(odd), 0, 1, 2, 3) {
			if Fits(typ, enc) {
				t.Error(typ, enc)
			}
		}
	}
}

func TestP14_2Encode(t *testing.T) {
	r := rand.New(rand.NewSource(1))
	for _, typ := range types {
		for _, enc := range encs {
			for n := range 70 {
				l := someCells(r, typ, n)
				b, err := Encode(typ, enc, l)
				if !Fits(typ, enc) {
					if err != api.ErrType || len(b) != 0 {
						t.Fatal(typ, enc, b, err)
					}
				} else if err != api.OK || !bytes.Equal(b, laid(typ, enc, l)) {
					t.Fatal(typ, enc, l, b, err)
				}
			}
		}
	}
	if b, err := Encode(api.TypePoint, api.EncDelta, nil); err != api.OK || !bytes.Equal(b, []byte{0}) {
		t.Error("no points", b, err)
	}
	if b, err := Encode(api.TypePoint, api.EncDelta, []api.Cell{place(1, 2), place(3, 2)}); err != api.OK || !bytes.Equal(b, []byte{3, 2, 2, 0, 4, 3, 0}) {
		t.Error(b, err)
	}
}

func TestP14_2EncodeWrong(t *testing.T) {
	null := api.Cell{Null: true}
	long := text(strings.Repeat("x", 65536))
	for _, x := range []struct {
		name     string
		typ, enc int
		l        []api.Cell
		want     api.Errno
	}{
		{"another type, and wrong cells", api.TypeInt, api.EncFront, []api.Cell{null}, api.ErrType},
		{"no type", 4, api.EncPlain, nil, api.ErrType}, {"no encoding", api.TypeInt, 5, nil, api.ErrType}, {"the best", api.TypeInt, api.EncBest, nil, api.ErrType},
		{"a null", api.TypeInt, api.EncPlain, []api.Cell{null}, api.ErrArg}, {"a null", api.TypeInt, api.EncRuns, []api.Cell{num(1), null}, api.ErrArg}, {"a null", api.TypePoint, api.EncDelta, []api.Cell{null}, api.ErrArg}, {"a null", api.TypeText, api.EncFront, []api.Cell{null}, api.ErrArg}, {"a null", api.TypeText, api.EncDict, []api.Cell{null}, api.ErrArg},
		{"a number of two", api.TypeBool, api.EncRuns, []api.Cell{num(2)}, api.ErrArg}, {"a text as number", api.TypeInt, api.EncDelta, []api.Cell{text("a")}, api.ErrArg}, {"a far point", api.TypePoint, api.EncDelta, []api.Cell{place(1<<20+1, 0)}, api.ErrArg}, {"a number as text", api.TypeText, api.EncFront, []api.Cell{num(1)}, api.ErrArg},
		{"too long", api.TypeText, api.EncFront, []api.Cell{text(long.Text + "x")}, api.ErrArg}, {"much text", api.TypeText, api.EncFront, slices.Repeat([]api.Cell{long}, 256), api.OK}, {"too much text", api.TypeText, api.EncFront, slices.Repeat([]api.Cell{long}, 257), api.ErrArg}, {"as much text, by another", api.TypeText, api.EncDict, slices.Repeat([]api.Cell{long}, 257), api.OK},
	} {
		if b, err := Encode(x.typ, x.enc, x.l); err != x.want || err != api.OK && len(b) != 0 {
			t.Error(x.name, x.typ, x.enc, len(b), err)
		}
	}
	for _, typ := range types {
		for _, enc := range encs {
			if !Fits(typ, enc) {
				continue
			}
			if _, err := Encode(typ, enc, make([]api.Cell, 65536)); err != api.OK {
				t.Error("at the limit", typ, enc, err)
			}
			if b, err := Encode(typ, enc, make([]api.Cell, 65537)); err != api.ErrArg || len(b) != 0 {
				t.Error("beyond the limit", typ, enc, err)
			}
		}
	}
}

func TestP14_3Decode(t *testing.T) {
	for _, typ := range append(slices.Clone(odd), 0, 1, 2, 3) {
		for _, enc := range append(slices.Clone(odd), encs...) {
			want := api.ErrForm
			if !Fits(typ, enc) {
				want = api.ErrType
			}
			for _, n := range []int{-1, 1, 65536, 65537, api.MaxInt, api.MinInt} {
				if l, err := Decode(typ, enc, nil, n); err != want || len(l) != 0 {
					t.Error(typ, enc, n, l, err)
				}
			}
			for _, b := range [][]byte{{255}, {0x80, 0}, bytes.Repeat([]byte{255}, 40)} {
				if l, err := Decode(typ, enc, b, 2); err != want || len(l) != 0 {
					t.Error(typ, enc, b, l, err)
				}
			}
		}
	}
	// A delta that leads to no right point, or whose rows have other numbers of steps; a run of no truth.
	x, _ := delta.Encode([]int{1 << 20, 1})
	y, _ := delta.Encode([]int{0, 0})
	z, _ := delta.Encode([]int{0, 1, 5})
	zigs, _ := runs.Encode([]uint64{2, 4})
	minus, _ := runs.Encode([]uint64{0, 1})
	for name, w := range map[string]struct {
		typ, enc int
		b        []byte
	}{
		"beyond": {api.TypePoint, api.EncDelta, append(append([]byte{byte(len(x))}, x...), y...)}, "more X": {api.TypePoint, api.EncDelta, append(append([]byte{byte(len(z))}, z...), y...)}, "more Y": {api.TypePoint, api.EncDelta, append(append([]byte{byte(len(y))}, y...), z...)},
		"a long size": {api.TypePoint, api.EncDelta, append(append([]byte{byte(len(y)) | 0x80, 0}, y...), y...)}, "a great size": {api.TypePoint, api.EncDelta, append(append([]byte{byte(len(y)) * 3}, y...), y...)},
		"two": {api.TypeBool, api.EncRuns, zigs}, "minus": {api.TypeBool, api.EncRuns, minus},
	} {
		if l, err := Decode(w.typ, w.enc, w.b, 2); err != api.ErrForm || len(l) != 0 {
			t.Error(name, l, err)
		}
	}
	if l, err := Decode(api.TypePoint, api.EncDelta, append(append([]byte{byte(len(y))}, y...), y...), 2); err != api.OK || !slices.Equal(l, make([]api.Cell, 2)) {
		t.Error(l, err)
	}
}

func TestP14_4Best(t *testing.T) {
	long := text(strings.Repeat("x", 65536))
	rising := make([]api.Cell, 100)
	path := make([]api.Cell, 100)
	for k := range rising {
		rising[k], path[k] = num(1000*k), place(900*k, -800*k)
	}
	for name, x := range map[string]struct {
		typ  int
		l    []api.Cell
		want int
	}{
		"fives": {api.TypeInt, slices.Repeat([]api.Cell{num(5)}, 5), api.EncRuns}, "nothing": {api.TypeInt, nil, api.EncPlain}, "no text": {api.TypeText, nil, api.EncPlain}, "no points": {api.TypePoint, nil, api.EncPlain},
		"rising": {api.TypeInt, rising, api.EncDelta}, "a path": {api.TypePoint, path, api.EncDelta}, "a truth": {api.TypeBool, []api.Cell{num(1)}, api.EncPlain},
		"shared texts": {api.TypeText, []api.Cell{text("abcdefgh"), text("abcdefgi"), text("abcdefgj")}, api.EncFront}, "few texts": {api.TypeText, slices.Repeat([]api.Cell{text("abcdefgh"), text("zyxwv")}, 20), api.EncDict},
		"too much to share": {api.TypeText, slices.Repeat([]api.Cell{long}, 257), api.EncDict},
		"no type":           {4, nil, -1}, "below types": {-1, nil, -1}, "a null": {api.TypeInt, []api.Cell{{Null: true}}, -1}, "too many": {api.TypeInt, make([]api.Cell, 65537), -1},
	} {
		if got := Best(x.typ, x.l); got != x.want {
			t.Error(name, got)
		}
	}
	r := rand.New(rand.NewSource(2))
	for _, typ := range types {
		for n := range 60 {
			l := someCells(r, typ, n)
			want, size := -1, 0
			for _, enc := range encs {
				if b := laid(typ, enc, l); Fits(typ, enc) && (want < 0 || len(b) < size) {
					want, size = enc, len(b)
				}
			}
			if got := Best(typ, l); got != want {
				t.Fatal(typ, l, got, want)
			}
		}
	}
}

func TestP14_5NothingIsShared(t *testing.T) {
	for _, typ := range types {
		for _, enc := range encs {
			l := make([]api.Cell, 6)
			b, err := Encode(typ, enc, l[:5])
			if err != api.OK {
				continue
			}
			room := append(bytes.Clone(b), 9)
			got, _ := Decode(typ, enc, room[:len(b)], 5)
			got[0].Int = 9
			_ = append(got, num(9))
			Best(typ, l[:5])
			if !slices.Equal(l, make([]api.Cell, 6)) || !bytes.Equal(room, append(b, 9)) {
				t.Error(typ, enc, l, room)
			}
		}
	}
}

func TestP14_6OneForm(t *testing.T) {
	r := rand.New(rand.NewSource(3))
	taken := 0
	for _, typ := range types {
		for _, enc := range encs {
			if !Fits(typ, enc) {
				continue
			}
			for n := range 50 {
				l := someCells(r, typ, n)
				b, _ := Encode(typ, enc, l)
				if got, err := Decode(typ, enc, b, n); err != api.OK || !slices.Equal(got, l) {
					t.Fatal(typ, enc, l, got, err)
				}
				for range 60 {
					c := bytes.Clone(b)
					for range 1 + r.Intn(2) {
						if len(c) > 0 {
							c[r.Intn(len(c))] ^= 1 << r.Intn(8)
						}
					}
					m := max(0, n+r.Intn(3)-1)
					if got, err := Decode(typ, enc, c, m); err == api.OK {
						taken++
						if again, is := Encode(typ, enc, got); is != api.OK || !bytes.Equal(again, c) || len(got) != m {
							t.Fatal(typ, enc, c, got)
						}
					}
				}
			}
		}
	}
	if taken < 100 {
		t.Error("the test takes few", taken)
	}
}
