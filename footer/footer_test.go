package footer

import (
	"bytes"
	"encoding/binary"
	"fmt"
	"math/rand"
	"reflect"
	"slices"
	"testing"

	"hypostyle/api"
	"hypostyle/schema"
	"hypostyle/stat"
)

func num(n int) api.Cell { return api.Cell{Int: n} }

func has(nulls, low, high int) api.Stat {
	return api.Stat{Nulls: nulls, Has: true, Min: num(low), Max: num(high)}
}

// someStat makes a stat that a page of a column and rows may have.
func someStat(r *rand.Rand, col api.Col, rows int) api.Stat {
	var l []api.Cell
	for k := range rows {
		switch x := r.Intn(6); {
		case col.Nullable && x < 3:
			l = append(l, api.Cell{Null: true})
		case col.Type == api.TypeInt:
			l = append(l, num(x*k))
		case col.Type == api.TypeBool:
			l = append(l, num(x&1))
		case col.Type == api.TypeText:
			l = append(l, api.Cell{Text: fmt.Sprint(x)})
		default:
			l = append(l, api.Cell{At: api.Point{X: x, Y: k}})
		}
	}
	return stat.Of(col.Type, l)
}

// someFooter makes a right footer.
func someFooter(r *rand.Rand, cols, groups int) api.Footer {
	var f api.Footer
	for k := range cols {
		f.Cols = append(f.Cols, api.Col{Name: fmt.Sprint("c", k), Type: r.Intn(4), Nullable: r.Intn(2) == 0})
	}
	for range groups {
		g := api.Group{Rows: 1 + r.Intn(9)}
		for _, col := range f.Cols {
			var pages []api.PageInfo
			for left := g.Rows; left > 0; {
				n := 1 + r.Intn(left)
				pages = append(pages, api.PageInfo{Size: 1 + r.Intn(1<<r.Intn(20)), Rows: n, Stat: someStat(r, col, n)})
				left -= n
			}
			g.Chunks = append(g.Chunks, pages)
		}
		f.Rows += g.Rows
		f.Groups = append(f.Groups, g)
	}
	return f
}

// laid is the chapter's Encode of a right footer, and bytes near these of a wrong one.
func laid(f api.Footer) []byte {
	put := func(b []byte, n int) []byte { return binary.AppendUvarint(b, uint64(n)) }
	b := put(put(schema.Put(nil, f.Cols), f.Rows), len(f.Groups))
	for _, g := range f.Groups {
		b = put(b, g.Rows)
		for c, pages := range g.Chunks {
			b = put(b, len(pages))
			typ := api.TypeInt
			if c < len(f.Cols) {
				typ = f.Cols[c].Type
			}
			for _, p := range pages {
				b = append(put(put(b, p.Size), p.Rows), stat.Put(nil, typ, p.Stat)...)
			}
		}
	}
	return b
}

// two is a right footer of two groups and two columns, of which the second may have nulls.
func two() api.Footer {
	return api.Footer{Cols: []api.Col{{Name: "a"}, {Name: "b", Nullable: true}}, Rows: 5, Groups: []api.Group{
		{Rows: 3, Chunks: [][]api.PageInfo{{{Size: 10, Rows: 2, Stat: has(0, 1, 2)}, {Size: 20, Rows: 1, Stat: has(0, 7, 7)}}, {{Size: 30, Rows: 3, Stat: has(2, 5, 5)}}}},
		{Rows: 2, Chunks: [][]api.PageInfo{{{Size: 40, Rows: 2, Stat: has(0, 3, 4)}}, {{Size: 50, Rows: 1, Stat: api.Stat{Nulls: 1}}, {Size: 60, Rows: 1, Stat: has(0, 9, 9)}}}},
	}}
}

func TestP19_1RightWrong(t *testing.T) {
	page := func(f *api.Footer, g, c, p int) *api.PageInfo { return &f.Groups[g].Chunks[c][p] }
	for name, change := range map[string]func(f *api.Footer){
		"a column's name":        func(f *api.Footer) { f.Cols[1].Name = "a" },
		"a column's type":        func(f *api.Footer) { f.Cols[1].Type = 4 },
		"another column's type":  func(f *api.Footer) { f.Cols[1].Type = api.TypeText },
		"a column more":          func(f *api.Footer) { f.Cols = append(f.Cols, api.Col{Name: "c"}) },
		"a column less":          func(f *api.Footer) { f.Cols = f.Cols[:1] },
		"rows":                   func(f *api.Footer) { f.Rows = 6 },
		"rows below 0":           func(f *api.Footer) { f.Rows = -1 },
		"a group of no rows":     func(f *api.Footer) { f.Groups[0].Rows, f.Rows = 0, 2 },
		"a group less than none": func(f *api.Footer) { f.Groups[0].Rows, f.Rows = -3, -1 },
		"a group's rows":         func(f *api.Footer) { f.Groups[0].Rows, f.Rows = 4, 6 },
		"an empty group":         func(f *api.Footer) { f.Groups = append(f.Groups, api.Group{Chunks: make([][]api.PageInfo, 2)}) },
		"a chunk less":           func(f *api.Footer) { f.Groups[1].Chunks = f.Groups[1].Chunks[:1] },
		"a chunk more":           func(f *api.Footer) { f.Groups[1].Chunks = append(f.Groups[1].Chunks, nil) },
		"a chunk without pages":  func(f *api.Footer) { f.Groups[1].Chunks[1] = nil },
		"a page of no rows":      func(f *api.Footer) { page(f, 0, 0, 0).Rows, page(f, 0, 0, 1).Rows = 3, 0 },
		"a page of nothing": func(f *api.Footer) {
			f.Groups[0].Chunks[0] = append(f.Groups[0].Chunks[0], api.PageInfo{Size: 1})
		},
		"a page less than none": func(f *api.Footer) { page(f, 0, 0, 0).Rows, page(f, 0, 0, 1).Rows = 4, -1 },
		"a page's rows":         func(f *api.Footer) { page(f, 0, 0, 0).Rows = 1 },
		"a page more": func(f *api.Footer) {
			f.Groups[0].Chunks[0] = append(f.Groups[0].Chunks[0], api.PageInfo{Size: 1, Rows: 1, Stat: has(0, 1, 1)})
		},
		"rows that wrap round": func(f *api.Footer) { page(f, 0, 0, 0).Rows, page(f, 0, 0, 1).Rows = api.MaxInt, api.MinInt+4 },
		"a size of 0":          func(f *api.Footer) { page(f, 1, 0, 0).Size = 0 },
		"a size below 0":       func(f *api.Footer) { page(f, 1, 0, 0).Size = -5 },
		"a size too great":     func(f *api.Footer) { page(f, 1, 0, 0).Size = 1<<28 + 1 },
		"sizes that wrap round": func(f *api.Footer) {
			page(f, 1, 0, 0).Size, page(f, 1, 1, 0).Size = api.MaxInt, api.MinInt
		},
		"a wrong stat":           func(f *api.Footer) { page(f, 1, 0, 0).Stat = has(0, 4, 3) },
		"a stat of another type": func(f *api.Footer) { page(f, 1, 0, 0).Stat.Max = api.Cell{Text: "x"} },
		"more nulls than rows":   func(f *api.Footer) { page(f, 1, 1, 0).Stat.Nulls = 2 },
		"nulls and more":         func(f *api.Footer) { page(f, 1, 1, 0).Stat = has(1, 1, 1) },
		"nothing, and no nulls":  func(f *api.Footer) { page(f, 1, 1, 1).Stat = api.Stat{} },
		"nulls where none may be": func(f *api.Footer) {
			page(f, 0, 0, 0).Stat = has(1, 1, 1)
		},
		"all null where none may be": func(f *api.Footer) { page(f, 0, 0, 1).Stat = api.Stat{Nulls: 1} },
	} {
		f := two()
		if !Right(f) {
			t.Fatal("the footer that is changed is wrong")
		}
		change(&f)
		if Right(f) {
			t.Error(name, "is right")
		}
		if b, ok := Encode(f); ok || len(b) != 0 {
			t.Error(name, "is encoded", b)
		}
		if l := Spans(f, 0, 0); len(l) != 0 || Place(f, 0, 0, 0) != -1 || Place(f, len(f.Groups), 0, 0) != -1 {
			t.Error(name, "has spans, or places")
		}
		if got, ok := Decode(laid(f)); ok || !reflect.DeepEqual(got, api.Footer{}) {
			t.Error(name, "is decoded", got)
		}
	}
}

// full makes a footer of one column whose pages have these sizes, a row each.
func full(sizes ...int) api.Footer {
	f := api.Footer{Cols: []api.Col{{Name: "a"}}}
	for _, n := range sizes {
		f.Groups = append(f.Groups, api.Group{Rows: 1, Chunks: [][]api.PageInfo{{{Size: n, Rows: 1, Stat: has(0, 0, 0)}}}})
		f.Rows++
	}
	return f
}

func TestP19_1RightLimits(t *testing.T) {
	const most = 1 << 28
	wide := api.Footer{Cols: []api.Col{{Name: "a"}, {Name: "b"}}, Rows: 1, Groups: []api.Group{{Rows: 1, Chunks: [][]api.PageInfo{{{Size: 1, Rows: 1, Stat: has(0, 0, 0)}}, {{Size: most, Rows: 1, Stat: has(0, 0, 0)}}}}}}
	long := api.Footer{Rows: 65536, Groups: []api.Group{{Rows: 65535}, {Rows: 1}}}
	longer := api.Footer{Rows: 65537, Groups: []api.Group{{Rows: 65536}, {Rows: 1}}}
	far := api.Footer{Rows: 2, Groups: []api.Group{{Rows: api.MaxInt}, {Rows: api.MaxInt}, {Rows: 4}}}
	for name, x := range map[string]struct {
		f    api.Footer
		want bool
	}{
		"nothing": {api.Footer{}, true}, "nothing, but rows": {api.Footer{Rows: 1}, false}, "columns alone": {api.Footer{Cols: two().Cols}, true}, "two": {two(), true},
		"all bytes": {full(most, most, most, most), true}, "more bytes": {full(most, most, most, most, 1), false}, "just all bytes": {full(most, most, most, most-1, 1), true}, "a byte": {full(1), true},
		"two columns": {wide, true}, "all rows": {long, true}, "more rows": {longer, false}, "rows that wrap round": {far, false}, "a row each": {full(slices.Repeat([]int{1}, 65536)...), true}, "a row each, and one": {full(slices.Repeat([]int{1}, 65537)...), false},
	} {
		if Right(x.f) != x.want {
			t.Error(name)
		}
		b, ok := Encode(x.f)
		if ok != x.want || ok && !bytes.Equal(b, laid(x.f)) || !ok && len(b) != 0 {
			t.Error(name, len(b), ok)
		}
		if _, ok := Decode(laid(x.f)); ok != x.want {
			t.Error(name, "decoded", ok)
		}
	}
}

func TestP19_1Encode(t *testing.T) {
	if b, ok := Encode(api.Footer{}); !ok || !bytes.Equal(b, []byte{0, 0, 0}) {
		t.Error(b, ok)
	}
	if b, ok := Encode(full(300)); !ok || !bytes.Equal(b, append([]byte{1, 1, 'a', 0, 0, 1, 1, 1, 1, 0xac, 2, 1, 0, 1, 16}, make([]byte, 16)...)) {
		t.Error(b, ok)
	}
	r := rand.New(rand.NewSource(1))
	for range 100 {
		f := someFooter(r, r.Intn(5), r.Intn(4))
		if b, ok := Encode(f); !ok || !bytes.Equal(b, laid(f)) {
			t.Fatal(f, b, ok)
		}
	}
}

// plain makes lists of nothing nil, as which they count.
func plain(f api.Footer) api.Footer {
	if len(f.Cols) == 0 {
		f.Cols = nil
	}
	for k := range f.Groups {
		if len(f.Groups[k].Chunks) == 0 {
			f.Groups[k].Chunks = nil
		}
	}
	if len(f.Groups) == 0 {
		f.Groups = nil
	}
	return f
}

func TestP19_2Decode(t *testing.T) {
	for _, b := range [][]byte{nil, {0}, {0, 0}, {0, 0, 0, 0}, {0, 1, 0}, {0, 0, 1}, {0, 1, 1}, {0, 1, 2, 1, 0}, {0, 0x80, 0, 0}, {0, 1, 1, 1, 1}, {65}, {0, 255, 255, 255, 255, 255, 255, 255, 255, 255, 1, 0}, {0, 2, 255, 255, 255, 255, 255, 255, 255, 255, 255, 1}, bytes.Repeat([]byte{1}, 50)} {
		if f, ok := Decode(b); ok || !reflect.DeepEqual(f, api.Footer{}) {
			t.Error(b, f)
		}
	}
	if f, ok := Decode([]byte{0, 3, 2, 1, 2}); !ok || !reflect.DeepEqual(plain(f), api.Footer{Rows: 3, Groups: []api.Group{{Rows: 1}, {Rows: 2}}}) {
		t.Error("no columns", f, ok)
	}
}

func TestP19_3Spans(t *testing.T) {
	f := two()
	for _, x := range []struct {
		g, c int
		want []api.Span
	}{
		{0, 0, []api.Span{{From: 0, To: 2}, {From: 2, To: 3}}}, {0, 1, []api.Span{{From: 0, To: 3}}}, {1, 0, []api.Span{{From: 3, To: 5}}}, {1, 1, []api.Span{{From: 3, To: 4}, {From: 4, To: 5}}},
		{2, 0, nil}, {0, 2, nil}, {-1, 0, nil}, {0, -1, nil}, {api.MaxInt, 0, nil}, {api.MinInt, api.MinInt, nil},
	} {
		if got := Spans(f, x.g, x.c); !slices.Equal(got, x.want) {
			t.Error(x.g, x.c, got)
		}
	}
}

func TestP19_4Place(t *testing.T) {
	f := two()
	for _, x := range [][4]int{
		{0, 0, 0, 0}, {0, 0, 1, 10}, {0, 1, 0, 30}, {1, 0, 0, 60}, {1, 1, 0, 100}, {1, 1, 1, 150}, {2, 0, 0, 210},
		{0, 0, 2, -1}, {0, 0, -1, -1}, {0, 2, 0, -1}, {0, -1, 0, -1}, {-1, 0, 0, -1}, {2, 1, 0, -1}, {2, 0, 1, -1}, {3, 0, 0, -1}, {api.MaxInt, 0, 0, -1}, {api.MinInt, 0, 0, -1}, {1, 1, api.MaxInt, -1},
	} {
		if got := Place(f, x[0], x[1], x[2]); got != x[3] {
			t.Error(x, got)
		}
	}
	if Place(api.Footer{}, 0, 0, 0) != 0 || Place(api.Footer{Rows: 1, Groups: []api.Group{{Rows: 1}}}, 0, 0, 0) != -1 || Place(api.Footer{Rows: 1, Groups: []api.Group{{Rows: 1}}}, 1, 0, 0) != 0 {
		t.Error("of no pages")
	}
}

func TestP19_5NothingIsShared(t *testing.T) {
	f := two()
	b, _ := Encode(f)
	room := append(bytes.Clone(b), 9)
	got, _ := Decode(room[:len(b)])
	got.Cols[0].Name, got.Groups[0].Chunks[0][0].Size = "x", 99
	_, _, _, _ = append(got.Cols, api.Col{}), append(got.Groups, api.Group{}), append(got.Groups[0].Chunks, nil), append(got.Groups[0].Chunks[0], api.PageInfo{})
	Spans(f, 0, 0)[0] = api.Span{}
	Place(f, 1, 1, 1)
	if !reflect.DeepEqual(f, two()) || !bytes.Equal(room, append(b, 9)) || !reflect.DeepEqual(got.Groups[0].Chunks[1:], two().Groups[0].Chunks[1:]) || !reflect.DeepEqual(got.Groups[1], two().Groups[1]) {
		t.Error(f, room, got)
	}
}

func TestP19_6OneForm(t *testing.T) {
	r := rand.New(rand.NewSource(2))
	taken := 0
	for range 150 {
		f := someFooter(r, r.Intn(4), r.Intn(4))
		b, _ := Encode(f)
		if got, ok := Decode(b); !ok || !reflect.DeepEqual(plain(got), plain(f)) {
			t.Fatal(f, got, ok)
		}
		at := 0
		for g := range f.Groups {
			for c := range f.Cols {
				for p, info := range f.Groups[g].Chunks[c] {
					if Place(f, g, c, p) != at {
						t.Fatal(f, g, c, p, at)
					}
					at += info.Size
				}
			}
		}
		if Place(f, len(f.Groups), 0, 0) != at {
			t.Fatal(f, at)
		}
		for range 100 {
			wrong := bytes.Clone(b)
			wrong[r.Intn(len(b))] ^= 1 << r.Intn(8)
			if got, ok := Decode(wrong); ok {
				taken++
				if again, is := Encode(got); !is || !bytes.Equal(again, wrong) {
					t.Fatal(wrong, got)
				}
			}
		}
	}
	if taken < 100 {
		t.Error("the test takes few", taken)
	}
}
