package file

import (
	"bytes"
	"encoding/binary"
	"fmt"
	"math/rand"
	"reflect"
	"slices"
	"strings"
	"testing"

	"hypostyle/api"
	"hypostyle/cell"
	"hypostyle/footer"
	"hypostyle/page"
	"hypostyle/stat"
	"hypostyle/values"
)

func num(n int) api.Cell     { return api.Cell{Int: n} }
func text(s string) api.Cell { return api.Cell{Text: s} }

// someTable makes a right table.
func someTable(r *rand.Rand, cols, rows int) api.Table {
	out := api.Table{Rows: rows}
	for k := range cols {
		c := api.Col{Name: fmt.Sprint("c", k), Type: r.Intn(4), Nullable: r.Intn(2) == 0}
		cells := make([]api.Cell, rows)
		for row := range cells {
			switch x := r.Intn(12); {
			case c.Nullable && x < 3:
				cells[row] = api.Cell{Null: true}
			case c.Type == api.TypeInt:
				cells[row] = num(x * row)
			case c.Type == api.TypeBool:
				cells[row] = num(x & 1)
			case c.Type == api.TypeText:
				cells[row] = text(strings.Repeat("xy", x/3))
			default:
				cells[row] = api.Cell{At: api.Point{X: x, Y: row}}
			}
		}
		out.Cols = append(out.Cols, c)
		out.Data = append(out.Data, cells)
	}
	return out
}

// someConf makes a conf that fits a table.
func someConf(r *rand.Rand, t api.Table) api.Conf {
	c := api.Conf{GroupRows: 1 + r.Intn(t.Rows+2), PageRows: 1 + r.Intn(t.Rows+2)}
	for _, col := range t.Cols {
		enc := r.Intn(6) - 1
		for enc != api.EncBest && !values.Fits(col.Type, enc) {
			enc = r.Intn(6) - 1
		}
		c.Encs = append(c.Encs, enc)
	}
	return c
}

// laid is the chapter's file, and its footer and pages, of a right table.
func laid(t api.Table, conf api.Conf) ([]byte, api.Footer, [][]byte) {
	f := api.Footer{Cols: t.Cols, Rows: t.Rows}
	var pages [][]byte
	for from := 0; from < t.Rows; from += conf.GroupRows {
		to := min(from+conf.GroupRows, t.Rows)
		g := api.Group{Rows: to - from}
		for c, col := range t.Cols {
			var infos []api.PageInfo
			for at := from; at < to; at += conf.PageRows {
				cells := t.Data[c][at:min(at+conf.PageRows, to)]
				b, _ := page.Encode(col, conf.Encs[c], cells)
				pages = append(pages, b)
				infos = append(infos, api.PageInfo{Size: len(b), Rows: len(cells), Stat: stat.Of(col.Type, cells)})
			}
			g.Chunks = append(g.Chunks, infos)
		}
		f.Groups = append(f.Groups, g)
	}
	return join(f, pages), f, pages
}

// join lays a file of a footer and pages.
func join(f api.Footer, pages [][]byte) []byte {
	own, _ := footer.Encode(f)
	return frameOf(slices.Concat(pages...), own)
}

func frameOf(body, own []byte) []byte {
	b := slices.Concat([]byte("HYPO"), body, own)
	return append(binary.LittleEndian.AppendUint32(b, uint32(len(own))), "OPYH"...)
}

// alike tells whether tables are the same, lists of nothing being all the same.
func alike(a, b api.Table) bool {
	return a.Rows == b.Rows && slices.Equal(a.Cols, b.Cols) && slices.EqualFunc(a.Data, b.Data, slices.Equal[[]api.Cell])
}

func TestP20_1Write(t *testing.T) {
	if b, err := Write(api.Table{}, api.Conf{GroupRows: 1, PageRows: 1}); err != api.OK || !bytes.Equal(b, []byte("HYPO\x00\x00\x00\x03\x00\x00\x00OPYH")) {
		t.Error(b, err)
	}
	small := api.Table{Cols: []api.Col{{Name: "a", Type: api.TypeBool}}, Rows: 3, Data: [][]api.Cell{{num(1), num(0), num(1)}}}
	want := "HYPO" + "\x00\x02\x01" + "\x00\x01\x01" + "\x01\x01a\x01\x00" + "\x03\x01" + "\x03\x02" + "\x03\x02\x00\x01\x01\x02" + "\x03\x01\x00\x01\x01\x03" + "\x15\x00\x00\x00OPYH"
	if b, err := Write(small, api.Conf{GroupRows: 9, PageRows: 2, Encs: []int{api.EncPlain}}); err != api.OK || string(b) != want {
		t.Errorf("%q %v", b, err)
	}
	r := rand.New(rand.NewSource(1))
	for range 150 {
		table := someTable(r, r.Intn(5), r.Intn(30))
		conf := someConf(r, table)
		b, err := Write(table, conf)
		want, _, _ := laid(table, conf)
		if err != api.OK || !bytes.Equal(b, want) {
			t.Fatal(table, conf, b, err)
		}
	}
}

func TestP20_1WriteWrong(t *testing.T) {
	ok := func() (api.Table, api.Conf) {
		return someTable(rand.New(rand.NewSource(2)), 3, 8), api.Conf{GroupRows: 3, PageRows: 2, Encs: []int{api.EncBest, api.EncPlain, api.EncDict}}
	}
	long := func(n int) api.Table { return texts(slices.Repeat([]string{strings.Repeat("x", 65536)}, n)...) }
	for name, x := range map[string]struct {
		change func(t *api.Table, c *api.Conf)
		want   api.Errno
	}{
		"right":                     {func(t *api.Table, c *api.Conf) {}, api.OK},
		"a name, and no conf":       {func(t *api.Table, c *api.Conf) { t.Cols[0].Name = ""; *c = api.Conf{} }, api.ErrArg},
		"a type, and no conf":       {func(t *api.Table, c *api.Conf) { t.Cols[0].Type = 5; *c = api.Conf{} }, api.ErrType},
		"cells, and no conf":        {func(t *api.Table, c *api.Conf) { t.Data[0] = t.Data[0][1:]; *c = api.Conf{} }, api.ErrForm},
		"rows, and no conf":         {func(t *api.Table, c *api.Conf) { t.Rows = 65537; *c = api.Conf{} }, api.ErrFull},
		"a wrong cell, and no conf": {func(t *api.Table, c *api.Conf) { t.Data[0][0] = api.Cell{Int: 1, Text: "a"}; *c = api.Conf{} }, api.ErrType},
		"no group":                  {func(t *api.Table, c *api.Conf) { c.GroupRows = 0 }, api.ErrArg},
		"too much a page":           {func(t *api.Table, c *api.Conf) { c.PageRows = 65537 }, api.ErrArg},
		"an encoding less":          {func(t *api.Table, c *api.Conf) { c.Encs = c.Encs[:2] }, api.ErrArg},
		"no encoding":               {func(t *api.Table, c *api.Conf) { c.Encs[0] = 5 }, api.ErrType},
		"too much to share": {func(t *api.Table, c *api.Conf) {
			*t, c.Encs = long(257), []int{api.EncFront}
			c.GroupRows, c.PageRows = 257, 257
		}, api.ErrFull},
		"much to share, in two pages": {func(t *api.Table, c *api.Conf) {
			*t, c.Encs = long(257), []int{api.EncFront}
			c.GroupRows, c.PageRows = 257, 256
		}, api.OK},
		"a page too great": {func(t *api.Table, c *api.Conf) {
			*t, c.Encs = long(4096), []int{api.EncPlain}
			c.GroupRows, c.PageRows = 4096, 4096
		}, api.ErrFull},
		"as many texts, by places": {func(t *api.Table, c *api.Conf) {
			*t, c.Encs = long(4096), []int{api.EncDict}
			c.GroupRows, c.PageRows = 4096, 4096
		}, api.OK},
	} {
		table, conf := ok()
		x.change(&table, &conf)
		b, err := Write(table, conf)
		if err != x.want || err != api.OK && len(b) != 0 {
			t.Error(name, len(b), err)
		}
	}
}

// texts makes a table of one column of such texts.
func texts(l ...string) api.Table {
	t := api.Table{Cols: []api.Col{{Name: "a", Type: api.TypeText}}, Rows: len(l), Data: [][]api.Cell{nil}}
	for _, s := range l {
		t.Data[0] = append(t.Data[0], text(s))
	}
	return t
}

// A page of 2^28 bytes is one, and four of these are as many as there may be; a byte more is refused, and so is a footer of more than 2^30.
func TestP20_1WriteFull(t *testing.T) {
	if testing.Short() {
		t.Skip("makes files of a gigabyte")
	}
	// A page of these has 3 bytes, and of each text 3 more than itself.
	long := strings.Repeat("x", 65536)
	full := append(slices.Repeat([]string{long[:65533]}, 4095), long[:65530])
	more := append(slices.Repeat([]string{long[:65533]}, 4095), long[:65531])
	conf := api.Conf{GroupRows: 65536, PageRows: 4096, Encs: []int{api.EncPlain}}
	for name, x := range map[string]struct {
		l    []string
		want api.Errno
	}{
		"a full page": {full, api.OK}, "a page too great": {more, api.ErrFull},
		"a full file": {slices.Repeat(full, 4), api.OK}, "a file too great": {append(slices.Repeat(full, 4), ""), api.ErrFull},
	} {
		b, err := Write(texts(x.l...), conf)
		if err != x.want || err != api.OK && len(b) != 0 {
			t.Error(name, len(b), err)
		}
		if err == api.OK {
			f, _, is := Open(b)
			if p := f.Groups[0].Chunks[0]; is != api.OK || p[len(p)-1].Size != 1<<28 {
				t.Error(name, is, "the page is not full")
			}
		}
	}
	// A page of one text tells it once, its stat twice: pages of half of the limit have a footer beyond it.
	conf.PageRows = 1
	if b, err := Write(texts(slices.Repeat([]string{long}, 8192)...), conf); err != api.ErrFull || len(b) != 0 {
		t.Error("a footer too great", len(b), err)
	}
}

func TestP20_2Open(t *testing.T) {
	r := rand.New(rand.NewSource(3))
	for range 100 {
		table := someTable(r, r.Intn(5), r.Intn(30))
		b, f, pages := laid(table, someConf(r, table))
		got, own, err := Open(b)
		want, _ := footer.Encode(f)
		if again, ok := footer.Encode(got); err != api.OK || !ok || !bytes.Equal(again, want) || !bytes.Equal(own, want) {
			t.Fatal(got, own, err)
		}
		k := 0
		for g := range f.Groups {
			for c := range f.Cols {
				for p := range f.Groups[g].Chunks[c] {
					if x, ok := Page(b, got, g, c, p); !ok || !bytes.Equal(x, pages[k]) {
						t.Fatal(g, c, p, x, ok)
					}
					k++
				}
				for _, p := range []int{-1, len(f.Groups[g].Chunks[c]), api.MaxInt, api.MinInt} {
					if x, ok := Page(b, got, g, c, p); ok || len(x) != 0 {
						t.Fatal(g, c, p, x)
					}
				}
			}
		}
		for _, x := range [][3]int{{len(f.Groups), 0, 0}, {-1, 0, 0}, {0, len(f.Cols), 0}, {0, -1, 0}, {api.MaxInt, api.MaxInt, api.MaxInt}, {api.MinInt, 0, 0}} {
			if b, ok := Page(b, got, x[0], x[1], x[2]); ok || len(b) != 0 {
				t.Fatal(x, b)
			}
		}
	}
}

func TestP20_2OpenWrong(t *testing.T) {
	table := someTable(rand.New(rand.NewSource(4)), 3, 9)
	good, f, pages := laid(table, api.Conf{GroupRows: 4, PageRows: 3, Encs: []int{-1, -1, -1}})
	body := slices.Concat(pages...)
	own, _ := footer.Encode(f)
	size := func(n int) []byte {
		b := bytes.Clone(good)
		binary.LittleEndian.PutUint32(b[len(b)-8:], uint32(n))
		return b
	}
	for name, b := range map[string][]byte{
		"nothing": nil, "a head": []byte("HYPO"), "head and tail": []byte("HYPOOPYH"), "no footer": []byte("HYPO\x00\x00\x00\x00OPYH"), "another head": append([]byte("hYPO"), good[4:]...), "another tail": append(bytes.Clone(good[:len(good)-1]), 'h'),
		"a byte ahead": append([]byte{0}, good...), "a byte behind": append(bytes.Clone(good), 0), "a byte less": good[:len(good)-1], "a byte of pages less": frameOf(body[1:], own), "a byte of pages more": frameOf(append([]byte{0}, body...), own),
		"a byte of the footer less": frameOf(body, own[:len(own)-1]), "a byte of the footer more": frameOf(body, append(bytes.Clone(own), 0)), "another size": size(len(own) + 1), "a lesser size": size(len(own) - 1), "a size of all": size(len(good) - 12), "a size beyond": size(len(good) - 11), "the greatest size": size(1<<32 - 1), "no size": size(0),
		"pages, but an empty footer": frameOf(body, []byte{0, 0, 0}), "a footer alone": frameOf(nil, own), "tail within head": []byte("HYPOPYH"), "short": []byte("HYPO\x00\x00OPYH"), "empty names": []byte(strings.Repeat("\x00", 15)),
	} {
		got, bytes, err := Open(b)
		if err != api.ErrForm || len(bytes) != 0 || !reflect.DeepEqual(got, api.Footer{}) {
			t.Error(name, got, bytes, err)
		}
		if got, err := Read(b); err != api.ErrForm || !reflect.DeepEqual(got, api.Table{}) {
			t.Error(name, got, err)
		}
	}
}

// Of other bytes and footers there are any bytes, or none, but no panic.
func TestP20_2PageOfOthers(t *testing.T) {
	r := rand.New(rand.NewSource(5))
	for range 100 {
		a, b := someTable(r, 2, 9), someTable(r, 2, 9)
		x, _, _ := laid(a, someConf(r, a))
		_, f, _ := laid(b, someConf(r, b))
		for n := range x {
			if got, ok := Page(x[:n:n], f, 0, 1, 0); ok && !bytes.Contains(x, got) {
				t.Fatal(got)
			}
		}
		f.Rows++
		if got, ok := Page(x, f, 0, 0, 0); ok {
			t.Fatal(got)
		}
	}
}

func TestP20_3Table(t *testing.T) {
	r := rand.New(rand.NewSource(6))
	for range 100 {
		table := someTable(r, r.Intn(5), r.Intn(30))
		_, f, pages := laid(table, someConf(r, table))
		if got, err := Table(f, pages); err != api.OK || !alike(got, table) {
			t.Fatal(table, got, err)
		}
	}
}

func TestP20_3TableWrong(t *testing.T) {
	table := api.Table{Cols: []api.Col{{Name: "a"}, {Name: "b", Type: api.TypeText, Nullable: true}}, Rows: 4, Data: [][]api.Cell{{num(1), num(2), num(3), num(4)}, {text("a"), {Null: true}, text("c"), text("d")}}}
	conf := api.Conf{GroupRows: 3, PageRows: 2, Encs: []int{api.EncPlain, api.EncPlain}}
	encode := func(col api.Col, l ...api.Cell) []byte {
		b, _ := page.Encode(col, api.EncPlain, l)
		return b
	}
	for name, change := range map[string]func(f *api.Footer, pages *[][]byte){
		"a wrong footer":         func(f *api.Footer, pages *[][]byte) { f.Rows = 5 },
		"a page less":            func(f *api.Footer, pages *[][]byte) { *pages = (*pages)[:5] },
		"a page more":            func(f *api.Footer, pages *[][]byte) { *pages = append(*pages, nil) },
		"no pages":               func(f *api.Footer, pages *[][]byte) { *pages = nil },
		"another page":           func(f *api.Footer, pages *[][]byte) { (*pages)[0], (*pages)[2] = (*pages)[2], (*pages)[0] },
		"a longer page":          func(f *api.Footer, pages *[][]byte) { (*pages)[5] = append((*pages)[5], 0) },
		"a shorter page":         func(f *api.Footer, pages *[][]byte) { (*pages)[5] = (*pages)[5][1:] },
		"an empty page":          func(f *api.Footer, pages *[][]byte) { (*pages)[0] = nil },
		"another encoding":       func(f *api.Footer, pages *[][]byte) { (*pages)[5][0] = 4 },
		"a size that is not its": func(f *api.Footer, pages *[][]byte) { f.Groups[1].Chunks[1][0].Size++ },
		"other numbers":          func(f *api.Footer, pages *[][]byte) { (*pages)[0] = encode(table.Cols[0], num(1), num(5)) },
		"other nulls": func(f *api.Footer, pages *[][]byte) {
			f.Groups[0].Chunks[1][0].Stat = stat.Of(api.TypeText, []api.Cell{text("a")})
		},
		"a wider stat": func(f *api.Footer, pages *[][]byte) { f.Groups[0].Chunks[0][0].Stat.Max = num(3) },
		"a cell less": func(f *api.Footer, pages *[][]byte) {
			(*pages)[0] = encode(table.Cols[0], num(1))
			f.Groups[0].Chunks[0][0].Size, f.Groups[0].Chunks[0][0].Stat.Max = len((*pages)[0]), num(1)
		},
		"a cell more": func(f *api.Footer, pages *[][]byte) {
			(*pages)[0] = encode(table.Cols[0], num(1), num(2), num(2))
			f.Groups[0].Chunks[0][0].Size = len((*pages)[0])
		},
		"another column's name twice": func(f *api.Footer, pages *[][]byte) { f.Cols[1].Name = "a" },
	} {
		_, f, pages := laid(table, conf)
		f.Cols = slices.Clone(f.Cols)
		if got, err := Table(f, pages); err != api.OK || !alike(got, table) {
			t.Fatal("what is changed is wrong", got, err)
		}
		change(&f, &pages)
		if got, err := Table(f, pages); err != api.ErrForm || !reflect.DeepEqual(got, api.Table{}) {
			t.Error(name, got, err)
		}
	}
	// Pages in the same places whose rows are exchanged have the same bytes in all, and another order of cells: that is another table, no error.
	_, f, pages := laid(table, conf)
	pages[0] = encode(table.Cols[0], num(2), num(1))
	if got, err := Table(f, pages); err != api.OK || got.Data[0][0] != num(2) {
		t.Error(got, err)
	}
}

func TestP20_4NothingIsShared(t *testing.T) {
	r := rand.New(rand.NewSource(7))
	table := someTable(r, 3, 9)
	again := api.Table{Cols: slices.Clone(table.Cols), Rows: 9}
	for _, cells := range table.Data {
		again.Data = append(again.Data, slices.Clone(cells))
	}
	conf := api.Conf{GroupRows: 5, PageRows: 2, Encs: []int{-1, -1, -1}}
	b, _ := Write(table, conf)
	room := append(bytes.Clone(b), 9)
	f, own, _ := Open(room[:len(b)])
	x, _ := Page(room[:len(b)], f, 0, 0, 0)
	own[0], x[0] = 99, 99
	_, _ = append(own, 9), append(x, 9)
	got, _ := Read(room[:len(b)])
	got.Cols[0].Name, got.Data[0][0] = "x", text("x")
	_ = append(got.Data[0], text("x"))
	_, want, pages := laid(table, conf)
	two, _ := Table(want, pages)
	two.Cols[0].Name = "x"
	if !reflect.DeepEqual(table, again) || !bytes.Equal(room, append(b, 9)) || got.Data[1][0] != table.Data[1][0] || want.Cols[0].Name != "c0" {
		t.Error("something is shared")
	}
	room[4] = 99
	if p, _ := Page(b, f, 0, 0, 0); p[0] == 99 {
		t.Error("a footer shares with bytes")
	}
}

func TestP20_5Round(t *testing.T) {
	r := rand.New(rand.NewSource(8))
	taken := 0
	for range 100 {
		table := someTable(r, r.Intn(5), r.Intn(30))
		b, _ := Write(table, someConf(r, table))
		if got, err := Read(b); err != api.OK || !alike(got, table) {
			t.Fatal(table, got, err)
		}
		for range 60 {
			wrong := bytes.Clone(b)
			wrong[r.Intn(len(b))] ^= 1 << r.Intn(8)
			if got, err := Read(wrong); err == api.OK {
				taken++
				if cell.Check(got) != api.OK {
					t.Fatal("what is read is no table", got)
				}
			} else if err != api.ErrForm || !reflect.DeepEqual(got, api.Table{}) {
				t.Fatal(got, err)
			}
		}
	}
	if taken < 10 {
		t.Error("the test takes few", taken)
	}
}

// A table at the limit of rows, a row a page, is written and read in a time that does not grow with the square of its pages.
func TestP20_5ManyPages(t *testing.T) {
	cells := make([]api.Cell, 65536)
	for k := range cells {
		cells[k] = num(k)
	}
	table := api.Table{Cols: []api.Col{{Name: "a"}}, Rows: 65536, Data: [][]api.Cell{cells}}
	for _, conf := range []api.Conf{{GroupRows: 1, PageRows: 1, Encs: []int{0}}, {GroupRows: 65536, PageRows: 1, Encs: []int{0}}, {GroupRows: 65536, PageRows: 65536, Encs: []int{-1}}} {
		b, err := Write(table, conf)
		if err != api.OK {
			t.Fatal(err)
		}
		if got, err := Read(b); err != api.OK || !alike(got, table) {
			t.Error(err)
		}
	}
}
