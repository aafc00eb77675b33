package client

import (
	"bytes"
	"encoding/binary"
	"fmt"
	"math/rand"
	"reflect"
	"slices"
	"strings"
	"testing"

	"hypostyle/api"
	"hypostyle/cell"
	"hypostyle/file"
	"hypostyle/footer"
	"hypostyle/page"
	"hypostyle/pick"
	"hypostyle/proof"
	"hypostyle/query"
	"hypostyle/roots"
	"hypostyle/serve"
	"hypostyle/stat"
	"hypostyle/tag"
	"hypostyle/tree"
	"hypostyle/values"
)

func ask(from, to int, cols ...int) api.Query { return api.Query{Cols: cols, From: from, To: to} }

func asked(q api.Query) []byte {
	b, ok := query.Encode(q)
	if !ok {
		panic("no query")
	}
	return b
}

// someTable makes a right table.
func someTable(r *rand.Rand, cols, rows int) api.Table {
	out := api.Table{Rows: rows}
	for k := range cols {
		c := api.Col{Name: fmt.Sprint("c", k), Type: r.Intn(4), Nullable: r.Intn(2) == 0}
		cells := make([]api.Cell, rows)
		for row := range cells {
			switch x := r.Intn(12); {
			case c.Nullable && x < 3:
				cells[row] = api.Cell{Null: true}
			case c.Type == api.TypeInt:
				cells[row].Int = x * row
			case c.Type == api.TypeBool:
				cells[row].Int = x & 1
			case c.Type == api.TypeText:
				cells[row].Text = strings.Repeat("xy", x/3)
			default:
				cells[row].At = api.Point{X: x, Y: row}
			}
		}
		out.Cols = append(out.Cols, c)
		out.Data = append(out.Data, cells)
	}
	return out
}

// someConf makes a conf that fits a table.
func someConf(r *rand.Rand, t api.Table) api.Conf {
	c := api.Conf{GroupRows: 1 + r.Intn(t.Rows+2), PageRows: 1 + r.Intn(t.Rows+2)}
	for _, col := range t.Cols {
		enc := r.Intn(6) - 1
		for enc != api.EncBest && !values.Fits(col.Type, enc) {
			enc = r.Intn(6) - 1
		}
		c.Encs = append(c.Encs, enc)
	}
	return c
}

func someQuery(r *rand.Rand, t api.Table) api.Query {
	from := r.Intn(t.Rows + 1)
	return ask(from, from+r.Intn(t.Rows-from+1), r.Perm(len(t.Cols))[:r.Intn(len(t.Cols)+1)]...)
}

// some makes a table, its file, its root, and a query that fits it.
func some(r *rand.Rand) (api.Table, []byte, api.Digest, api.Query) {
	t := someTable(r, r.Intn(5), r.Intn(25))
	b, err := file.Write(t, someConf(r, t))
	root, _ := roots.Of(tag.New(), b)
	if err != api.OK {
		panic(err)
	}
	return t, b, root, someQuery(r, t)
}

// fixed is a table of four columns and ten rows, its file and its root.
func fixed() (api.Table, []byte, api.Digest) {
	t := someTable(rand.New(rand.NewSource(77)), 4, 10)
	b, _ := file.Write(t, api.Conf{GroupRows: 4, PageRows: 2, Encs: []int{0, 0, 0, 0}})
	root, _ := roots.Of(tag.New(), b)
	return t, b, root
}

// alike tells whether tables are the same, lists of nothing being all the same.
func alike(a, b api.Table) bool {
	return a.Rows == b.Rows && slices.Equal(a.Cols, b.Cols) && slices.EqualFunc(a.Data, b.Data, slices.Equal[[]api.Cell])
}

func TestP27_1Footer(t *testing.T) {
	r := rand.New(rand.NewSource(1))
	for range 100 {
		_, b, _, q := some(r)
		f, own, _ := file.Open(b)
		answer, _ := serve.Serve(b, asked(q))
		got, bytesOf, at, ok := Footer(answer)
		if !ok || at != len(binary.AppendUvarint(nil, uint64(len(own))))+len(own) || !bytes.Equal(bytesOf, own) || !reflect.DeepEqual(got, f) {
			t.Fatal(got, at, ok)
		}
		for n := range at {
			if got, bytesOf, place, ok := Footer(answer[:n]); ok || place != 0 || len(bytesOf) != 0 || !reflect.DeepEqual(got, api.Footer{}) {
				t.Fatal(n, got, place)
			}
		}
	}
	if _, own, at, ok := Footer([]byte{3, 0, 0, 0, 9, 9}); !ok || at != 4 || !bytes.Equal(own, []byte{0, 0, 0}) {
		t.Error(own, at, ok)
	}
	for _, b := range [][]byte{nil, {0}, {3, 0, 0}, {0x83, 0, 0, 0, 0}, {3, 0, 1, 0}, {4, 0, 0, 0, 0}, {2, 0, 0, 0}, {255, 255, 255, 255, 255, 255, 255, 255, 255, 1, 0, 0, 0}, bytes.Repeat([]byte{255}, 30)} {
		if got, own, at, ok := Footer(b); ok || at != 0 || len(own) != 0 || !reflect.DeepEqual(got, api.Footer{}) {
			t.Error(b, got, own, at)
		}
	}
}

func TestP27_2Queries(t *testing.T) {
	_, b, root := fixed()
	good := asked(ask(1, 7, 2, 0))
	answer, _ := serve.Serve(b, good)
	for name, x := range map[string]struct {
		q, answer []byte
		want      api.Errno
	}{
		"good": {good, answer, api.OK}, "no query, no answer": {nil, nil, api.ErrQuery}, "no query": {append(bytes.Clone(good), 0), answer, api.ErrQuery}, "no answer": {good, nil, api.ErrForm}, "no fit, no answer": {asked(ask(0, 65536, 63)), nil, api.ErrForm},
		"more rows": {asked(ask(1, 11, 2, 0)), answer, api.ErrQuery}, "more columns": {asked(ask(1, 7, 2, 4)), answer, api.ErrQuery}, "no fit, a byte more": {asked(ask(1, 11, 2, 0)), append(bytes.Clone(answer), 0), api.ErrQuery},
		"a byte more": {good, append(bytes.Clone(answer), 0), api.ErrForm}, "a byte less": {good, answer[:len(answer)-1], api.ErrForm}, "a digest more": {good, append(bytes.Clone(answer), make([]byte, 32)...), api.ErrForm}, "a digest less": {good, answer[:len(answer)-32], api.ErrForm},
	} {
		l := tag.New()
		got, err := Verify(l, root, x.q, x.answer)
		if err != x.want || err != api.OK && (!reflect.DeepEqual(got, api.Table{}) || len(l.Frames()) != 0) {
			t.Error(name, got, err)
		}
	}
}

// frames makes the digests of a right answer in the chapter's order.
func frames(l *tag.Log, b []byte, q api.Query) api.Digest {
	f, own, _ := file.Open(b)
	at := len(binary.AppendUvarint(nil, uint64(len(own)))) + len(own)
	answer, _ := serve.Answer(tag.New(), b, q)
	answer = answer[at:]
	take := func(n int) []byte {
		x := answer[:n]
		answer = answer[n:]
		return x
	}
	digests := func(n int) []api.Digest {
		out := make([]api.Digest, n)
		for k := range out {
			out[k] = api.Digest(take(32))
		}
		return out
	}
	first, behind := pick.Groups(f, q)
	var groups []api.Digest
	for g := first; g < behind; g++ {
		var d api.Digest
		if len(q.Cols) == 0 {
			d = digests(1)[0]
		}
		for _, p := range pick.Parts(f, q) {
			if p.Group != g {
				continue
			}
			infos := f.Groups[g].Chunks[p.Col]
			var leaves []api.Digest
			for k := p.First; k < p.Last; k++ {
				leaves = append(leaves, tree.Leaf(l, "page", k, len(infos), take(infos[k].Size)))
			}
			chunk, _ := proof.Join(l, len(infos), p.First, leaves, digests(proof.Need(len(infos), p.First, p.Last)))
			leaf := tree.Leaf(l, "chunk", p.Col, len(f.Cols), chunk[:])
			d, _ = proof.Join(l, len(f.Cols), p.Col, []api.Digest{leaf}, digests(proof.Need(len(f.Cols), p.Col, p.Col+1)))
		}
		groups = append(groups, tree.Leaf(l, "group", g, len(f.Groups), d[:]))
	}
	all, _ := proof.Join(l, len(f.Groups), first, groups, digests(proof.Need(len(f.Groups), first, behind)))
	return roots.File(l, own, all)
}

func TestP27_2Frames(t *testing.T) {
	r := rand.New(rand.NewSource(2))
	for range 100 {
		_, b, root, q := some(r)
		answer, _ := serve.Serve(b, asked(q))
		l, m := tag.New(), tag.New()
		if frames(m, b, q) != root {
			t.Fatal("the test makes another root")
		}
		_, err := Verify(l, root, asked(q), answer)
		if err != api.OK || !slices.EqualFunc(l.Frames(), m.Frames(), bytes.Equal) {
			t.Fatal(q, err)
		}
		// The same digests are made where the root is another one.
		n := tag.New()
		if got, err := Verify(n, api.Digest{}, asked(q), answer); err != api.ErrSum || !reflect.DeepEqual(got, api.Table{}) || !slices.EqualFunc(n.Frames(), m.Frames(), bytes.Equal) {
			t.Fatal(got, err)
		}
	}
}

// Two parts of a group that make other digests of it are told, though the file's digest is made of the first one's.
func TestP27_2TwoPartsDiffer(t *testing.T) {
	_, b, root := fixed()
	f, _, _ := file.Open(b)
	q := ask(0, 4, 0, 1)
	good, _ := serve.Serve(b, asked(q))
	_, _, at, _ := Footer(good)
	first := pick.Parts(f, q)[0]
	for _, info := range f.Groups[0].Chunks[0][first.First:first.Last] {
		at += info.Size
	}
	// Behind the pages of the first part are the two digests of the column's proof, which make its group; behind these the second part.
	at += 32 * proof.Need(4, 0, 1)
	for k := at; k < len(good); k++ {
		wrong := bytes.Clone(good)
		wrong[k] ^= 1
		if got, err := Check(root, asked(q), wrong); err != api.ErrSum || !reflect.DeepEqual(got, api.Table{}) {
			t.Fatal(k, got, err)
		}
	}
}

// Each bit of an answer that is turned is told: by its form, or by the root.
func TestP27_2EachBitCounts(t *testing.T) {
	_, b, root := fixed()
	for _, q := range []api.Query{ask(1, 7, 2, 0), ask(3, 5, 1), ask(0, 10, 0, 1, 2, 3), ask(2, 9), ask(5, 5, 1, 2), ask(0, 0)} {
		good, _ := serve.Serve(b, asked(q))
		_, _, at, _ := Footer(good)
		for k := range good {
			for bit := range 8 {
				wrong := bytes.Clone(good)
				wrong[k] ^= 1 << bit
				got, err := Check(root, asked(q), wrong)
				if err == api.OK || !reflect.DeepEqual(got, api.Table{}) {
					t.Fatal(q, k, bit, got)
				}
				if k >= at && err != api.ErrSum {
					t.Fatal("a bit behind the footer", q, k, bit, err)
				}
			}
		}
	}
}

// forge makes the file of a footer and pages, which need not be what the footer tells, and its root.
func forge(f api.Footer, pages [][]byte) ([]byte, api.Digest) {
	own, ok := footer.Encode(f)
	if !ok {
		panic("no footer")
	}
	b := slices.Concat([]byte("HYPO"), slices.Concat(pages...), own, binary.LittleEndian.AppendUint32(nil, uint32(len(own))), []byte("OPYH"))
	root, err := roots.Of(tag.New(), b)
	if err != api.OK {
		panic("no file")
	}
	return b, root
}

// Whoever makes a root of pages that are no pages, or not those that the footer tells of, is not believed.
func TestP27_2PagesOfNoTable(t *testing.T) {
	col := api.Col{Name: "a", Nullable: true}
	encode := func(l ...int) []byte {
		var cells []api.Cell
		for _, n := range l {
			cells = append(cells, api.Cell{Int: n})
		}
		b, _ := page.Encode(col, api.EncPlain, cells)
		return b
	}
	has := func(low, high int) api.Stat {
		return api.Stat{Has: true, Min: api.Cell{Int: low}, Max: api.Cell{Int: high}}
	}
	for name, x := range map[string]struct {
		b    []byte
		rows int
		s    api.Stat
		want api.Errno
	}{
		"right": {encode(1, 2), 2, has(1, 2), api.OK}, "no page": {[]byte{9, 9, 9}, 2, has(1, 2), api.ErrForm}, "another encoding": {[]byte{4, 2, 3}, 2, has(1, 2), api.ErrForm}, "more cells": {encode(1, 2, 2), 2, has(1, 2), api.ErrForm}, "fewer cells": {encode(1), 2, has(1, 1), api.ErrForm},
		"a wider stat": {encode(1, 2), 2, has(0, 2), api.ErrForm}, "a narrower stat": {encode(1, 2), 2, has(1, 1), api.ErrForm}, "other nulls": {encode(1, 2), 2, api.Stat{Nulls: 2}, api.ErrForm},
	} {
		other := encode(5)
		f := api.Footer{Cols: []api.Col{col}, Rows: x.rows + 1, Groups: []api.Group{{Rows: x.rows + 1, Chunks: [][]api.PageInfo{{{Size: len(x.b), Rows: x.rows, Stat: x.s}, {Size: len(other), Rows: 1, Stat: has(5, 5)}}}}}}
		b, root := forge(f, [][]byte{x.b, other})
		q := asked(ask(1, 3, 0))
		answer, err := serve.Serve(b, q)
		if err != api.OK {
			t.Fatal(err)
		}
		if got, err := Check(root, q, answer); err != x.want || err != api.OK && !reflect.DeepEqual(got, api.Table{}) {
			t.Error(name, got, err)
		}
		// The digests come first.
		if _, err := Check(api.Digest{}, q, answer); err != api.ErrSum {
			t.Error(name, err)
		}
		// Who asks for the other page alone is told it.
		q = asked(ask(2, 3, 0))
		answer, _ = serve.Serve(b, q)
		if got, err := Check(root, q, answer); err != api.OK || got.Data[0][0].Int != 5 {
			t.Error(name, got, err)
		}
	}
}

func TestP27_3Check(t *testing.T) {
	r := rand.New(rand.NewSource(3))
	for range 60 {
		_, b, root, q := some(r)
		answer, _ := serve.Serve(b, asked(q))
		for _, x := range [][]byte{answer, append(bytes.Clone(answer), 0), nil} {
			got, err := Check(root, asked(q), x)
			want, also := Verify(tag.New(), root, asked(q), x)
			if err != also || !reflect.DeepEqual(got, want) {
				t.Fatal(q, err, also)
			}
		}
	}
}

func TestP27_4NothingIsShared(t *testing.T) {
	table, b, root := fixed()
	q := ask(1, 7, 2, 0)
	asks := asked(q)
	answer, _ := serve.Serve(b, asks)
	same, also := bytes.Clone(answer), bytes.Clone(asks)
	l := tag.New()
	got, _ := Verify(l, root, asks, answer)
	f, own, _, _ := Footer(answer)
	kept := l.Frames()
	want, _ := cell.Project(table, q.Cols, q.From, q.To)
	if !bytes.Equal(answer, same) || !bytes.Equal(asks, also) {
		t.Error("what is handed in is changed")
	}
	clear(answer)
	clear(asks)
	if !alike(got, want) || !slices.EqualFunc(l.Frames(), kept, bytes.Equal) || own[0] == 0 || f.Cols[0].Name != "c0" {
		t.Error("what is answered shares with an answer")
	}
	_, _ = append(got.Data[0], api.Cell{Int: 99}), append(got.Data[1], api.Cell{Int: 99})
	got.Data[0][0] = api.Cell{Int: 99}
	if !slices.Equal(got.Data[1], want.Data[1]) {
		t.Error("columns share")
	}
}

// Who serves as the chapter says is believed, and what is told is the projection of the table.
func TestP27_5Believed(t *testing.T) {
	r := rand.New(rand.NewSource(4))
	for range 400 {
		table, b, root, q := some(r)
		answer, err := serve.Serve(b, asked(q))
		if err != api.OK {
			t.Fatal(err)
		}
		got, err := Check(root, asked(q), answer)
		want, _ := cell.Project(table, q.Cols, q.From, q.To)
		if err != api.OK || !alike(got, want) {
			t.Fatal(q, got, want, err)
		}
	}
}

// An answer to another query, or out of another file, is not believed.
func TestP27_5OthersAreNot(t *testing.T) {
	r := rand.New(rand.NewSource(5))
	believed := 0
	for range 400 {
		table, b, root, q := some(r)
		p := someQuery(r, table)
		answer, _ := serve.Serve(b, asked(p))
		got, err := Check(root, asked(q), answer)
		if err == api.OK {
			// Two queries may need the same pages.
			believed++
			want, _ := cell.Project(table, q.Cols, q.From, q.To)
			own, _ := serve.Serve(b, asked(q))
			if !alike(got, want) || !bytes.Equal(answer, own) {
				t.Fatal(p, q, got)
			}
		}
		_, _, other, _ := some(r)
		answer, _ = serve.Serve(b, asked(q))
		if _, err := Check(other, asked(q), answer); other != root && err != api.ErrSum {
			t.Fatal(err)
		}
	}
	if believed == 0 || believed > 300 {
		t.Error("the test looks at one case alone", believed)
	}
}

// Of each query the server and the client tell the same error.
func TestT2SameErrors(t *testing.T) {
	_, b, root := fixed()
	answer, _ := serve.Serve(b, asked(ask(0, 0)))
	for _, q := range [][]byte{nil, {0}, {0, 0, 11}, {1, 4, 0, 5}, {1, 63, 0, 0}, {2, 1, 1, 0, 0}, {0, 5, 4}, {0, 0, 0, 0}} {
		_, one := serve.Serve(b, q)
		_, two := Check(root, q, answer)
		if one != api.ErrQuery || two != api.ErrQuery {
			t.Error(q, one, two)
		}
	}
}

// The document's example: of three rows, in pages of one, the second: one page, and two digests.
func TestT5Few(t *testing.T) {
	table := api.Table{Cols: []api.Col{{Name: "a"}}, Rows: 3, Data: [][]api.Cell{{{Int: 5}, {Int: 6}, {Int: 7}}}}
	b, _ := file.Write(table, api.Conf{GroupRows: 3, PageRows: 1, Encs: []int{0}})
	f, own, _ := file.Open(b)
	root, _ := roots.Of(tag.New(), b)
	q := asked(ask(1, 2, 0))
	answer, _ := serve.Serve(b, q)
	if len(answer) != 1+len(own)+f.Groups[0].Chunks[0][1].Size+2*32 {
		t.Error(len(answer))
	}
	if got, err := Check(root, q, answer); err != api.OK || !slices.Equal(got.Data[0], []api.Cell{{Int: 6}}) {
		t.Error(got, err)
	}
}

// Any bytes as query and answer are refused by a named error, or are believed.
func TestT4AnyBytes(t *testing.T) {
	r := rand.New(rand.NewSource(6))
	for range 3000 {
		_, b, root, q := some(r)
		answer, _ := serve.Serve(b, asked(q))
		asks := asked(q)
		for range 1 + r.Intn(3) {
			switch r.Intn(4) {
			case 0:
				asks[r.Intn(len(asks))] = byte(r.Intn(256))
			case 1:
				answer[r.Intn(len(answer))] = byte(r.Intn(256))
			case 2:
				answer = answer[:1+r.Intn(len(answer))]
			case 3:
				k := r.Intn(len(answer))
				answer = slices.Insert(answer, k, byte(r.Intn(256)))
			}
		}
		got, err := Check(root, asks, answer)
		if err == api.OK {
			if want, is := serve.Serve(b, asks); is != api.OK || !bytes.Equal(want, answer) {
				t.Fatal("believed, but not what the server gives", got)
			}
		} else if !slices.Contains([]api.Errno{api.ErrForm, api.ErrSum, api.ErrQuery}, err) || !reflect.DeepEqual(got, api.Table{}) {
			t.Fatal(got, err)
		}
	}
}

// A stat that does not hold is told of whatever page it is.
func TestP27_2StatOfNulls(t *testing.T) {
	col := api.Col{Name: "a", Type: api.TypeText, Nullable: true}
	cells := []api.Cell{{Null: true}, {Text: "b"}}
	x, _ := page.Encode(col, api.EncFront, cells)
	s := stat.Of(col.Type, cells)
	s.Nulls = 0
	f := api.Footer{Cols: []api.Col{col}, Rows: 2, Groups: []api.Group{{Rows: 2, Chunks: [][]api.PageInfo{{{Size: len(x), Rows: 2, Stat: s}}}}}}
	b, root := forge(f, [][]byte{x})
	q := asked(ask(0, 2, 0))
	answer, _ := serve.Serve(b, q)
	if got, err := Check(root, q, answer); err != api.ErrForm {
		t.Error(got, err)
	}
}
