package serve

import (
	"bytes"
	"encoding/binary"
	"fmt"
	"math/rand"
	"slices"
	"testing"

	"hypostyle/api"
	"hypostyle/file"
	"hypostyle/pick"
	"hypostyle/proof"
	"hypostyle/query"
	"hypostyle/roots"
	"hypostyle/tag"
)

func ask(from, to int, cols ...int) api.Query { return api.Query{Cols: cols, From: from, To: to} }

// someFile makes a file of numbers.
func someFile(r *rand.Rand, cols, rows, groupRows, pageRows int) []byte {
	t := api.Table{Rows: rows}
	conf := api.Conf{GroupRows: groupRows, PageRows: pageRows}
	for c := range cols {
		cells := make([]api.Cell, rows)
		for k := range cells {
			cells[k].Int = r.Intn(100)
		}
		t.Cols = append(t.Cols, api.Col{Name: fmt.Sprint("c", c)})
		t.Data = append(t.Data, cells)
		conf.Encs = append(conf.Encs, api.EncBest)
	}
	b, _ := file.Write(t, conf)
	return b
}

func someQuery(r *rand.Rand, f api.Footer) api.Query {
	from := r.Intn(f.Rows + 1)
	return ask(from, from+r.Intn(f.Rows-from+1), r.Perm(len(f.Cols))[:r.Intn(len(f.Cols)+1)]...)
}

func bytesOf(l []api.Digest) [][]byte {
	var out [][]byte
	for _, d := range l {
		out = append(out, bytes.Clone(d[:]))
	}
	return out
}

// laid is the chapter's answer, by the layers below.
func laid(b []byte, q api.Query) []byte {
	l := tag.New()
	f, own, _ := file.Open(b)
	pagesOf := func(g, c int) [][]byte {
		var pages [][]byte
		for p := range f.Groups[g].Chunks[c] {
			x, _ := file.Page(b, f, g, c, p)
			pages = append(pages, x)
		}
		return pages
	}
	chunksOf := func(g int) []api.Digest {
		var chunks []api.Digest
		for c := range f.Cols {
			chunks = append(chunks, roots.Chunk(l, pagesOf(g, c)))
		}
		return chunks
	}
	out := append(binary.AppendUvarint(nil, uint64(len(own))), own...)
	first, behind := pick.Groups(f, q)
	parts := pick.Parts(f, q)
	for g := first; g < behind; g++ {
		if len(q.Cols) == 0 {
			d := roots.Group(l, chunksOf(g))
			out = append(out, d[:]...)
		}
		for _, p := range parts {
			if p.Group != g {
				continue
			}
			pages := pagesOf(g, p.Col)
			out = append(out, bytes.Join(pages[p.First:p.Last], nil)...)
			for _, d := range proof.Prove(l, roots.Leaves(l, "page", pages), p.First, p.Last) {
				out = append(out, d[:]...)
			}
			for _, d := range proof.Prove(l, roots.Leaves(l, "chunk", bytesOf(chunksOf(g))), p.Col, p.Col+1) {
				out = append(out, d[:]...)
			}
		}
	}
	var groups []api.Digest
	for g := range f.Groups {
		groups = append(groups, roots.Group(l, chunksOf(g)))
	}
	for _, d := range proof.Prove(l, roots.Leaves(l, "group", bytesOf(groups)), first, behind) {
		out = append(out, d[:]...)
	}
	return out
}

func TestP26_1Answer(t *testing.T) {
	r := rand.New(rand.NewSource(1))
	if b, err := Answer(tag.New(), someFile(r, 0, 0, 1, 1), ask(0, 0)); err != api.OK || !bytes.Equal(b, []byte{3, 0, 0, 0}) {
		t.Error(b, err)
	}
	for range 150 {
		b := someFile(r, r.Intn(5), r.Intn(25), 1+r.Intn(8), 1+r.Intn(8))
		f, _, _ := file.Open(b)
		q := someQuery(r, f)
		got, err := Answer(tag.New(), b, q)
		if err != api.OK || !bytes.Equal(got, laid(b, q)) {
			t.Fatal(q, err)
		}
	}
}

// Each digest that an answer has, but those of leaves, was hashed by the log, and nothing else but frames of digests is.
func TestP26_1AnswerLog(t *testing.T) {
	r := rand.New(rand.NewSource(2))
	b := someFile(r, 3, 20, 6, 2)
	l := tag.New()
	l.Hash("before")
	got, _ := Answer(l, b, ask(3, 11, 2, 0))
	hashed := map[api.Digest]bool{}
	for k, frame := range l.Frames() {
		name, parts, ok := tag.Parse(frame)
		if !ok || k == 0 && name != "before" || k > 0 && !slices.Contains([]string{"page", "chunk", "group", "node"}, name) {
			t.Fatal(name, ok)
		}
		hashed[tag.Hash(name, parts...)] = true
	}
	if last := api.Digest(got[len(got)-32:]); !hashed[last] {
		t.Error("the last digest was not hashed by the log")
	}
	root, _ := roots.Of(tag.New(), b)
	if hashed[root] {
		t.Error("the root is no part of an answer")
	}
}

func TestP26_1AnswerWrong(t *testing.T) {
	r := rand.New(rand.NewSource(3))
	b := someFile(r, 3, 10, 4, 2)
	for _, q := range []api.Query{ask(0, 11), ask(0, 10, 3), ask(0, 10, -1), ask(0, 10, 1, 1), ask(3, 2), ask(-1, 2), ask(api.MinInt, api.MaxInt), ask(0, 10, api.MaxInt)} {
		l := tag.New()
		if got, err := Answer(l, b, q); err != api.ErrQuery || len(got) != 0 || len(l.Frames()) != 0 {
			t.Error(q, got, err)
		}
		for _, x := range [][]byte{nil, b[1:], append(bytes.Clone(b), 0)} {
			if got, err := Answer(tag.New(), x, q); err != api.ErrForm || len(got) != 0 {
				t.Error("no file", q, got, err)
			}
		}
	}
	if got, err := Answer(tag.New(), nil, ask(0, 0)); err != api.ErrForm || len(got) != 0 {
		t.Error(got, err)
	}
}

func TestP26_2Serve(t *testing.T) {
	r := rand.New(rand.NewSource(4))
	for range 60 {
		b := someFile(r, r.Intn(5), r.Intn(25), 1+r.Intn(8), 1+r.Intn(8))
		f, _, _ := file.Open(b)
		q := someQuery(r, f)
		asked, _ := query.Encode(q)
		if got, err := Serve(b, asked); err != api.OK || !bytes.Equal(got, laid(b, q)) {
			t.Fatal(q, err)
		}
		for _, wrong := range [][]byte{nil, append(bytes.Clone(asked), 0), asked[:len(asked)-1], {0, 0, 255}, {1, 63, 0, 0}, {0, 0, 100}} {
			if got, err := Serve(b, wrong); err != api.ErrQuery || len(got) != 0 {
				t.Fatal(wrong, got, err)
			}
			if got, err := Serve(b[1:], wrong); err != api.ErrForm || len(got) != 0 {
				t.Fatal(wrong, got, err)
			}
		}
		if got, err := Serve(append(bytes.Clone(b), 0), asked); err != api.ErrForm || len(got) != 0 {
			t.Fatal(got, err)
		}
	}
}

func TestP26_3NothingIsShared(t *testing.T) {
	r := rand.New(rand.NewSource(5))
	b := someFile(r, 3, 10, 4, 2)
	same := bytes.Clone(b)
	l, q := tag.New(), ask(1, 9, 2, 1)
	got, _ := Answer(l, b, q)
	frames := l.Frames()
	want := bytes.Clone(got)
	if !bytes.Equal(b, same) || !slices.Equal(q.Cols, []int{2, 1}) {
		t.Error("what is handed in is changed")
	}
	clear(b)
	if !bytes.Equal(got, want) || !slices.EqualFunc(l.Frames(), frames, bytes.Equal) {
		t.Error("an answer, or a log, shares with a file")
	}
	clear(got)
	if !slices.EqualFunc(l.Frames(), frames, bytes.Equal) {
		t.Error("a log shares with an answer")
	}
}

// The pages of an answer are those with rows that are asked for: as many bytes as these have.
func TestP26_4FewBytes(t *testing.T) {
	r := rand.New(rand.NewSource(6))
	for range 100 {
		b := someFile(r, r.Intn(5), r.Intn(25), 1+r.Intn(8), 1+r.Intn(8))
		f, own, _ := file.Open(b)
		q := someQuery(r, f)
		got, err := Answer(tag.New(), b, q)
		if want := len(binary.AppendUvarint(nil, uint64(len(own)))) + len(own) + pick.Bytes(f, q) + 32*pick.Digests(f, q); err != api.OK || len(got) != want {
			t.Fatal(q, len(got), want, err)
		}
	}
	// The document's example: of three rows, in pages of one, the second: a page, and two digests.
	b := someFile(r, 1, 3, 3, 1)
	f, own, _ := file.Open(b)
	got, _ := Answer(tag.New(), b, ask(1, 2, 0))
	if len(got) != 1+len(own)+f.Groups[0].Chunks[0][1].Size+64 {
		t.Error(len(got))
	}
}
