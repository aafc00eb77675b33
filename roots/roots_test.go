package roots

import (
	"bytes"
	"encoding/binary"
	"fmt"
	"math/rand"
	"slices"
	"testing"

	"hypostyle/api"
	"hypostyle/file"
	"hypostyle/tag"
	"hypostyle/tree"
)

func eight(n int) []byte { return binary.LittleEndian.AppendUint64(nil, uint64(n)) }

// bytesOf tells digests as bytes.
func bytesOf(l []api.Digest) [][]byte {
	var out [][]byte
	for _, d := range l {
		out = append(out, bytes.Clone(d[:]))
	}
	return out
}

// rootOf is the Root of the Leaves of a kind, hashed by l.
func rootOf(l *tag.Log, kind string, data [][]byte) api.Digest {
	var leaves []api.Digest
	for k, b := range data {
		leaves = append(leaves, l.Hash(kind, eight(k), eight(len(data)), b))
	}
	return tree.Root(l, leaves)
}

func sameFrames(a, b *tag.Log) bool { return slices.EqualFunc(a.Frames(), b.Frames(), bytes.Equal) }

func someData(r *rand.Rand, n int) [][]byte {
	l := make([][]byte, n)
	for k := range l {
		l[k] = make([]byte, r.Intn(40))
		r.Read(l[k])
	}
	return l
}

func someDigests(r *rand.Rand, n int) []api.Digest {
	l := make([]api.Digest, n)
	for k := range l {
		r.Read(l[k][:])
	}
	return l
}

// someFile makes a file of numbers.
func someFile(r *rand.Rand, cols, rows, groupRows, pageRows int) []byte {
	t := api.Table{Rows: rows}
	conf := api.Conf{GroupRows: groupRows, PageRows: pageRows}
	for c := range cols {
		cells := make([]api.Cell, rows)
		for k := range cells {
			cells[k].Int = r.Intn(100)
		}
		t.Cols = append(t.Cols, api.Col{Name: fmt.Sprint("c", c)})
		t.Data = append(t.Data, cells)
		conf.Encs = append(conf.Encs, api.EncBest)
	}
	b, _ := file.Write(t, conf)
	return b
}

func TestP23_1Leaves(t *testing.T) {
	r := rand.New(rand.NewSource(1))
	for n := range 10 {
		data := someData(r, n)
		l, m := tag.New(), tag.New()
		got := Leaves(l, "some kind", data)
		var want []api.Digest
		for k, b := range data {
			want = append(want, m.Hash("some kind", eight(k), eight(n), b))
		}
		if !slices.Equal(got, want) || !sameFrames(l, m) {
			t.Error(n, got)
		}
	}
	l := tag.New()
	if got := Leaves(l, "", someData(r, 3)); !slices.Equal(got, make([]api.Digest, 3)) || len(l.Frames()) != 0 {
		t.Error("of no kind", got)
	}
}

func TestP23_1Kinds(t *testing.T) {
	r := rand.New(rand.NewSource(2))
	for n := range 10 {
		data, digests := someData(r, n), someDigests(r, n)
		for kind, x := range map[string]struct {
			got  func(l *tag.Log) api.Digest
			data [][]byte
		}{
			"page":  {func(l *tag.Log) api.Digest { return Chunk(l, data) }, data},
			"chunk": {func(l *tag.Log) api.Digest { return Group(l, digests) }, bytesOf(digests)},
			"group": {func(l *tag.Log) api.Digest { return Groups(l, digests) }, bytesOf(digests)},
		} {
			l, m := tag.New(), tag.New()
			if x.got(l) != rootOf(m, kind, x.data) || !sameFrames(l, m) {
				t.Error(n, kind)
			}
		}
		l, m := tag.New(), tag.New()
		own, groups := []byte("own"), someDigests(r, 1)[0]
		if File(l, own, groups) != m.Hash("file", own, groups[:]) || !sameFrames(l, m) {
			t.Error("file")
		}
	}
}

func TestP23_2Of(t *testing.T) {
	l := tag.New()
	b := someFile(nil, 0, 0, 1, 1)
	none := tag.Hash("none")
	if got, err := Of(l, b); err != api.OK || got != tag.Hash("file", []byte{0, 0, 0}, none[:]) || len(l.Frames()) != 2 {
		t.Error("a file without groups", got, err)
	}
	r := rand.New(rand.NewSource(3))
	for range 60 {
		b := someFile(r, r.Intn(4), r.Intn(20), 1+r.Intn(8), 1+r.Intn(8))
		f, own, _ := file.Open(b)
		m := tag.New()
		var groups [][]byte
		for g := range f.Groups {
			var chunks [][]byte
			for c := range f.Cols {
				var pages [][]byte
				for p := range f.Groups[g].Chunks[c] {
					x, _ := file.Page(b, f, g, c, p)
					pages = append(pages, x)
				}
				d := rootOf(m, "page", pages)
				chunks = append(chunks, d[:])
			}
			d := rootOf(m, "chunk", chunks)
			groups = append(groups, d[:])
		}
		all := rootOf(m, "group", groups)
		want := m.Hash("file", own, all[:])
		l := tag.New()
		if got, err := Of(l, b); err != api.OK || got != want || !sameFrames(l, m) {
			t.Fatal(got, err)
		}
	}
}

func TestP23_2OfNoFile(t *testing.T) {
	b := someFile(rand.New(rand.NewSource(4)), 2, 9, 4, 2)
	for _, x := range [][]byte{nil, b[1:], b[:len(b)-1], append(bytes.Clone(b), 0), []byte("HYPOOPYH")} {
		l := tag.New()
		if got, err := Of(l, x); err != api.ErrForm || got != (api.Digest{}) || len(l.Frames()) != 0 {
			t.Error(got, err)
		}
	}
}

func TestP23_3NothingIsShared(t *testing.T) {
	r := rand.New(rand.NewSource(5))
	b := someFile(r, 2, 9, 4, 2)
	again := bytes.Clone(b)
	l := tag.New()
	Of(l, b)
	frames := l.Frames()
	if !bytes.Equal(b, again) {
		t.Error("a file is changed")
	}
	clear(b)
	if !slices.EqualFunc(l.Frames(), frames, bytes.Equal) {
		t.Error("a log keeps a file")
	}
	digests := someDigests(r, 5)
	same := slices.Clone(digests)
	Group(l, digests[:3])
	Groups(l, digests[:3])
	if !slices.Equal(digests, same) {
		t.Error("digests are changed")
	}
}

// Whatever byte of a file is another one: it is no file any more, or has another root.
func TestP23_4RootTellsAll(t *testing.T) {
	r := rand.New(rand.NewSource(6))
	b := someFile(r, 3, 12, 5, 2)
	root, _ := Of(tag.New(), b)
	files := 0
	for k := range b {
		for bit := range 8 {
			wrong := bytes.Clone(b)
			wrong[k] ^= 1 << bit
			if got, err := Of(tag.New(), wrong); err == api.OK {
				files++
				if got == root {
					t.Fatal(k, bit)
				}
			}
		}
	}
	if files < 100 {
		t.Error("the test looks at few files", files)
	}
	again, _ := Of(tag.New(), b)
	if again != root {
		t.Error("a file has two roots")
	}
}
