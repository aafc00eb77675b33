package tree

import (
	"bytes"
	"encoding/binary"
	"math/rand"
	"slices"
	"testing"

	"hypostyle/api"
	"hypostyle/tag"
)

func someDigests(r *rand.Rand, n int) []api.Digest {
	l := make([]api.Digest, n)
	for k := range l {
		r.Read(l[k][:])
	}
	return l
}

// eight is a number's eight bytes.
func eight(n int) []byte { return binary.LittleEndian.AppendUint64(nil, uint64(n)) }

func TestP21_1Leaf(t *testing.T) {
	for _, x := range [][2]int{{0, 1}, {3, 258}, {-1, 5}, {api.MinInt, api.MaxInt}} {
		l := tag.New()
		got := Leaf(l, "page", x[0], x[1], []byte("data"))
		frame, _ := tag.Frame("page", eight(x[0]), eight(x[1]), []byte("data"))
		if got != tag.Hash("page", eight(x[0]), eight(x[1]), []byte("data")) || !slices.EqualFunc(l.Frames(), [][]byte{frame}, bytes.Equal) {
			t.Error(x, got, l.Frames())
		}
	}
	l := tag.New()
	if Leaf(l, "", 0, 1, nil) != (api.Digest{}) || len(l.Frames()) != 0 {
		t.Error("of no kind")
	}
}

func TestP21_1Node(t *testing.T) {
	d := someDigests(rand.New(rand.NewSource(1)), 2)
	l := tag.New()
	got := Node(l, d[0], d[1])
	frame, _ := tag.Frame("node", d[0][:], d[1][:])
	if got != tag.Hash("node", d[0][:], d[1][:]) || got == Node(tag.New(), d[1], d[0]) || !slices.EqualFunc(l.Frames(), [][]byte{frame}, bytes.Equal) {
		t.Error(got, l.Frames())
	}
}

// depth is the chapter's Depth, by both halves.
func depth(n int) int {
	if n < 2 {
		return 0
	}
	return 1 + max(depth(Split(n)), depth(n-Split(n)))
}

func TestP21_2SplitAndDepth(t *testing.T) {
	for _, x := range [][3]int{
		{0, 0, 0}, {1, 0, 0}, {-1, 0, 0}, {api.MinInt, 0, 0}, {2, 1, 1}, {3, 2, 2}, {4, 2, 2}, {5, 4, 3}, {8, 4, 3}, {9, 8, 4}, {65536, 32768, 16}, {65537, 65536, 17},
		{api.MaxInt, 1 << 62, 63}, {1 << 62, 1 << 61, 62}, {1<<62 + 1, 1 << 62, 63},
	} {
		if Split(x[0]) != x[1] || Depth(x[0]) != x[2] {
			t.Error(x, Split(x[0]), Depth(x[0]))
		}
	}
	for n := 2; n < 1000; n++ {
		s := Split(n)
		if s&(s-1) != 0 || s >= n || 2*s < n || Depth(n) != depth(n) {
			t.Error(n, s, Depth(n))
		}
	}
}

// root is the chapter's Root, with the frames in order.
func root(leaves []api.Digest) (api.Digest, [][]byte) {
	if len(leaves) == 0 {
		frame, _ := tag.Frame("none")
		return tag.Hash("none"), [][]byte{frame}
	}
	if len(leaves) == 1 {
		return leaves[0], nil
	}
	half := 1
	for 2*half < len(leaves) {
		half *= 2
	}
	a, x := root(leaves[:half])
	b, y := root(leaves[half:])
	frame, _ := tag.Frame("node", a[:], b[:])
	return tag.Hash("node", a[:], b[:]), append(slices.Concat(x, y), frame)
}

func TestP21_3Root(t *testing.T) {
	r := rand.New(rand.NewSource(2))
	for n := range 70 {
		leaves := someDigests(r, n)
		l := tag.New()
		got := Root(l, leaves)
		want, frames := root(leaves)
		if got != want || !slices.EqualFunc(l.Frames(), frames, bytes.Equal) {
			t.Fatal(n, got)
		}
	}
	l := tag.New()
	if Root(l, []api.Digest{}) != tag.Hash("none") || len(l.Frames()) != 1 {
		t.Error("of none")
	}
}

func TestP21_4NothingIsShared(t *testing.T) {
	leaves := someDigests(rand.New(rand.NewSource(3)), 5)
	again := slices.Clone(leaves)
	data := []byte{1, 2, 3, 4}
	l := tag.New()
	Root(l, leaves[:3])
	Leaf(l, "page", 0, 1, data[:2])
	frames := l.Frames()
	if !slices.Equal(leaves, again) || !bytes.Equal(data, []byte{1, 2, 3, 4}) {
		t.Error("what is handed in is changed")
	}
	leaves[0][0]++
	data[0]++
	if !slices.EqualFunc(l.Frames(), frames, bytes.Equal) {
		t.Error("a log keeps what was handed in")
	}
}

// Each leaf, its place, and how many there are, change the root.
func TestP21_5RootTellsAll(t *testing.T) {
	r := rand.New(rand.NewSource(4))
	for n := 1; n < 20; n++ {
		leaves := someDigests(r, n)
		want := Root(tag.New(), leaves)
		for k := range leaves {
			other := slices.Clone(leaves)
			other[k][r.Intn(32)] ^= 1 << r.Intn(8)
			if Root(tag.New(), other) == want {
				t.Fatal(n, k, "is not told")
			}
			if k > 0 {
				other = slices.Clone(leaves)
				other[0], other[k] = other[k], other[0]
				if Root(tag.New(), other) == want {
					t.Fatal(n, k, "may be exchanged")
				}
			}
		}
		if Root(tag.New(), leaves[:n-1]) == want || Root(tag.New(), append(slices.Clone(leaves), leaves[0])) == want {
			t.Fatal(n, "or another number of leaves")
		}
	}
	if Leaf(tag.New(), "page", 0, 2, nil) == Leaf(tag.New(), "page", 1, 2, nil) || Leaf(tag.New(), "page", 0, 2, nil) == Leaf(tag.New(), "page", 0, 3, nil) || Leaf(tag.New(), "page", 0, 2, nil) == Leaf(tag.New(), "chunk", 0, 2, nil) {
		t.Error("leaves of unlike places are the same")
	}
}
