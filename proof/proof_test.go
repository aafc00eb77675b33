package proof

import (
	"bytes"
	"math/rand"
	"slices"
	"testing"

	"hypostyle/api"
	"hypostyle/tag"
	"hypostyle/tree"
)

func someDigests(r *rand.Rand, n int) []api.Digest {
	l := make([]api.Digest, n)
	for k := range l {
		r.Read(l[k][:])
	}
	return l
}

// beside is the chapter's parts beside, of the leaves from at on, n of them.
func beside(at, n, from, to int) []api.Span {
	marked := 0
	for k := at; k < at+n; k++ {
		if k >= from && k < to {
			marked++
		}
	}
	switch {
	case n == 0:
		return nil
	case from == to || marked == 0:
		return []api.Span{{From: at, To: at + n}}
	case marked == n:
		return nil
	}
	half := tree.Split(n)
	return append(beside(at, half, from, to), beside(at+half, n-half, from, to)...)
}

// join is the chapter's Join: the root, of marked leaves and the roots beside, by a log.
func join(l *tag.Log, at int, leaves []api.Digest, from, to int, proof *[]api.Digest) api.Digest {
	p := beside(at, len(leaves), from, to)
	if len(p) == 0 {
		return tree.Root(l, leaves)
	}
	if len(p) == 1 && p[0] == (api.Span{From: at, To: at + len(leaves)}) {
		d := (*proof)[0]
		*proof = (*proof)[1:]
		return d
	}
	half := tree.Split(len(leaves))
	a := join(l, at, leaves[:half], from, to, proof)
	b := join(l, at+half, leaves[half:], from, to, proof)
	return tree.Node(l, a, b)
}

func TestP22_1Need(t *testing.T) {
	for _, x := range [][4]int{
		{5, 1, 2, 3}, {0, 0, 0, 0}, {1, 0, 1, 0}, {1, 0, 0, 1}, {1, 1, 1, 1}, {5, 0, 5, 0}, {5, 2, 2, 1}, {5, 5, 5, 1}, {5, 0, 4, 1}, {5, 4, 5, 1}, {65536, 0, 1, 16}, {65536, 1, 65535, 2}, {65536, 32767, 32769, 30}, {65536, 3, 3, 1}, {65536, 0, 65536, 0}, {4, 1, 3, 2},
		{-1, 0, 0, -1}, {5, -1, 2, -1}, {5, 3, 2, -1}, {5, 2, 6, -1}, {0, 0, 1, -1}, {0, 1, 1, -1}, {65537, 0, 1, -1}, {api.MaxInt, 0, 0, -1}, {api.MinInt, 0, 0, -1}, {5, api.MinInt, api.MaxInt, -1}, {5, api.MaxInt, api.MinInt, -1}, {5, api.MaxInt, api.MaxInt, -1},
	} {
		if got := Need(x[0], x[1], x[2]); got != x[3] {
			t.Error(x, got)
		}
	}
	for n := range 25 {
		for from := range n + 1 {
			for to := from; to <= n; to++ {
				if got := Need(n, from, to); got != len(beside(0, n, from, to)) {
					t.Fatal(n, from, to, got)
				}
			}
		}
	}
}

func TestP22_2Prove(t *testing.T) {
	r := rand.New(rand.NewSource(1))
	for n := range 25 {
		leaves := someDigests(r, n)
		for from := range n + 1 {
			for to := from; to <= n; to++ {
				l, m := tag.New(), tag.New()
				var want []api.Digest
				for _, s := range beside(0, n, from, to) {
					want = append(want, tree.Root(m, leaves[s.From:s.To]))
				}
				if got := Prove(l, leaves, from, to); !slices.Equal(got, want) || !slices.EqualFunc(l.Frames(), m.Frames(), bytes.Equal) {
					t.Fatal(n, from, to)
				}
			}
		}
	}
	leaves := someDigests(r, 5)
	for _, x := range [][2]int{{-1, 2}, {3, 2}, {2, 6}, {6, 6}, {api.MinInt, api.MaxInt}, {api.MaxInt, api.MinInt}} {
		l := tag.New()
		if got := Prove(l, leaves, x[0], x[1]); len(got) != 0 || len(l.Frames()) != 0 {
			t.Error(x, got)
		}
	}
	if got := Prove(tag.New(), make([]api.Digest, 65537), 0, 1); len(got) != 0 {
		t.Error("beyond the limit", len(got))
	}
	if got := Prove(tag.New(), make([]api.Digest, 65536), 0, 1); len(got) != 16 {
		t.Error("at the limit", len(got))
	}
}

func TestP22_3Join(t *testing.T) {
	r := rand.New(rand.NewSource(2))
	for n := range 20 {
		leaves := someDigests(r, n)
		for from := range n + 1 {
			for to := from; to <= n; to++ {
				need := Need(n, from, to)
				// Any digests are joined: those of a proof, or others.
				for _, p := range [][]api.Digest{Prove(tag.New(), leaves, from, to), someDigests(r, need)} {
					l, m := tag.New(), tag.New()
					rest := slices.Clone(p)
					want := join(m, 0, leaves, from, to, &rest)
					got, ok := Join(l, n, from, leaves[from:to], p)
					if !ok || got != want || !slices.EqualFunc(l.Frames(), m.Frames(), bytes.Equal) {
						t.Fatal(n, from, to, got, ok)
					}
				}
				for _, m := range []int{need - 1, need + 1} {
					l := tag.New()
					if got, ok := Join(l, n, from, leaves[from:to], make([]api.Digest, max(m, 0))); m >= 0 && (ok || got != (api.Digest{}) || len(l.Frames()) != 0) {
						t.Fatal(n, from, to, m, got)
					}
				}
			}
		}
	}
}

func TestP22_3JoinWrong(t *testing.T) {
	for _, x := range []struct{ n, from, part, proof int }{{5, -1, 1, 3}, {5, 5, 1, 0}, {5, 0, 6, 0}, {-1, 0, 0, 0}, {65537, 0, 65537, 0}, {api.MaxInt, 0, 1, 63}, {5, api.MaxInt, 1, 0}, {5, api.MinInt, 1, 0}, {api.MinInt, 0, 0, 0}, {0, 0, 1, 0}, {0, 0, 0, 1}, {api.MaxInt, api.MaxInt, 0, 1}} {
		l := tag.New()
		if got, ok := Join(l, x.n, x.from, make([]api.Digest, x.part), make([]api.Digest, x.proof)); ok || got != (api.Digest{}) || len(l.Frames()) != 0 {
			t.Error(x, got)
		}
	}
	if got, ok := Join(tag.New(), 0, 0, nil, nil); !ok || got != tag.Hash("none") {
		t.Error("of no leaves", got, ok)
	}
	all := someDigests(rand.New(rand.NewSource(3)), 1)
	l := tag.New()
	if got, ok := Join(l, 7, 3, nil, all); !ok || got != all[0] || len(l.Frames()) != 0 {
		t.Error("of none of seven", got, ok)
	}
}

func TestP22_4NothingIsShared(t *testing.T) {
	r := rand.New(rand.NewSource(4))
	leaves, p := someDigests(r, 6), someDigests(r, 4)
	same, also := slices.Clone(leaves), slices.Clone(p)
	got := Prove(tag.New(), leaves[:5], 1, 2)
	got[0][0]++
	_ = append(got, api.Digest{})
	Join(tag.New(), 5, 1, leaves[1:2], p[:3])
	Join(tag.New(), 5, 0, leaves[:5], p[:0])
	if !slices.Equal(leaves, same) || !slices.Equal(p, also) {
		t.Error("what is handed in is changed")
	}
}

func TestP22_5ProvedIsJoined(t *testing.T) {
	r := rand.New(rand.NewSource(5))
	for range 300 {
		n := 1 + r.Intn(100)
		leaves := someDigests(r, n)
		from := r.Intn(n + 1)
		to := from + r.Intn(n-from+1)
		root := tree.Root(tag.New(), leaves)
		p := Prove(tag.New(), leaves, from, to)
		if got, ok := Join(tag.New(), n, from, leaves[from:to], p); !ok || got != root {
			t.Fatal(n, from, to)
		}
		// Any other leaf, and any other digest, comes to another root.
		part := slices.Clone(leaves[from:to])
		if len(part) > 0 {
			part[r.Intn(len(part))][r.Intn(32)] ^= 1
			if got, _ := Join(tag.New(), n, from, part, p); got == root {
				t.Fatal(n, from, to)
			}
		}
		if len(p) > 0 {
			p[r.Intn(len(p))][r.Intn(32)] ^= 1
			if got, _ := Join(tag.New(), n, from, leaves[from:to], p); got == root {
				t.Fatal(n, from, to)
			}
		}
	}
}
