package pick

import (
	"fmt"
	"math/rand"
	"reflect"
	"slices"
	"testing"

	"hypostyle/api"
	"hypostyle/footer"
	"hypostyle/proof"
)

func ask(from, to int, cols ...int) api.Query { return api.Query{Cols: cols, From: from, To: to} }

func page(size, rows int) api.PageInfo {
	return api.PageInfo{Size: size, Rows: rows, Stat: api.Stat{Has: true}}
}

// someFooter makes a right footer.
func someFooter(r *rand.Rand, cols, groups int) api.Footer {
	var f api.Footer
	for k := range cols {
		f.Cols = append(f.Cols, api.Col{Name: fmt.Sprint("c", k)})
	}
	for range groups {
		g := api.Group{Rows: 1 + r.Intn(9)}
		for range cols {
			var pages []api.PageInfo
			for left := g.Rows; left > 0; left -= pages[len(pages)-1].Rows {
				pages = append(pages, page(1+r.Intn(1000), 1+r.Intn(left)))
			}
			g.Chunks = append(g.Chunks, pages)
		}
		f.Rows += g.Rows
		f.Groups = append(f.Groups, g)
	}
	return f
}

func someQuery(r *rand.Rand, f api.Footer) api.Query {
	from := r.Intn(f.Rows + 1)
	return ask(from, from+r.Intn(f.Rows-from+1), r.Perm(len(f.Cols))[:r.Intn(len(f.Cols)+1)]...)
}

// two has groups of the rows 0 to 3 and 3 to 5, and two columns, in pages of two rows and in one.
func two() api.Footer {
	return api.Footer{Cols: []api.Col{{Name: "a"}, {Name: "b"}}, Rows: 5, Groups: []api.Group{
		{Rows: 3, Chunks: [][]api.PageInfo{{page(10, 2), page(20, 1)}, {page(30, 3)}}},
		{Rows: 2, Chunks: [][]api.PageInfo{{page(40, 2)}, {page(50, 1), page(60, 1)}}},
	}}
}

func TestP25_1Groups(t *testing.T) {
	for _, x := range []struct {
		q             api.Query
		first, behind int
	}{{ask(0, 5), 0, 2}, {ask(0, 3), 0, 1}, {ask(2, 4, 1), 0, 2}, {ask(3, 5), 1, 2}, {ask(3, 3), 0, 0}, {ask(0, 0, 0, 1), 0, 0}, {ask(5, 5), 0, 0}, {ask(4, 5, 0), 1, 2}} {
		if first, behind := Groups(two(), x.q); first != x.first || behind != x.behind {
			t.Error(x.q, first, behind)
		}
	}
}

func TestP25_1Parts(t *testing.T) {
	for _, x := range []struct {
		q    api.Query
		want []api.Part
	}{
		{ask(0, 5, 1, 0), []api.Part{{Group: 0, Col: 1, First: 0, Last: 1}, {Group: 0, Col: 0, First: 0, Last: 2}, {Group: 1, Col: 1, First: 0, Last: 2}, {Group: 1, Col: 0, First: 0, Last: 1}}},
		{ask(2, 4, 0, 1), []api.Part{{Group: 0, Col: 0, First: 1, Last: 2}, {Group: 0, Col: 1, First: 0, Last: 1}, {Group: 1, Col: 0, First: 0, Last: 1}, {Group: 1, Col: 1, First: 0, Last: 1}}},
		{ask(4, 5, 1), []api.Part{{Group: 1, Col: 1, First: 1, Last: 2}}}, {ask(0, 5), nil}, {ask(3, 3, 0, 1), nil},
	} {
		if got := Parts(two(), x.q); !slices.Equal(got, x.want) {
			t.Error(x.q, got)
		}
	}
}

func TestP25_2Counts(t *testing.T) {
	for _, x := range []struct {
		q              api.Query
		digests, bytes int
	}{
		// A column of two needs one digest, a page of two one, a group of two one.
		{ask(0, 5, 1, 0), 4, 210}, {ask(2, 4, 0, 1), 1 + 1 + 0 + 1 + 0 + 1 + 1 + 1, 20 + 30 + 40 + 50}, {ask(4, 5, 1), 3, 60}, {ask(0, 5), 2, 0}, {ask(3, 5), 1 + 1, 0}, {ask(3, 3, 0, 1), 1, 0}, {ask(0, 0), 1, 0},
	} {
		if n, m := Digests(two(), x.q), Bytes(two(), x.q); n != x.digests || m != x.bytes {
			t.Error(x.q, n, m)
		}
	}
	if Digests(api.Footer{}, ask(0, 0)) != 0 || Bytes(api.Footer{}, ask(0, 0)) != 0 {
		t.Error("of nothing")
	}
}

// What does not fit, and what is no footer, has nothing.
func TestP25_Wrong(t *testing.T) {
	wrong := two()
	wrong.Rows = 6
	far := two()
	far.Groups[0].Rows, far.Groups[1].Rows = api.MaxInt, api.MaxInt
	for _, x := range []struct {
		f api.Footer
		q api.Query
	}{{two(), ask(0, 6)}, {two(), ask(0, 5, 2)}, {two(), ask(0, 5, 0, 0)}, {two(), ask(0, 5, -1)}, {two(), ask(3, 2)}, {two(), ask(-1, 2)}, {two(), ask(api.MinInt, api.MaxInt, api.MinInt)}, {wrong, ask(0, 5, 0)}, {far, ask(0, 5, 0)}, {api.Footer{}, ask(0, 1)}, {api.Footer{Groups: make([]api.Group, 3)}, ask(0, 0)}} {
		first, behind := Groups(x.f, x.q)
		if first != 0 || behind != 0 || len(Parts(x.f, x.q)) != 0 || Digests(x.f, x.q) != -1 || Bytes(x.f, x.q) != -1 {
			t.Error(x.q, first, behind, Parts(x.f, x.q), Digests(x.f, x.q), Bytes(x.f, x.q))
		}
	}
}

func TestP25_3NothingIsShared(t *testing.T) {
	f, q := two(), ask(0, 5, 1, 0)
	got := Parts(f, q)
	got[0] = api.Part{}
	_ = append(got, api.Part{})
	Digests(f, q)
	Bytes(f, q)
	if !reflect.DeepEqual(f, two()) || !slices.Equal(q.Cols, []int{1, 0}) {
		t.Error(f, q)
	}
}

// Of all pages just those of the query's columns that have a row that is asked for are in Parts, and their counts are those of the chapter.
func TestP25_4AllRowsAndNoMore(t *testing.T) {
	r := rand.New(rand.NewSource(1))
	for range 400 {
		f := someFooter(r, r.Intn(5), r.Intn(6))
		q := someQuery(r, f)
		in := map[[3]int]bool{}
		for _, p := range Parts(f, q) {
			for k := p.First; k < p.Last; k++ {
				in[[3]int{p.Group, p.Col, k}] = true
			}
		}
		size, digests, asked := 0, 0, []int{}
		for g := range f.Groups {
			for c := range f.Cols {
				var over []int
				for p, s := range footer.Spans(f, g, c) {
					want := slices.Contains(q.Cols, c) && s.From < q.To && s.To > q.From && q.From < q.To
					if in[[3]int{g, c, p}] != want {
						t.Fatal(f, q, g, c, p)
					}
					if want {
						size += f.Groups[g].Chunks[c][p].Size
						over = append(over, p)
					}
				}
				if len(over) > 0 {
					digests += proof.Need(len(f.Groups[g].Chunks[c]), over[0], over[len(over)-1]+1) + proof.Need(len(f.Cols), c, c+1)
				}
			}
		}
		at := 0
		for g, group := range f.Groups {
			if max(at, q.From) < min(at+group.Rows, q.To) {
				asked = append(asked, g)
			}
			at += group.Rows
		}
		first, behind := 0, 0
		if len(asked) > 0 {
			first, behind = asked[0], asked[len(asked)-1]+1
		}
		if len(q.Cols) == 0 {
			digests = len(asked)
		}
		digests += proof.Need(len(f.Groups), first, behind)
		if a, b := Groups(f, q); a != first || b != behind {
			t.Fatal(f, q, a, b)
		}
		if Bytes(f, q) != size || Digests(f, q) != digests {
			t.Fatal(f, q, Bytes(f, q), Digests(f, q))
		}
	}
}

// The time does not grow with the square of the groups.
func TestP25_ManyGroups(t *testing.T) {
	f := api.Footer{Cols: []api.Col{{Name: "a"}}}
	for range 65536 {
		f.Groups = append(f.Groups, api.Group{Rows: 1, Chunks: [][]api.PageInfo{{page(1, 1)}}})
		f.Rows++
	}
	if n := len(Parts(f, ask(0, 65536, 0))); n != 65536 {
		t.Error(n)
	}
}
