package layout

import (
	"math/rand"
	"slices"
	"testing"

	"hypostyle/api"
	"hypostyle/values"
)

// spans tells spans by their ends.
func spans(ends ...int) []api.Span {
	var out []api.Span
	for k := 1; k < len(ends); k++ {
		out = append(out, api.Span{From: ends[k-1], To: ends[k]})
	}
	return out
}

func TestP18_1Cut(t *testing.T) {
	for _, x := range []struct {
		from, to, size int
		want           []api.Span
	}{
		{0, 5, 2, spans(0, 2, 4, 5)}, {0, 4, 2, spans(0, 2, 4)}, {3, 4, 9, spans(3, 4)}, {7, 10, 1, spans(7, 8, 9, 10)}, {0, 65536, 65536, spans(0, 65536)}, {65535, 65536, 1, spans(65535, 65536)},
		{0, 3, api.MaxInt, spans(0, 3)}, {2, 65536, api.MaxInt, spans(2, 65536)}, {1, 10, 4, spans(1, 5, 9, 10)},
		{0, 0, 1, nil}, {5, 5, 1, nil}, {6, 5, 1, nil}, {-1, 5, 1, nil}, {0, 65537, 1, nil}, {0, 5, 0, nil}, {0, 5, -1, nil}, {api.MinInt, api.MaxInt, 1, nil}, {api.MaxInt, api.MinInt, 1, nil}, {0, api.MaxInt, api.MaxInt, nil}, {0, 5, api.MinInt, nil}, {65536, 65536, 1, nil},
	} {
		if got := Cut(x.from, x.to, x.size); !slices.Equal(got, x.want) {
			t.Error(x.from, x.to, x.size, got)
		}
	}
	if got := Cut(0, 65536, 1); len(got) != 65536 || got[65535] != (api.Span{From: 65535, To: 65536}) {
		t.Error(len(got))
	}
}

// over is the chapter's Over, span by span and row by row.
func over(l []api.Span, from, to int) (int, int) {
	first, behind := -1, 0
	for k, s := range l {
		for row := s.From; row < s.To; row++ {
			if row >= from && row < to {
				if first < 0 {
					first = k
				}
				behind = k + 1
			}
		}
	}
	return max(first, 0), behind
}

func TestP18_2Over(t *testing.T) {
	l := Cut(0, 5, 2)
	for _, x := range [][4]int{{1, 3, 0, 2}, {0, 5, 0, 3}, {0, 2, 0, 1}, {2, 4, 1, 2}, {4, 5, 2, 3}, {4, 100, 2, 3}, {-9, 1, 0, 1}, {-9, 0, 0, 0}, {5, 6, 0, 0}, {3, 3, 0, 0}, {2, 2, 0, 0}, {3, 2, 0, 0}, {api.MinInt, api.MaxInt, 0, 3}, {api.MaxInt, api.MinInt, 0, 0}, {3, api.MaxInt, 1, 3}} {
		if first, behind := Over(l, x[0], x[1]); first != x[2] || behind != x[3] {
			t.Error(x, first, behind)
		}
	}
	if first, behind := Over(nil, 0, 5); first != 0 || behind != 0 {
		t.Error("of no spans", first, behind)
	}
	r := rand.New(rand.NewSource(1))
	for range 500 {
		ends := []int{r.Intn(20) - 5}
		for range r.Intn(8) {
			ends = append(ends, ends[len(ends)-1]+1+r.Intn(5))
		}
		l := spans(ends...)
		from, to := r.Intn(50)-10, r.Intn(50)-10
		first, behind := Over(l, from, to)
		if a, b := over(l, from, to); first != a || behind != b {
			t.Fatal(l, from, to, first, behind)
		}
	}
	// Of spans that are none of these nothing is promised but an end, without a panic.
	for range 500 {
		l := make([]api.Span, r.Intn(6))
		for k := range l {
			l[k] = api.Span{From: int(r.Uint64()), To: int(r.Uint64())}
		}
		Over(l, int(r.Uint64()), int(r.Uint64()))
	}
}

func TestP18_3Check(t *testing.T) {
	cols := []api.Col{{Name: "a", Type: api.TypeInt}, {Name: "b", Type: api.TypeText}}
	conf := func(group, page int, encs ...int) api.Conf {
		return api.Conf{GroupRows: group, PageRows: page, Encs: encs}
	}
	for k, x := range []struct {
		c    api.Conf
		want api.Errno
	}{
		{conf(1, 1, 0, 0), api.OK}, {conf(65536, 65536, api.EncBest, api.EncBest), api.OK}, {conf(1, 9, api.EncDelta, api.EncFront), api.OK},
		{conf(0, 1, 0, 0), api.ErrArg}, {conf(1, 0, 0, 0), api.ErrArg}, {conf(65537, 1, 0, 0), api.ErrArg}, {conf(1, 65537, 0, 0), api.ErrArg}, {conf(-1, 1, 0, 0), api.ErrArg}, {conf(1, api.MinInt, 0, 0), api.ErrArg}, {conf(api.MaxInt, 1, 0, 0), api.ErrArg},
		{conf(1, 1, 0), api.ErrArg}, {conf(1, 1), api.ErrArg}, {conf(1, 1, 0, 0, 0), api.ErrArg}, {conf(1, 0, 9, 9), api.ErrArg}, {conf(1, 1, 9), api.ErrArg},
		{conf(1, 1, 5, 0), api.ErrType}, {conf(1, 1, 0, -2), api.ErrType}, {conf(1, 1, api.EncFront, 0), api.ErrType}, {conf(1, 1, 0, api.EncDelta), api.ErrType}, {conf(1, 1, 0, api.MaxInt), api.ErrType},
	} {
		if err := Check(x.c, cols); err != x.want {
			t.Error(k, x.c, err)
		}
	}
	if err := Check(conf(1, 1), nil); err != api.OK {
		t.Error("no columns", err)
	}
	for typ := -1; typ <= 4; typ++ {
		for enc := -2; enc <= 5; enc++ {
			want := api.ErrType
			if enc == api.EncBest || values.Fits(typ, enc) {
				want = api.OK
			}
			if err := Check(conf(1, 1, enc), []api.Col{{Type: typ}}); err != want {
				t.Error(typ, enc, err)
			}
		}
	}
}

func TestP18_4NothingIsShared(t *testing.T) {
	l := spans(0, 1, 2)
	Over(l, 0, 2)
	a := Cut(0, 5, 2)
	a[0] = api.Span{}
	if !slices.Equal(Cut(0, 5, 2), spans(0, 2, 4, 5)) || !slices.Equal(l, spans(0, 1, 2)) {
		t.Error("what is answered is kept")
	}
}

func TestP18_5AllRowsOnce(t *testing.T) {
	r := rand.New(rand.NewSource(2))
	for range 500 {
		from := r.Intn(100)
		to, size := from+1+r.Intn(200), 1+r.Intn(20)
		l := Cut(from, to, size)
		at := from
		for k, s := range l {
			if s.From != at || s.To <= s.From || s.To-s.From > size || k < len(l)-1 && s.To-s.From != size {
				t.Fatal(from, to, size, l)
			}
			at = s.To
		}
		if at != to {
			t.Fatal(from, to, size, l)
		}
		low := from + r.Intn(to-from)
		high := low + 1 + r.Intn(to-low)
		first, behind := Over(l, low, high)
		if l[first].From > low || l[behind-1].To < high || l[first].To <= low || l[behind-1].From >= high {
			t.Fatal(l, low, high, first, behind)
		}
	}
}
