package sheaf

import (
	"slices"
	"testing"

	"hypostyle/api"
	"hypostyle/page"
	"hypostyle/stat"
)

func TestCut(t *testing.T) {
	info := func(size int) api.PageInfo { return api.PageInfo{Size: size, Rows: 1} }
	f := api.Footer{Groups: []api.Group{
		{Chunks: [][]api.PageInfo{{info(1), info(2)}, {info(1)}}},
		{Chunks: [][]api.PageInfo{{info(2)}, {info(1), info(1)}}},
	}}
	got := Cut([]byte("HYPOabbcddefmore"), f)
	want := [][][]string{{{"a", "bb"}, {"c"}}, {{"dd"}, {"e", "f"}}}
	if len(got) != len(want) {
		t.Fatal(got)
	}
	for g := range want {
		for c := range want[g] {
			var pages []string
			for _, b := range got[g][c] {
				pages = append(pages, string(b))
			}
			if !slices.Equal(pages, want[g][c]) {
				t.Error(g, c, pages)
			}
		}
	}
	if got := Cut([]byte("HYPO"), api.Footer{Groups: []api.Group{{Rows: 3}}}); len(got) != 1 || len(got[0]) != 0 {
		t.Error("no columns", got)
	}
}

func TestCells(t *testing.T) {
	col := api.Col{Name: "a", Nullable: true}
	cells := []api.Cell{{Int: 3}, {Null: true}, {Int: 1}}
	b, _ := page.Encode(col, api.EncPlain, cells)
	info := api.PageInfo{Size: len(b), Rows: 3, Stat: stat.Of(col.Type, cells)}
	if got, ok := Cells(col, info, b); !ok || !slices.Equal(got, cells) {
		t.Error(got, ok)
	}
	for name, change := range map[string]func(x *api.PageInfo){
		"size": func(x *api.PageInfo) { x.Size++ }, "rows": func(x *api.PageInfo) { x.Rows++ }, "nulls": func(x *api.PageInfo) { x.Stat.Nulls = 0 }, "least": func(x *api.PageInfo) { x.Stat.Min.Int = 0 }, "greatest": func(x *api.PageInfo) { x.Stat.Max.Int = 4 }, "none": func(x *api.PageInfo) { x.Stat = api.Stat{Nulls: 1} },
	} {
		wrong := info
		change(&wrong)
		if got, ok := Cells(col, wrong, b); ok || len(got) != 0 {
			t.Error(name, got)
		}
	}
	if got, ok := Cells(col, info, b[1:]); ok || len(got) != 0 {
		t.Error("no page", got)
	}
}
