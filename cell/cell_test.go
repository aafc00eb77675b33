package cell

import (
	"cmp"
	"fmt"
	"math/rand"
	"reflect"
	"slices"
	"strings"
	"testing"

	"hypostyle/api"
)

var types = []int{api.TypeInt, api.TypeBool, api.TypeText, api.TypePoint}

func num(n int) api.Cell       { return api.Cell{Int: n} }
func text(s string) api.Cell   { return api.Cell{Text: s} }
func place(x, y int) api.Cell  { return api.Cell{At: api.Point{X: x, Y: y}} }
func col(typ int) api.Col      { return api.Col{Name: "c", Type: typ} }
func nullable(typ int) api.Col { return api.Col{Name: "c", Type: typ, Nullable: true} }

var null = api.Cell{Null: true}

func TestP7_1RightByType(t *testing.T) {
	long := strings.Repeat("x", api.MaxText)
	for _, x := range []struct {
		c     api.Cell
		right [4]bool
	}{
		{api.Cell{}, [4]bool{true, true, true, true}},
		{num(1), [4]bool{true, true, false, false}},
		{num(2), [4]bool{true, false, false, false}},
		{num(-1), [4]bool{true, false, false, false}},
		{num(api.MinInt), [4]bool{true, false, false, false}},
		{num(api.MaxInt), [4]bool{true, false, false, false}},
		{text("a"), [4]bool{false, false, true, false}},
		{text(long), [4]bool{false, false, true, false}},
		{text(long + "x"), [4]bool{}},
		{text("\xff\x00"), [4]bool{false, false, true, false}},
		{place(0, 1), [4]bool{false, false, false, true}},
		{place(1<<20, -1<<20), [4]bool{false, false, false, true}},
		{place(1<<20+1, 0), [4]bool{}},
		{place(0, -1<<20-1), [4]bool{}},
		{api.Cell{Int: 1, Text: "a"}, [4]bool{}},
		{api.Cell{Int: 1, At: api.Point{X: 1}}, [4]bool{}},
		{api.Cell{Text: "a", At: api.Point{Y: 1}}, [4]bool{}},
	} {
		for k, typ := range types {
			if Right(x.c, col(typ)) != x.right[k] || Right(x.c, nullable(typ)) != x.right[k] {
				t.Errorf("%.30v of type %d", x.c, typ)
			}
		}
	}
}

func TestP7_1RightNulls(t *testing.T) {
	for _, typ := range append(slices.Clone(types), -1, 4, api.MaxInt, api.MinInt) {
		if !Right(null, nullable(typ)) || Right(null, col(typ)) {
			t.Error("a null, of type", typ)
		}
		for _, c := range []api.Cell{{Null: true, Int: 1}, {Null: true, Text: "a"}, {Null: true, At: api.Point{X: 1}}, {Null: true, At: api.Point{Y: 1}}} {
			if Right(c, nullable(typ)) {
				t.Error(c, typ)
			}
		}
		if (typ < 0 || typ > 3) && (Right(api.Cell{}, nullable(typ)) || Right(num(1), col(typ))) {
			t.Error("a cell of no type", typ)
		}
	}
}

func TestP7_2Compare(t *testing.T) {
	for _, x := range []struct {
		typ int
		l   []api.Cell
	}{
		{api.TypeInt, []api.Cell{null, num(api.MinInt), num(-1), num(0), num(1), num(api.MaxInt)}},
		{api.TypeBool, []api.Cell{null, num(0), num(1)}},
		{api.TypeText, []api.Cell{null, text(""), text("\x00"), text("a"), text("a\x00"), text("aa"), text("b"), text("z"), text("\x80"), text("é"), text("\xff")}},
		{api.TypePoint, []api.Cell{null, place(0, 0), place(-1, 0), place(0, -1), place(0, 1), place(1, 0), place(-5, 0), place(-4, -3), place(-1<<20, -1<<20), place(1<<20, 1<<20)}},
	} {
		for i, a := range x.l {
			for j, b := range x.l {
				if Compare(x.typ, a, b) != cmp.Compare(i, j) {
					t.Error(x.typ, a, b, Compare(x.typ, a, b))
				}
			}
		}
	}
	for _, typ := range []int{-1, 4, api.MaxInt, api.MinInt} {
		if Compare(typ, num(1), num(2)) != 0 || Compare(typ, null, num(2)) != -1 || Compare(typ, num(2), null) != 1 || Compare(typ, null, null) != 0 {
			t.Error("no type", typ)
		}
	}
	if Compare(api.TypeInt, api.Cell{Null: true, Int: 5}, null) != 0 {
		t.Error("a null is the same as another one")
	}
}

// many makes n right columns.
func many(n int) []api.Col {
	l := make([]api.Col, n)
	for k := range l {
		l[k] = api.Col{Name: fmt.Sprint("c", k), Type: k % 4, Nullable: k%3 == 0}
	}
	return l
}

func TestP7_3Cols(t *testing.T) {
	name := func(s string) api.Col { return api.Col{Name: s} }
	typed := func(s string, typ int) api.Col { return api.Col{Name: s, Type: typ} }
	for k, x := range []struct {
		l    []api.Col
		want api.Errno
	}{
		{nil, api.OK}, {many(64), api.OK}, {many(65), api.ErrFull}, {make([]api.Col, 65), api.ErrFull},
		{[]api.Col{name("")}, api.ErrArg},
		{[]api.Col{name(strings.Repeat("n", 100))}, api.OK},
		{[]api.Col{name(strings.Repeat("n", 101))}, api.ErrArg},
		{[]api.Col{name("a"), name("b"), name("a")}, api.ErrArg},
		{[]api.Col{name("a"), name("A")}, api.OK},
		{[]api.Col{typed("a", 4)}, api.ErrType}, {[]api.Col{typed("a", -1)}, api.ErrType},
		{[]api.Col{typed("", 4)}, api.ErrArg},
		{[]api.Col{typed("a", 4), name("")}, api.ErrType},
		{[]api.Col{name("a"), typed("a", 4)}, api.ErrArg},
		{[]api.Col{typed("a", 4), name("a")}, api.ErrType},
	} {
		if err := Cols(x.l); err != x.want {
			t.Error(k, err, x.want)
		}
	}
}

// someTable makes a right table.
func someTable(r *rand.Rand, cols, rows int) api.Table {
	out := api.Table{Cols: many(cols), Rows: rows}
	for _, c := range out.Cols {
		cells := make([]api.Cell, rows)
		for k := range cells {
			switch x := r.Intn(5); {
			case c.Nullable && x == 0:
				cells[k] = null
			case c.Type == api.TypeInt:
				cells[k] = num(int(r.Uint64()))
			case c.Type == api.TypeBool:
				cells[k] = num(x & 1)
			case c.Type == api.TypeText:
				cells[k] = text(strings.Repeat("ab", x))
			default:
				cells[k] = place(x-2, r.Intn(1<<20))
			}
		}
		out.Data = append(out.Data, cells)
	}
	return out
}

func TestP7_4Check(t *testing.T) {
	ok := func() api.Table { return someTable(rand.New(rand.NewSource(1)), 5, 4) }
	for name, x := range map[string]struct {
		change func(x *api.Table)
		want   api.Errno
	}{
		"right":                    {func(x *api.Table) {}, api.OK},
		"columns":                  {func(x *api.Table) { x.Cols[3].Name = ""; x.Rows = 70000 }, api.ErrArg},
		"a type":                   {func(x *api.Table) { x.Cols[3].Type = 9; x.Rows = 70000 }, api.ErrType},
		"too many columns":         {func(x *api.Table) { x.Cols = many(65) }, api.ErrFull},
		"too many rows":            {func(x *api.Table) { x.Rows = 65537 }, api.ErrFull},
		"far too many rows":        {func(x *api.Table) { x.Rows, x.Data = api.MaxInt, nil }, api.ErrFull},
		"rows at the limit":        {func(x *api.Table) { x.Rows = 65536 }, api.ErrForm},
		"rows below 0":             {func(x *api.Table) { x.Rows = -1 }, api.ErrForm},
		"few data":                 {func(x *api.Table) { x.Data = x.Data[:4]; x.Data[0][0] = text("x") }, api.ErrForm},
		"much data":                {func(x *api.Table) { x.Data = append(x.Data, x.Data[0]) }, api.ErrForm},
		"few cells":                {func(x *api.Table) { x.Data[4] = x.Data[4][:3]; x.Data[0][0] = text("x") }, api.ErrForm},
		"much cells":               {func(x *api.Table) { x.Data[2] = append(x.Data[2], api.Cell{}) }, api.ErrForm},
		"a null where none may be": {func(x *api.Table) { x.Data[1][3] = null }, api.ErrType},
		"a cell of another type":   {func(x *api.Table) { x.Data[4][3] = text("x") }, api.ErrType},
		"no columns":               {func(x *api.Table) { x.Cols, x.Data = nil, nil }, api.OK},
		"no columns, empty":        {func(x *api.Table) { x.Cols, x.Data, x.Rows = []api.Col{}, [][]api.Cell{}, 65536 }, api.OK},
		"no columns, some data":    {func(x *api.Table) { x.Cols = nil }, api.ErrForm},
		"no rows":                  {func(x *api.Table) { x.Rows, x.Data = 0, make([][]api.Cell, 5) }, api.OK},
	} {
		table := ok()
		x.change(&table)
		if err := Check(table); err != x.want {
			t.Error(name, err, x.want)
		}
		want := x.want
		if want == api.OK {
			want = api.ErrQuery
		}
		if _, err := Project(table, nil, -1, 0); err != want {
			t.Error("Project of", name, err)
		}
	}
}

func TestP7_5Project(t *testing.T) {
	table := someTable(rand.New(rand.NewSource(2)), 6, 9)
	got, err := Project(table, []int{4, 0, 5}, 2, 7)
	want := api.Table{Cols: []api.Col{table.Cols[4], table.Cols[0], table.Cols[5]}, Rows: 5, Data: [][]api.Cell{table.Data[4][2:7], table.Data[0][2:7], table.Data[5][2:7]}}
	if err != api.OK || !reflect.DeepEqual(got, want) {
		t.Error(got, err)
	}
	got, err = Project(table, nil, 1, 3)
	if err != api.OK || got.Rows != 2 || len(got.Cols)+len(got.Data) != 0 {
		t.Error(got, err)
	}
	got, err = Project(table, []int{0, 1, 2, 3, 4, 5}, 9, 9)
	if err != api.OK || got.Rows != 0 || len(got.Cols) != 6 || len(got.Data) != 6 || Check(got) != api.OK {
		t.Error(got, err)
	}
	got, err = Project(table, []int{0, 1, 2, 3, 4, 5}, 0, 9)
	if err != api.OK || !reflect.DeepEqual(got, table) {
		t.Error(got, err)
	}
}

func TestP7_5ProjectWrong(t *testing.T) {
	table := someTable(rand.New(rand.NewSource(3)), 3, 5)
	for _, x := range []struct {
		cols     []int
		from, to int
	}{
		{[]int{3}, 0, 5}, {[]int{-1}, 0, 5}, {[]int{0, 1, 0}, 0, 5}, {[]int{2, 2}, 0, 0}, {[]int{0}, -1, 5}, {[]int{0}, 0, 6}, {[]int{0}, 3, 2}, {nil, 6, 6}, {nil, -1, -1},
		{[]int{api.MaxInt}, 0, 1}, {[]int{api.MinInt}, 0, 1}, {nil, api.MinInt, api.MaxInt}, {nil, api.MaxInt, api.MinInt}, {make([]int, 1000), 0, 5},
	} {
		got, err := Project(table, x.cols, x.from, x.to)
		if err != api.ErrQuery || !reflect.DeepEqual(got, api.Table{}) {
			t.Error(x, got, err)
		}
	}
	table.Data[0][0] = text("x")
	if _, err := Project(table, []int{9}, 0, 1); err != api.ErrType {
		t.Error("Check's error comes first", err)
	}
}

func TestP7_6NothingIsShared(t *testing.T) {
	table := someTable(rand.New(rand.NewSource(4)), 4, 6)
	again := someTable(rand.New(rand.NewSource(4)), 4, 6)
	got, _ := Project(table, []int{1, 2}, 1, 3)
	got.Cols[0].Name = "x"
	got.Data[0][0] = text("x")
	_ = append(got.Data[0], text("y"))
	_ = append(got.Cols, api.Col{})
	_ = append(got.Data, nil)
	if !reflect.DeepEqual(table, again) {
		t.Error("the projection shares with the table")
	}
	if got.Data[1][0] != table.Data[2][1] {
		t.Error("columns of the projection share room")
	}
}

func TestP7_7ProjectionOfProjection(t *testing.T) {
	r := rand.New(rand.NewSource(5))
	for range 200 {
		table := someTable(r, 1+r.Intn(8), r.Intn(20))
		cols := r.Perm(len(table.Cols))[:r.Intn(len(table.Cols)+1)]
		from := r.Intn(table.Rows + 1)
		to := from + r.Intn(table.Rows-from+1)
		one, err := Project(table, cols, from, to)
		if err != api.OK || Check(one) != api.OK {
			t.Fatal(err)
		}
		inner := r.Perm(len(cols))[:r.Intn(len(cols)+1)]
		outer := make([]int, len(inner))
		for k, c := range inner {
			outer[k] = cols[c]
		}
		low := r.Intn(one.Rows + 1)
		high := low + r.Intn(one.Rows-low+1)
		two, err := Project(one, inner, low, high)
		if err != api.OK {
			t.Fatal(err)
		}
		want, err := Project(table, outer, from+low, from+high)
		if err != api.OK || !reflect.DeepEqual(two, want) {
			t.Fatal(two, want, err)
		}
	}
}
