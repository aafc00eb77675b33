package point

import (
	"cmp"
	"math/rand"
	"slices"
	"testing"

	"hypostyle/api"
)

const (
	far    = 1 << 20
	near   = 1 << 21
	maxInt = 1<<63 - 1
	minInt = -1 << 63
)

func pt(x, y int) api.Point { return api.Point{X: x, Y: y} }

// pts tells points by their coordinates, one behind the other.
func pts(l ...int) []api.Point {
	var out []api.Point
	for k := 0; k < len(l); k += 2 {
		out = append(out, pt(l[k], l[k+1]))
	}
	return out
}

// ends are the coordinates at which something changes.
var ends = []int{0, 1, -1, 2, 3, -7, far, -far, far - 1, 1 - far, far + 1, -far - 1, near, -near, near - 1, 1 - near}

func nearPoints() []api.Point {
	var out []api.Point
	for _, x := range ends {
		for _, y := range ends {
			out = append(out, pt(x, y))
		}
	}
	r := rand.New(rand.NewSource(1))
	for range 100 {
		out = append(out, pt(r.Intn(2*near+1)-near, r.Intn(2*near+1)-near))
	}
	return out
}

func TestP6_1Right(t *testing.T) {
	for _, x := range append(slices.Clone(ends), maxInt, minInt) {
		want := x >= -far && x <= far
		if Right(pt(x, 0)) != want || Right(pt(0, x)) != want || Right(pt(x, x)) != want || Right(pt(x, -5)) != want {
			t.Error(x)
		}
	}
}

func TestP6_1Reckon(t *testing.T) {
	if Mul(pt(1, 2), pt(3, -1)) != pt(5, 5) || Turn(pt(1, 2), 1) != pt(-2, 1) {
		t.Error("the chapter's examples")
	}
	all := nearPoints()
	for _, p := range all {
		for _, q := range all {
			if Add(p, q) != pt(p.X+q.X, p.Y+q.Y) || Sub(p, q) != pt(p.X-q.X, p.Y-q.Y) {
				t.Fatal(p, q)
			}
			if Mul(p, q) != pt(p.X*q.X-p.Y*q.Y, p.X*q.Y+p.Y*q.X) {
				t.Fatal(p, q, Mul(p, q))
			}
		}
		if Norm(p) != p.X*p.X+p.Y*p.Y {
			t.Fatal(p, Norm(p))
		}
	}
}

func TestP6_1Turn(t *testing.T) {
	for _, p := range nearPoints() {
		want := p
		for quarters := range 9 {
			if Turn(p, quarters) != want {
				t.Fatal(p, quarters, Turn(p, quarters))
			}
			want = pt(-want.Y, want.X)
		}
		want = p
		for quarters := range 9 {
			if Turn(p, -quarters) != want {
				t.Fatal(p, -quarters, Turn(p, -quarters))
			}
			want = pt(want.Y, -want.X)
		}
		if Turn(p, maxInt) != pt(p.Y, -p.X) || Turn(p, minInt) != p || Turn(p, minInt+1) != pt(-p.Y, p.X) {
			t.Fatal(p, "turned by the ends of numbers")
		}
	}
}

func TestP6_2Compare(t *testing.T) {
	all := nearPoints()
	for _, p := range all {
		for _, q := range all {
			want := cmp.Compare(p.X*p.X+p.Y*p.Y, q.X*q.X+q.Y*q.Y)
			if want == 0 {
				want = cmp.Compare(p.X, q.X)
			}
			if want == 0 {
				want = cmp.Compare(p.Y, q.Y)
			}
			if Compare(p, q) != want {
				t.Fatal(p, q, Compare(p, q))
			}
		}
	}
	order := pts(0, 0, -1, 0, 0, -1, 0, 1, 1, 0, -1, -1, -5, 0, -4, -3, -4, 3, -3, -4, 0, -5, 0, 5, 3, 4, 5, 0)
	if !slices.IsSortedFunc(order, Compare) {
		t.Error("norm, then X, then Y")
	}
}

func TestP6_3Steps(t *testing.T) {
	if got := Steps(pts(5, 6, 5, 7, -far, far, far, -far)); !slices.Equal(got, pts(5, 6, 0, 1, -far-5, far-7, near, -near)) {
		t.Error(got)
	}
	if len(Steps(nil)) != 0 {
		t.Error("steps of none")
	}
	for _, wrong := range pts(far+1, 0, 0, -far-1, minInt, 0, 0, maxInt) {
		for _, l := range [][]api.Point{{wrong}, {pt(1, 1), wrong}, {wrong, pt(1, 1)}} {
			if got := Steps(l); len(got) != 0 {
				t.Error(l, got)
			}
		}
	}
}

func TestP6_3Walk(t *testing.T) {
	if got, ok := Walk(pts(5, 6, 0, 1, -far-5, far-7, near, -near)); !ok || !slices.Equal(got, pts(5, 6, 5, 7, -far, far, far, -far)) {
		t.Error(got, ok)
	}
	if got, ok := Walk(nil); !ok || len(got) != 0 {
		t.Error(got, ok)
	}
	for _, l := range [][]api.Point{
		pts(far+1, 0), pts(0, -far-1), pts(far, 0, 1, 0), pts(0, -far, 0, -1), pts(1, 1, maxInt, 0), pts(1, 1, 0, minInt), pts(minInt, minInt),
		pts(far, 0, 1, 0, -1, 0), pts(-far, 0, near+1, 0), pts(maxInt, maxInt, minInt, minInt), pts(-1, 0, minInt, 0),
		pts(0, 0, 1<<53, 0, -1<<53, 0), pts(far, far, -1<<53, 0), pts(far, 0, -1<<63+far, 0),
	} {
		if got, ok := Walk(l); ok || len(got) != 0 {
			t.Error(l, got, ok)
		}
	}
}

func TestP6_4NothingIsShared(t *testing.T) {
	l := pts(1, 2, 3, 4, 9, 9)
	Steps(l[:2])[0] = pt(7, 7)
	w, _ := Walk(l[:2])
	w[0] = pt(7, 7)
	_, _ = append(Steps(l[:2]), pt(8, 8)), append(w, pt(8, 8))
	if !slices.Equal(l, pts(1, 2, 3, 4, 9, 9)) {
		t.Error(l)
	}
}

func TestP6_5Follows(t *testing.T) {
	r := rand.New(rand.NewSource(2))
	some := func(most int) api.Point { return pt(r.Intn(2*most+1)-most, r.Intn(2*most+1)-most) }
	for range 300 {
		l := make([]api.Point, r.Intn(20))
		for k := range l {
			l[k] = some(far)
		}
		if got, ok := Walk(Steps(l)); !ok || !slices.Equal(got, l) {
			t.Fatal(l, got, ok)
		}
		p, q := some(1000), some(1000)
		if Norm(Mul(p, q)) != Norm(p)*Norm(q) {
			t.Fatal(p, q)
		}
		if Turn(p, 4) != p || Turn(Turn(p, 3), 5) != p || Turn(Turn(p, 7), -7) != p {
			t.Fatal(p)
		}
	}
}

// Of points that are not near nothing is promised but an end, without a panic.
func TestW1NoPanics(t *testing.T) {
	for _, x := range []int{maxInt, minInt, 1 << 62, near + 1} {
		p := pt(x, -x)
		Add(p, p)
		Sub(p, p)
		Mul(p, p)
		Norm(p)
		Turn(p, x)
		Compare(p, pt(-x, x))
	}
}
