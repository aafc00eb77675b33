package schema

import (
	"bytes"
	"fmt"
	"math/rand"
	"slices"
	"strings"
	"testing"

	"hypostyle/api"
	"hypostyle/cell"
	"hypostyle/cursor"
)

func col(name string, typ int, nullable bool) api.Col {
	return api.Col{Name: name, Type: typ, Nullable: nullable}
}

// many makes n right columns.
func many(n int) []api.Col {
	l := make([]api.Col, n)
	for k := range l {
		l[k] = col(fmt.Sprint("c", k), k%4, k%3 == 0)
	}
	return l
}

func TestP16_1Put(t *testing.T) {
	long := strings.Repeat("n", 100)
	for _, x := range []struct {
		l    []api.Col
		want []byte
	}{
		{nil, []byte{0}}, {[]api.Col{col("ab", api.TypePoint, true), col("é", api.TypeInt, false)}, []byte{2, 2, 'a', 'b', 3, 1, 2, 0xc3, 0xa9, 0, 0}},
		{[]api.Col{col(long, api.TypeText, false)}, append([]byte{1, 100}, long+"\x02\x00"...)},
		{[]api.Col{col("", 0, false)}, nil}, {[]api.Col{col("a", 4, false)}, nil}, {[]api.Col{col("a", -1, false)}, nil}, {[]api.Col{col("a", 0, false), col("a", 1, true)}, nil}, {[]api.Col{col(long+"n", 0, false)}, nil}, {many(65), nil},
	} {
		if b := Put([]byte{7}, x.l); !bytes.Equal(b, append([]byte{7}, x.want...)) {
			t.Error(x.l, b)
		}
		if b := Put(nil, x.l); !bytes.Equal(b, x.want) {
			t.Error(x.l, b)
		}
	}
	if b := Put(nil, many(64)); len(b) != 1+64*3+10*2+54*3 || b[0] != 64 {
		t.Error(len(b))
	}
}

func TestP16_2GetWrong(t *testing.T) {
	for name, b := range map[string][]byte{
		"nothing": nil, "too many": {65}, "no column": {1}, "no name": {1, 0, 0, 0}, "an end in a name": {1, 3, 'a'}, "no type": {1, 1, 'a'}, "no truth": {1, 1, 'a', 0}, "another truth": {1, 1, 'a', 0, 2}, "another type": {1, 1, 'a', 4, 0},
		"a type far off": {1, 1, 'a', 255, 0}, "one name twice": {2, 1, 'a', 0, 0, 1, 'a', 1, 0}, "a long form": {0x80, 0}, "a name in a long form": {1, 0x81, 0, 'a', 0, 0}, "one of two": {2, 1, 'a', 0, 0}, "a long name": append([]byte{1, 101}, strings.Repeat("n", 103)...),
		"many": append([]byte{65}, Put(nil, many(64))[1:]...),
	} {
		c := cursor.Over(b)
		if l := Get(c); len(l) != 0 || !c.Bad() {
			t.Error(name, l)
		}
	}
	c := cursor.Over([]byte{0})
	c.Fail()
	if l := Get(c); len(l) != 0 || !c.Bad() {
		t.Error("of a bad cursor", l)
	}
}

func TestP16_3NothingIsShared(t *testing.T) {
	room, l := []byte{1, 2, 3, 4, 5, 6, 7, 8}, many(2)
	Put(room[:1], l[:1])[0] = 9
	Put(room[:1], []api.Col{{}})[0] = 9
	_ = append(Put(room[:1], []api.Col{{}}), 9)
	if !bytes.Equal(room, []byte{1, 2, 3, 4, 5, 6, 7, 8}) || !slices.Equal(l, many(2)) {
		t.Error(room, l)
	}
}

func TestP16_4PutIsGot(t *testing.T) {
	r := rand.New(rand.NewSource(1))
	taken := 0
	for n := range 65 {
		l := many(n)
		b := Put(nil, l)
		c := cursor.Over(append(bytes.Clone(b), 5))
		if got := Get(c); !slices.Equal(got, l) || c.Bad() || c.Left() != 1 {
			t.Fatal(n, got)
		}
		for range 200 {
			wrong := bytes.Clone(b)
			wrong[r.Intn(len(b))] ^= 1 << r.Intn(8)
			c := cursor.Over(wrong)
			if got := Get(c); !c.Bad() {
				taken++
				if cell.Cols(got) != api.OK || !bytes.Equal(Put(nil, got), wrong[:len(wrong)-c.Left()]) {
					t.Fatal(wrong, got)
				}
			}
		}
	}
	if taken < 100 {
		t.Error("the test takes few", taken)
	}
}
