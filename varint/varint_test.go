package varint

import (
	"bytes"
	"encoding/binary"
	"math/rand"
	"testing"

	"hypostyle/cursor"
)

const (
	maxInt = 1<<63 - 1
	minInt = -1 << 63
)

// numbers are all at which the number of bytes changes, their neighbours, and some others.
func numbers() []uint64 {
	out := []uint64{0, 1, 2, 300, 1<<64 - 1, 1<<64 - 2}
	for k := 1; k < 64; k++ {
		out = append(out, 1<<k-1, 1<<k, 1<<k+1)
	}
	r := rand.New(rand.NewSource(1))
	for range 500 {
		out = append(out, r.Uint64()>>r.Intn(64))
	}
	return out
}

func TestP4_1Put(t *testing.T) {
	if b := Put(nil, 300); !bytes.Equal(b, []byte{0xac, 2}) {
		t.Error(b)
	}
	if b := Put(nil, 0); !bytes.Equal(b, []byte{0}) {
		t.Error(b)
	}
	for _, n := range numbers() {
		want := binary.AppendUvarint([]byte{9, 9}, n)
		if b := Put([]byte{9, 9}, n); !bytes.Equal(b, want) {
			t.Error(n, b)
		}
		if Size(n) != len(want)-2 {
			t.Error(n, Size(n))
		}
	}
	if Size(0) != 1 || Size(127) != 1 || Size(128) != 2 || Size(1<<63-1) != 9 || Size(1<<63) != 10 {
		t.Error("sizes")
	}
}

func TestP4_2Get(t *testing.T) {
	for _, n := range numbers() {
		c := cursor.Over(append(Put(nil, n), 0x80, 0x80))
		if got := Get(c); got != n || c.Bad() || c.Left() != 2 {
			t.Error(n, got, c.Left())
		}
	}
}

func TestP4_2GetWrong(t *testing.T) {
	ff := bytes.Repeat([]byte{0xff}, 9)
	eighty := bytes.Repeat([]byte{0x80}, 9)
	for _, b := range [][]byte{
		nil, {0x80}, {0xff, 0xff}, ff, eighty,
		{0x80, 0}, {0xff, 0}, {0x80, 0x80, 0}, append(bytes.Clone(ff), 0), append(bytes.Clone(eighty), 0),
		append(bytes.Clone(ff), 2), append(bytes.Clone(eighty), 2), append(bytes.Clone(ff), 0x7f),
		append(bytes.Clone(ff), 0x80, 1), append(bytes.Clone(ff), 0x81, 0), append(bytes.Clone(ff), 0xff, 0xff, 0xff),
	} {
		// What is behind the wrong bytes may not mend them.
		c := cursor.Over(b)
		if n := Get(c); n != 0 || !c.Bad() || c.Left() != 0 {
			t.Errorf("%x: %d, %v", b, n, c.Bad())
		}
	}
	c := cursor.Over(append(bytes.Clone(ff), 1))
	if n := Get(c); n != 1<<64-1 || !c.End() {
		t.Error(n)
	}
	c = cursor.Over(append(bytes.Clone(eighty), 1))
	if n := Get(c); n != 1<<63 || !c.End() {
		t.Error(n)
	}
	c = cursor.Over([]byte{5})
	c.Fail()
	if Get(c) != 0 || !c.Bad() {
		t.Error("a bad cursor has a number")
	}
}

func TestP4_3ZigZag(t *testing.T) {
	for n, want := range map[int]uint64{0: 0, -1: 1, 1: 2, -2: 3, 2: 4, maxInt: 1<<64 - 2, minInt: 1<<64 - 1} {
		if Zig(n) != want || Zag(want) != n {
			t.Error(n, Zig(n), Zag(want))
		}
	}
	for _, u := range numbers() {
		n := Zag(u)
		want := uint64(n) * 2
		if n < 0 {
			want = -uint64(n)*2 - 1
		}
		if u != want || Zig(n) != u {
			t.Error(u, n, Zig(n))
		}
	}
}

func TestP4_4Len(t *testing.T) {
	for _, x := range []struct {
		n    uint64
		most int
		ok   bool
	}{{0, 0, true}, {1, 0, false}, {5, 5, true}, {6, 5, false}, {300, 299, false}, {300, 300, true}, {0, -1, false}, {0, minInt, false}, {1 << 63, maxInt, false}, {1<<64 - 1, maxInt, false}, {1<<64 - 1, -1, false}, {maxInt, maxInt, true}} {
		c := cursor.Over(append(Put(nil, x.n), 7))
		got := Len(c, x.most)
		if c.Bad() == x.ok || x.ok && (uint64(got) != x.n || c.Left() != 1) || !x.ok && (got != 0 || c.Left() != 0) {
			t.Error(x, got, c.Bad())
		}
	}
	c := cursor.Over([]byte{0x80, 0})
	if Len(c, 9) != 0 || !c.Bad() {
		t.Error("no number's bytes have a Len")
	}
}

func TestP4_5NothingIsShared(t *testing.T) {
	room := []byte{1, 2, 3, 4, 5}
	b := Put(room[:1], 1<<20)
	if !bytes.Equal(room, []byte{1, 2, 3, 4, 5}) {
		t.Error("spare room was written to", room)
	}
	b[0] = 9
	if room[0] != 1 {
		t.Error("what is answered shares with what was handed in")
	}
}

// Of all rows of two bytes, and many of more, just those are read that are put.
func TestP4_6OneForm(t *testing.T) {
	check := func(b []byte) {
		c := cursor.Over(b)
		n := Get(c)
		if !c.Bad() && !bytes.Equal(Put(nil, n), b[:len(b)-c.Left()]) {
			t.Fatalf("%x is read as %d", b, n)
		}
	}
	for x := range 1 << 16 {
		check([]byte{byte(x), byte(x >> 8)})
	}
	r := rand.New(rand.NewSource(2))
	for range 20000 {
		b := make([]byte, 1+r.Intn(12))
		for k := range b {
			b[k] = []byte{0x80, 0xff, 0, 1, 2, byte(r.Intn(256))}[r.Intn(6)]
		}
		check(b)
	}
}
