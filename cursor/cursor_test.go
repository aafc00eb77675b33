package cursor

import (
	"bytes"
	"encoding/binary"
	"math/rand"
	"testing"
)

const (
	maxInt = 1<<63 - 1
	minInt = -1 << 63
)

func TestP3_1Put(t *testing.T) {
	if b := U32(nil, 258); !bytes.Equal(b, []byte{2, 1, 0, 0}) {
		t.Error(b)
	}
	r := rand.New(rand.NewSource(1))
	for _, ahead := range [][]byte{nil, {}, {9}, {1, 2, 3}} {
		for _, n := range []uint64{0, 1, 255, 256, 1<<32 - 1, 1 << 32, 1 << 63, 1<<64 - 1, r.Uint64(), r.Uint64()} {
			if b := U64(ahead, n); !bytes.Equal(b, binary.LittleEndian.AppendUint64(bytes.Clone(ahead), n)) {
				t.Error(ahead, n, b)
			}
			if b := U32(ahead, uint32(n)); !bytes.Equal(b, binary.LittleEndian.AppendUint32(bytes.Clone(ahead), uint32(n))) {
				t.Error(ahead, n, b)
			}
		}
	}
}

func TestP3_2Reads(t *testing.T) {
	b := []byte{1, 2, 1, 0, 255, 8, 7, 6, 5, 4, 3, 2, 129, 50, 51, 52}
	c := Over(b)
	if c.Bad() || c.Left() != 16 || c.End() {
		t.Error("a new cursor is bad, or not ahead of all")
	}
	if x := c.Byte(); x != 1 || c.Left() != 15 {
		t.Error(x, c.Left())
	}
	if x := c.U32(); x != 0xff000102 || c.Left() != 11 {
		t.Error(x, c.Left())
	}
	if x := c.U64(); x != 0x8102030405060708 || c.Left() != 3 {
		t.Error(x, c.Left())
	}
	if x := c.Take(0); len(x) != 0 || c.Left() != 3 || c.Bad() {
		t.Error(x, c.Left())
	}
	if x := c.Take(2); !bytes.Equal(x, []byte{50, 51}) || c.Left() != 1 || c.End() {
		t.Error(x, c.Left())
	}
	if x := c.Take(1); !bytes.Equal(x, []byte{52}) || !c.End() || c.Bad() {
		t.Error(x, c.Left())
	}
	if x := c.Take(0); len(x) != 0 || !c.End() {
		t.Error("no bytes are there at the end, too")
	}
}

// Each read of too few bytes makes the cursor bad, and leaves nothing.
func TestP3_2TooFew(t *testing.T) {
	reads := []struct {
		name string
		need int
		read func(c *Cursor) bool
	}{
		{"Byte", 1, func(c *Cursor) bool { return c.Byte() == 0 }},
		{"U32", 4, func(c *Cursor) bool { return c.U32() == 0 }},
		{"U64", 8, func(c *Cursor) bool { return c.U64() == 0 }},
		{"Take(5)", 5, func(c *Cursor) bool { return len(c.Take(5)) == 0 }},
		{"Take(MaxInt)", maxInt, func(c *Cursor) bool { return len(c.Take(maxInt)) == 0 }},
		{"Take(-1)", maxInt, func(c *Cursor) bool { return len(c.Take(-1)) == 0 }},
		{"Take(MinInt)", maxInt, func(c *Cursor) bool { return len(c.Take(minInt)) == 0 }},
		{"Fail", maxInt, func(c *Cursor) bool { c.Fail(); return true }},
	}
	for _, x := range reads {
		for n := range 12 {
			c := Over(bytes.Repeat([]byte{0xff}, n))
			zero := x.read(c)
			if n >= x.need {
				if zero || c.Bad() || c.Left() != n-x.need {
					t.Error(x.name, "of", n, "bytes fails")
				}
				continue
			}
			if !zero || !c.Bad() || c.Left() != 0 || c.End() {
				t.Error(x.name, "of", n, "bytes:", zero, c.Bad(), c.Left(), c.End())
			}
		}
	}
}

func TestP3_3Ends(t *testing.T) {
	c := Over(nil)
	if !c.End() || c.Bad() || c.Left() != 0 {
		t.Error("no bytes are at their end")
	}
	c.Take(1)
	if c.End() || !c.Bad() || c.Left() != 0 {
		t.Error("a bad cursor is at no end")
	}
}

func TestP3_4NothingIsShared(t *testing.T) {
	room := []byte{1, 2, 3, 4, 5, 6, 7, 8, 9, 10, 11, 12}
	U32(room[:1], 1<<32-1)
	U64(room[:1], 1<<64-1)
	if !bytes.Equal(room, []byte{1, 2, 3, 4, 5, 6, 7, 8, 9, 10, 11, 12}) {
		t.Error("spare room was written to", room)
	}
	c := Over(room)
	room[0] = 77
	x := c.Take(2)
	if x[0] != 1 {
		t.Error("a cursor keeps what it was handed")
	}
	_ = append(x, 88, 88, 88)
	if c.Byte() != 3 {
		t.Error("what is taken shares room with what is left")
	}
}

func TestP3_5WhatWasLaidIsRead(t *testing.T) {
	r := rand.New(rand.NewSource(2))
	for range 200 {
		x, y := r.Uint64(), r.Uint32()
		c := Over(U64(U32(U64([]byte{5}, x), y), x))
		if c.Byte() != 5 || c.U64() != x || c.U32() != y || c.U64() != x || !c.End() {
			t.Fatal(x, y)
		}
	}
}

func TestP3_5BadStaysBad(t *testing.T) {
	c := Over([]byte{1, 2, 3, 4, 5, 6, 7, 8, 9, 10, 11, 12})
	c.Fail()
	if c.Byte() != 0 || c.U32() != 0 || c.U64() != 0 || len(c.Take(0)) != 0 || len(c.Take(1)) != 0 || c.Left() != 0 || !c.Bad() || c.End() {
		t.Error("a bad cursor reads")
	}
	c.Fail()
	if !c.Bad() {
		t.Error("who fails twice is bad")
	}
}
