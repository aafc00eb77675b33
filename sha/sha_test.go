package sha

import (
	"bytes"
	"crypto/sha256"
	"encoding/binary"
	"math/rand"
	"testing"
)

// The state ahead of the first block is the one that the standard names.
func TestP1_1First(t *testing.T) {
	want := [8]uint32{0x6a09e667, 0xbb67ae85, 0x3c6ef372, 0xa54ff53a, 0x510e527f, 0x9b05688c, 0x1f83d9ab, 0x5be0cd19}
	if First() != want {
		t.Errorf("%x", First())
	}
}

func TestP1_2CompressOneBlock(t *testing.T) {
	var block [64]byte
	copy(block[:], "abc\x80")
	block[63] = 24
	want := [8]uint32{0xba7816bf, 0x8f01cfea, 0x414140de, 0x5dae2223, 0xb00361a3, 0x96177a9c, 0xb410ff61, 0xf20015ad}
	if h := Compress(First(), block); h != want {
		t.Errorf("%x", h)
	}
}

// Compress, at any block, gives what the library's sum of that block alone is made of.
func TestP1_2CompressAnyBlock(t *testing.T) {
	r := rand.New(rand.NewSource(1))
	for range 200 {
		var block [64]byte
		r.Read(block[:])
		h := Compress(First(), block)
		var pad [64]byte
		copy(pad[:], Pad(64))
		h = Compress(h, pad)
		want := sha256.Sum256(block[:])
		for k, x := range h {
			if x != binary.BigEndian.Uint32(want[4*k:]) {
				t.Fatalf("block %x: %x, want %x", block, h, want)
			}
		}
	}
}

// Compress adds to the state that it is given, not to the first one.
func TestP1_2CompressOtherState(t *testing.T) {
	h := Compress([8]uint32{}, [64]byte{})
	if h == Compress(First(), [64]byte{}) || h == ([8]uint32{}) {
		t.Errorf("%x", h)
	}
}

func TestP1_3PadEdges(t *testing.T) {
	for _, n := range []int{0, 1, 54, 55, 56, 57, 63, 64, 65, 119, 120, 128, 1 << 20, 1<<31 - 10, 1<<31 - 1} {
		p := Pad(n)
		if len(p) < 9 || len(p) > 72 || (n+len(p))%64 != 0 {
			t.Fatal(n, len(p))
		}
		if p[0] != 0x80 || len(bytes.Trim(p[1:len(p)-8], "\x00")) != 0 {
			t.Errorf("%d: %x", n, p)
		}
		if got := binary.BigEndian.Uint64(p[len(p)-8:]); got != uint64(n)*8 {
			t.Errorf("%d: counts %d bits", n, got)
		}
	}
	if len(Pad(55)) != 9 || len(Pad(56)) != 72 {
		t.Error("more bytes 0 than are needed, or fewer")
	}
}

func TestP1_3PadOfNone(t *testing.T) {
	for _, n := range []int{-1, -64, -1 << 63, 1 << 31, 1<<63 - 1} {
		if p := Pad(n); len(p) != 0 {
			t.Errorf("%d: %x", n, p)
		}
	}
}

func TestP1_4SumAllLengths(t *testing.T) {
	r := rand.New(rand.NewSource(2))
	for n := range 300 {
		b := make([]byte, n)
		r.Read(b)
		if Sum(b) != sha256.Sum256(b) {
			t.Errorf("%d bytes: %x", n, Sum(b))
		}
	}
	if Sum(nil) != Sum([]byte{}) {
		t.Error("none and empty differ")
	}
}

func TestP1_4SumExamples(t *testing.T) {
	for s, want := range map[string][4]byte{"": {0xe3, 0xb0, 0xc4, 0x42}, "abc": {0xba, 0x78, 0x16, 0xbf}} {
		if d := Sum([]byte(s)); [4]byte(d[:4]) != want {
			t.Errorf("%q: %x", s, d)
		}
	}
}

// Neither what is handed in nor its spare room is written to, and no two answers share memory.
func TestP1_5NothingIsShared(t *testing.T) {
	room := bytes.Repeat([]byte{7}, 200)
	Sum(room[:70])
	if !bytes.Equal(room, bytes.Repeat([]byte{7}, 200)) {
		t.Error("Sum wrote to what it was handed")
	}
	p := Pad(3)
	p[0] = 1
	if Pad(3)[0] != 0x80 {
		t.Error("Pad keeps what it answered")
	}
	block := [64]byte{1}
	state := First()
	Compress(state, block)
	if state != First() || block != ([64]byte{1}) {
		t.Error("Compress changed what it was handed")
	}
}

// A message summed block by block, by hand, comes to its Sum, also when it begins within other bytes.
func TestP1_6BlockByBlock(t *testing.T) {
	r := rand.New(rand.NewSource(3))
	all := make([]byte, 500)
	r.Read(all)
	for from := 0; from < 70; from += 3 {
		b := all[from:]
		whole := append(append([]byte(nil), b...), Pad(len(b))...)
		h := First()
		for ; len(whole) > 0; whole = whole[64:] {
			h = Compress(h, [64]byte(whole))
		}
		d := Sum(b)
		for k, x := range h {
			if x != binary.BigEndian.Uint32(d[4*k:]) {
				t.Fatalf("from %d: %x, %x", from, h, d)
			}
		}
	}
}
