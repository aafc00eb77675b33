package tag

import (
	"bytes"
	"crypto/sha256"
	"encoding/binary"
	"math/rand"
	"slices"
	"strings"
	"testing"

	"hypostyle/api"
)

func same(a, b [][]byte) bool { return slices.EqualFunc(a, b, bytes.Equal) }

// frame is the frame as the chapter tells it, built another way.
func frame(tag string, parts [][]byte) []byte {
	var b bytes.Buffer
	b.WriteByte(byte(len(tag)))
	b.WriteString(tag)
	b.WriteByte(byte(len(parts)))
	for _, p := range parts {
		binary.Write(&b, binary.LittleEndian, uint64(len(p)))
		b.Write(p)
	}
	return b.Bytes()
}

func someParts(r *rand.Rand) [][]byte {
	parts := make([][]byte, r.Intn(5))
	for k := range parts {
		parts[k] = make([]byte, r.Intn(4)*r.Intn(100))
		r.Read(parts[k])
	}
	return parts
}

func TestP2_1FrameExample(t *testing.T) {
	b, ok := Frame("t", []byte("a"))
	if !ok || !bytes.Equal(b, []byte{1, 't', 1, 1, 0, 0, 0, 0, 0, 0, 0, 'a'}) {
		t.Error(b, ok)
	}
	if b, ok := Frame("t"); !ok || !bytes.Equal(b, []byte{1, 't', 0}) {
		t.Error(b, ok)
	}
	if b, ok := Frame("t", make([]byte, 258)); !ok || b[3] != 2 || b[4] != 1 {
		t.Error(b[:5], ok)
	}
}

func TestP2_1FrameEdges(t *testing.T) {
	for _, n := range []int{0, 1, 2, 254, 255, 256, 257, 511, 512, 1000} {
		name := strings.Repeat("x", n)
		b, ok := Frame(name, []byte{1})
		if ok != (n >= 1 && n <= 255) || !ok && len(b) != 0 {
			t.Error("tag of", n, "bytes:", len(b), ok)
		}
		parts := make([][]byte, n)
		b, ok = Frame("t", parts...)
		if ok != (n <= 255) || !ok && len(b) != 0 {
			t.Error(n, "parts:", len(b), ok)
		}
		if ok {
			if tag, got, is := Parse(b); !is || tag != "t" || !same(got, parts) {
				t.Error(n, "parts are parsed as", tag, len(got), is)
			}
		}
	}
	long := strings.Repeat("y", 255)
	b, _ := Frame(long, []byte{1}, nil)
	if tag, parts, ok := Parse(b); !ok || tag != long || !same(parts, [][]byte{{1}, {}}) {
		t.Error("a tag of 255 bytes:", tag, parts, ok)
	}
}

func TestP2_1FrameRandom(t *testing.T) {
	r := rand.New(rand.NewSource(1))
	for range 300 {
		name := strings.Repeat(string(rune('a'+r.Intn(26))), 1+r.Intn(255))
		parts := someParts(r)
		b, ok := Frame(name, parts...)
		if !ok || !bytes.Equal(b, frame(name, parts)) {
			t.Fatal(name, parts, b, ok)
		}
		tag, got, ok := Parse(b)
		if !ok || tag != name || !same(got, parts) {
			t.Fatal(tag, got, ok)
		}
	}
}

// What is parsed is what b is the frame of, and each cut, lengthened or turned b is held to that.
func TestP2_1ParseWrong(t *testing.T) {
	r := rand.New(rand.NewSource(2))
	check := func(b []byte) bool {
		tag, parts, ok := Parse(b)
		if !ok && (tag != "" || len(parts) != 0) {
			t.Fatal("false, with more than zero values")
		}
		if ok {
			if again, is := Frame(tag, parts...); !is || !bytes.Equal(again, b) {
				t.Fatalf("%x is parsed, and is no frame", b)
			}
		}
		return ok
	}
	for range 100 {
		b, _ := Frame("tag", someParts(r)...)
		for n := range b {
			if check(b[:n]) {
				t.Fatalf("%x is parsed, but too short", b[:n])
			}
			c := bytes.Clone(b)
			c[n] ^= byte(1 << r.Intn(8))
			check(c)
		}
		if check(append(bytes.Clone(b), 0)) {
			t.Fatalf("%x and 0 is parsed", b)
		}
	}
	for _, b := range [][]byte{nil, {0}, {0, 0}, {1}, {1, 'a'}, {255}, {1, 'a', 1}, {1, 'a', 1, 255, 255, 255, 255, 255, 255, 255, 255}, {1, 'a', 1, 0, 0, 0, 0, 0, 0, 0, 128}, {1, 'a', 1, 248, 255, 255, 255, 255, 255, 255, 255}, append([]byte{255}, make([]byte, 255)...)} {
		if check(b) {
			t.Errorf("%x is parsed", b)
		}
	}
}

func TestP2_2Hash(t *testing.T) {
	r := rand.New(rand.NewSource(3))
	for range 100 {
		parts := someParts(r)
		if d := Hash("a tag", parts...); d != sha256.Sum256(frame("a tag", parts)) {
			t.Fatal(parts, d)
		}
	}
	if Hash("", nil) != (api.Digest{}) || Hash(strings.Repeat("x", 256)) != (api.Digest{}) || Hash("t", make([][]byte, 256)...) != (api.Digest{}) {
		t.Error("a digest of no frame")
	}
}

func TestP2_3Log(t *testing.T) {
	l := New()
	if len(l.Frames()) != 0 {
		t.Error("a new log has frames")
	}
	var want [][]byte
	for _, x := range []string{"a", "b", "a", "a"} {
		if l.Hash("t", []byte(x)) != Hash("t", []byte(x)) {
			t.Error("the log's digest is another one")
		}
		want = append(want, frame("t", [][]byte{[]byte(x)}))
	}
	if l.Hash("", []byte("c")) != (api.Digest{}) || l.Hash("t", make([][]byte, 256)...) != (api.Digest{}) {
		t.Error("a digest of no frame")
	}
	if !same(l.Frames(), want) {
		t.Error(l.Frames())
	}
	if len(New().Frames()) != 0 {
		t.Error("logs share frames")
	}
}

func TestP2_4ExtractNone(t *testing.T) {
	a, b := New(), New()
	for _, l := range []*Log{a, b} {
		for k := range 50 {
			l.Hash("t", []byte{byte(k)})
			l.Hash("t", []byte{byte(k)})
		}
	}
	if x, y, ok := Extract(a, b); ok || len(x) != 0 || len(y) != 0 {
		t.Error(x, y, ok)
	}
	if _, _, ok := Extract(a, a); ok {
		t.Error("a log has two unlike frames of one digest")
	}
	if _, _, ok := Extract(New(), b); ok {
		t.Error("of no frames")
	}
}

// By a sum that many frames share, what is extracted is what two plain loops find first.
func TestP2_4ExtractFirst(t *testing.T) {
	weak := func(b []byte) api.Digest { return api.Digest{b[0] & 3} }
	plain := func(a, b [][]byte) ([]byte, []byte, bool) {
		for _, x := range a {
			for _, y := range b {
				if !bytes.Equal(x, y) && weak(x) == weak(y) {
					return x, y, true
				}
			}
		}
		return nil, nil, false
	}
	r := rand.New(rand.NewSource(4))
	found := 0
	for range 3000 {
		a, b := make([][]byte, r.Intn(6)), make([][]byte, r.Intn(6))
		for _, l := range [][][]byte{a, b} {
			for k := range l {
				l[k] = []byte{byte(r.Intn(7))}
			}
		}
		x, y, ok := extract(a, b, weak)
		wx, wy, want := plain(a, b)
		if !bytes.Equal(x, wx) || !bytes.Equal(y, wy) || ok != want {
			t.Fatal(a, b, x, y, ok, wx, wy, want)
		}
		if ok {
			found++
			x[0], y[0] = x[0]+100, y[0]+100
			if wx[0] > 6 || wy[0] > 6 {
				t.Fatal("what is extracted shares with a log")
			}
		}
	}
	if found < 100 || found > 2900 {
		t.Error("the test looks at one case alone:", found)
	}
}

func TestP2_5NothingIsShared(t *testing.T) {
	room := []byte{1, 2, 3, 4, 5, 6, 7, 8}
	b, _ := Frame("t", room[:2], room[2:4])
	room[0] = 9
	if b[11] != 1 || !bytes.Equal(room, []byte{9, 2, 3, 4, 5, 6, 7, 8}) {
		t.Error("a frame shares with its parts")
	}
	_, parts, _ := Parse(b)
	b[11], b[12] = 77, 78
	if parts[0][0] != 1 || parts[0][1] != 2 {
		t.Error("parts share with their frame")
	}
	_ = append(parts[0], 66)
	if parts[1][0] != 3 {
		t.Error("parts share room")
	}
	l := New()
	l.Hash("t", room)
	room[0] = 10
	f := l.Frames()
	if f[0][11] != 9 {
		t.Error("a log keeps what it was handed")
	}
	f[0][11] = 11
	if l.Frames()[0][11] != 9 {
		t.Error("a log answers what it keeps")
	}
}

// Tags and parts that a plain joining would mix up have frames that are not alike.
func TestP2_6UnlikeFrames(t *testing.T) {
	seen := map[string]bool{}
	all := []struct {
		tag   string
		parts [][]byte
	}{
		{"a", nil}, {"a", [][]byte{{}}}, {"a", [][]byte{{}, {}}}, {"ab", nil}, {"a", [][]byte{[]byte("b")}},
		{"a", [][]byte{[]byte("bc")}}, {"a", [][]byte{[]byte("b"), []byte("c")}}, {"ab", [][]byte{[]byte("c")}}, {"a", [][]byte{{}, []byte("bc")}},
		{"a", [][]byte{[]byte("bc"), {}}},
	}
	for _, x := range all {
		b, ok := Frame(x.tag, x.parts...)
		if !ok || seen[string(b)] {
			t.Errorf("%q %q: a frame twice, or none", x.tag, x.parts)
		}
		seen[string(b)] = true
	}
}
