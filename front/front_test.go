package front

import (
	"bytes"
	"encoding/binary"
	"math/rand"
	"slices"
	"strings"
	"testing"

	"hypostyle/api"
)

// someTexts makes texts that often begin as the one ahead.
func someTexts(r *rand.Rand, n int) []string {
	l := make([]string, n)
	ahead := ""
	for k := range l {
		b := []byte(ahead[:r.Intn(len(ahead)+1)])
		for range r.Intn(6) * r.Intn(40) {
			b = append(b, byte('a'+r.Intn(2)))
		}
		ahead = string(b)
		l[k] = ahead
	}
	return l
}

// laid is the chapter's Encode.
func laid(l []string) []byte {
	var b []byte
	for k, s := range l {
		n := 0
		if k > 0 {
			for n < len(s) && strings.HasPrefix(l[k-1], s[:n+1]) {
				n++
			}
		}
		b = binary.AppendUvarint(b, uint64(n))
		b = binary.AppendUvarint(b, uint64(len(s)-n))
		b = append(b, s[n:]...)
	}
	return b
}

func TestP13_1Shared(t *testing.T) {
	for _, x := range []struct {
		a, b string
		want int
	}{{"", "", 0}, {"", "a", 0}, {"a", "", 0}, {"a", "a", 1}, {"ab", "ac", 1}, {"abc", "ab", 2}, {"ab", "abc", 2}, {"b", "a", 0}, {"é", "è", 1}, {"a\x00b", "a\x00c", 2}, {strings.Repeat("x", 70000), strings.Repeat("x", 70001), 70000}} {
		if got := Shared(x.a, x.b); got != x.want {
			t.Errorf("%.9q %.9q: %d", x.a, x.b, got)
		}
	}
}

func TestP13_2Encode(t *testing.T) {
	for _, x := range []struct {
		l    []string
		want []byte
	}{
		{nil, nil}, {[]string{"ab", "ac"}, []byte{0, 2, 'a', 'b', 1, 1, 'c'}}, {[]string{""}, []byte{0, 0}}, {[]string{"ab", "ab", "", "ab"}, []byte{0, 2, 'a', 'b', 2, 0, 0, 0, 0, 2, 'a', 'b'}},
		{[]string{strings.Repeat("x", 300), strings.Repeat("x", 300) + "y"}, append(append([]byte{0, 0xac, 2}, bytes.Repeat([]byte("x"), 300)...), 0xac, 2, 1, 'y')},
	} {
		if b, ok := Encode(x.l); !ok || !bytes.Equal(b, x.want) {
			t.Errorf("%.20q %v %v", x.l, b, ok)
		}
	}
	r := rand.New(rand.NewSource(1))
	for n := range 150 {
		l := someTexts(r, n)
		if b, ok := Encode(l); !ok || !bytes.Equal(b, laid(l)) {
			t.Fatal(l, b, ok)
		}
	}
}

func TestP13_2EncodeLimits(t *testing.T) {
	long := strings.Repeat("x", 65536)
	for _, x := range []struct {
		name string
		l    []string
		ok   bool
	}{
		{"many", make([]string, 65536), true}, {"too many", make([]string, 65537), false}, {"long", []string{long}, true}, {"too long", []string{"a", long + "x"}, false},
		{"much", slices.Repeat([]string{long}, 256), true}, {"too much", append(slices.Repeat([]string{long}, 256), "x"), false}, {"much, and empty ones", append(slices.Repeat([]string{long}, 256), "", ""), true},
	} {
		b, ok := Encode(x.l)
		if ok != x.ok || !ok && len(b) != 0 {
			t.Error(x.name, len(b), ok)
		}
		// The bytes of what Encode refuses are refused, too.
		l, is := Decode(laid(x.l), len(x.l))
		if is != x.ok || is && !slices.Equal(l, x.l) || !is && len(l) != 0 {
			t.Error(x.name, len(l), is)
		}
	}
}

func TestP13_3DecodeWrong(t *testing.T) {
	good := []byte{0, 2, 'a', 'b', 1, 1, 'c'}
	for _, x := range []struct {
		name string
		b    []byte
		n    int
	}{
		{"too few", good, 1}, {"too many", good, 3}, {"none", nil, 1}, {"some of none", []byte{0, 0}, 0}, {"below none", nil, -1}, {"far below", nil, api.MinInt}, {"far too many", nil, api.MaxInt},
		{"the first shares", []byte{1, 1, 'a'}, 1}, {"shares beyond", []byte{0, 1, 'a', 2, 0}, 2}, {"shares more", []byte{0, 2, 'a', 'b', 0, 1, 'a'}, 2}, {"shares all, and says less", []byte{0, 2, 'a', 'b', 1, 1, 'b'}, 2},
		{"an end", good[:6], 2}, {"more", append(bytes.Clone(good), 0), 2}, {"a long form", []byte{0, 0x81, 0, 'a'}, 1}, {"great", []byte{0, 255, 255, 255, 255, 255, 255, 255, 255, 255, 1}, 1},
		{"together too long", append(laid([]string{strings.Repeat("x", 65536)}), 0x80, 0x80, 4, 1, 'y'), 2},
	} {
		if l, ok := Decode(x.b, x.n); ok || len(l) != 0 {
			t.Errorf("%s %.20q", x.name, l)
		}
	}
	if l, ok := Decode(nil, 0); !ok || len(l) != 0 {
		t.Error("no texts", l, ok)
	}
	if l, ok := Decode(good, 2); !ok || !slices.Equal(l, []string{"ab", "ac"}) {
		t.Error(l, ok)
	}
	// Few bytes may stand for far more: they are refused before all of them are made.
	short := laid([]string{strings.Repeat("x", 65536)})
	for range 65535 {
		short = append(short, 0x80, 0x80, 4, 0)
	}
	if l, ok := Decode(short, 65536); ok || len(l) != 0 {
		t.Error("of 2^32 bytes", len(l))
	}
}

func TestP13_4NothingIsShared(t *testing.T) {
	l := []string{"ab", "ac", "ad"}
	b, _ := Encode(l[:2])
	room := append(bytes.Clone(b), 9)
	got, _ := Decode(room[:len(b)], 2)
	room[2] = 'x'
	if !slices.Equal(got, []string{"ab", "ac"}) || room[len(b)] != 9 {
		t.Error("texts share with bytes", got)
	}
	got[0] = "z"
	_ = append(got, "z")
	if !slices.Equal(l, []string{"ab", "ac", "ad"}) {
		t.Error(l)
	}
}

func TestP13_5OneForm(t *testing.T) {
	r := rand.New(rand.NewSource(2))
	taken := 0
	for n := range 100 {
		l := someTexts(r, n)
		b, _ := Encode(l)
		if got, ok := Decode(b, n); !ok || !slices.Equal(got, l) {
			t.Fatal(l, got, ok)
		}
		for range 200 {
			c := bytes.Clone(b)
			for range 1 + r.Intn(2) {
				if len(c) > 0 {
					c[r.Intn(len(c))] ^= 1 << r.Intn(8)
				}
			}
			m := max(0, n+r.Intn(3)-1)
			if got, ok := Decode(c, m); ok {
				taken++
				if again, is := Encode(got); !is || !bytes.Equal(again, c) || len(got) != m {
					t.Fatal(c, got)
				}
			}
		}
	}
	if taken < 100 {
		t.Error("the test takes few", taken)
	}
}

// Each two texts of a row that rises begin alike at least as far as each of both with any one farther off.
func TestP13_5RisingTexts(t *testing.T) {
	r := rand.New(rand.NewSource(3))
	for range 50 {
		l := someTexts(r, 20)
		slices.Sort(l)
		for k := 1; k < len(l); k++ {
			for far := range k {
				if Shared(l[far], l[k]) > Shared(l[k-1], l[k]) {
					t.Fatal(l[far], l[k-1], l[k])
				}
			}
		}
	}
}
