package image_test

import (
	"math"
	"slices"
	"strings"
	"testing"

	"seedcorn/api"
	"seedcorn/image"
)

// may is what the document says of which images may be.
func may(m api.Image) bool {
	return len(m.Code) < 16385 && m.Data > -1 && m.Data < 32769
}

// told is what the document says of an image's bytes.
func told(m api.Image) string {
	b := []byte{'S', 'E', 'E', 'D'}
	for _, n := range append([]int{len(m.Code), m.Data}, ints(m.Code)...) {
		b = append(b, byte(n%256), byte(n/256%256), byte(n/65536%256), byte(n/16777216))
	}
	return string(b)
}

// ints is the words of l as numbers.
func ints(l []uint32) []int {
	r := make([]int, len(l))
	for i, w := range l {
		r[i] = int(w)
	}
	return r
}

// at is the word whose first byte stands at k in s.
func at(s string, k int) int {
	return int(s[k]) + 256*int(s[k+1]) + 65536*int(s[k+2]) + 16777216*int(s[k+3])
}

// readAs is the image that may be whose bytes s is, as the document says it; false, if there is none.
func readAs(s string) (api.Image, bool) {
	if len(s) < 12 || s[:4] != "SEED" || at(s, 4) > 16384 || at(s, 8) > 32768 || len(s) != 12+4*at(s, 4) {
		return api.Image{}, false
	}
	m := api.Image{Data: at(s, 8)}
	for k := 12; k < len(s); k += 4 {
		m.Code = append(m.Code, uint32(at(s, k)))
	}
	return m, true
}

// alike: have both the same words, one by one, and the same Data?
func alike(a, b api.Image) bool {
	if len(a.Code) != len(b.Code) || a.Data != b.Data {
		return false
	}
	for i := range a.Code {
		if a.Code[i] != b.Code[i] {
			return false
		}
	}
	return true
}

// row is n words, no two of them alike, in all of whose bytes something stands.
func row(n int) []uint32 {
	l := make([]uint32, n)
	for i := range l {
		l[i] = uint32(i)*2654435761 + 305419896
	}
	return l
}

// datas is numbers at which Data may go wrong.
var datas = []int{math.MinInt, math.MinInt + 1, -1 << 32, -32768, -2, -1, 0, 1, 2, 255, 256, 257, 16384, 16385, 32767, 32768, 32769, 65535, 65536, 1 << 31, 1<<32 - 1, 1 << 32, 1<<32 + 1, 1<<32 + 32768, math.MaxInt - 1, math.MaxInt}

// lengths is numbers of words at which code may go wrong.
var lengths = []int{0, 1, 2, 3, 4, 5, 255, 256, 257, 4096, 16383, 16384, 16385, 16386, 32768, 65536, 65537}

// wantBytes: m may be, its bytes are s, and of s m is read.
func wantBytes(t *testing.T, m api.Image, s string) {
	t.Helper()
	if !image.Right(m) {
		t.Errorf("Right of %d words, Data %d: false", len(m.Code), m.Data)
	}
	if got, e := image.Put(m); got != s || e != api.OK {
		t.Errorf("Put of %d words, Data %d: %d bytes, %d; want %d bytes", len(m.Code), m.Data, len(got), e, len(s))
	}
	if got, e := image.Read(s); !alike(got, m) || e != api.OK {
		t.Errorf("Read of %d bytes: %d words, Data %d, %d; want %d words, Data %d", len(s), len(got.Code), got.Data, e, len(m.Code), m.Data)
	}
}

// wantNone: s is no image's bytes.
func wantNone(t *testing.T, s string) {
	t.Helper()
	if m, e := image.Read(s); len(m.Code) != 0 || m.Data != 0 || e != api.ErrForm {
		t.Errorf("Read of %d bytes, %.20q: %d words, Data %d, %d", len(s), s, len(m.Code), m.Data, e)
	}
}

// wantRead: of s is told what the document says.
func wantRead(t *testing.T, s string) {
	t.Helper()
	want, ok := readAs(s)
	if !ok {
		wantNone(t, s)
		return
	}
	if m, e := image.Read(s); !alike(m, want) || e != api.OK {
		t.Errorf("Read of %d bytes, %.20q: %d words, Data %d, %d; want %d words, Data %d", len(s), s, len(m.Code), m.Data, e, len(want.Code), want.Data)
	}
}

// P8.1, P8.2, P8.3: by hand.
func TestByHand(t *testing.T) {
	for _, q := range []struct {
		m api.Image
		s string
	}{
		{api.Image{}, "SEED\x00\x00\x00\x00\x00\x00\x00\x00"},
		{api.Image{Code: []uint32{}}, "SEED\x00\x00\x00\x00\x00\x00\x00\x00"},
		{api.Image{Data: 1}, "SEED\x00\x00\x00\x00\x01\x00\x00\x00"},
		{api.Image{Data: 32768}, "SEED\x00\x00\x00\x00\x00\x80\x00\x00"},
		{api.Image{Code: []uint32{5}, Data: 2}, "SEED\x01\x00\x00\x00\x02\x00\x00\x00\x05\x00\x00\x00"},
		{api.Image{Code: []uint32{0}}, "SEED\x01\x00\x00\x00\x00\x00\x00\x00\x00\x00\x00\x00"},
		{api.Image{Code: []uint32{436207616}, Data: 258}, "SEED\x01\x00\x00\x00\x02\x01\x00\x00\x00\x00\x00\x1a"},
		{api.Image{Code: []uint32{0x01020304, math.MaxUint32, 0x80}, Data: 255}, "SEED\x03\x00\x00\x00\xff\x00\x00\x00\x04\x03\x02\x01\xff\xff\xff\xff\x80\x00\x00\x00"},
		{api.Image{Code: []uint32{0x44454553, 0, 0}}, "SEED\x03\x00\x00\x00\x00\x00\x00\x00SEED\x00\x00\x00\x00\x00\x00\x00\x00"},
	} {
		wantBytes(t, q.m, q.s)
	}
}

// P8.1, P8.2, P8.3: lengths of code and Data at and beyond the ends of what they may be.
func TestEdges(t *testing.T) {
	for _, n := range lengths {
		for _, data := range datas {
			m := api.Image{Code: row(n), Data: data}
			if may(m) {
				wantBytes(t, m, told(m))
				continue
			}
			if image.Right(m) {
				t.Errorf("Right of %d words, Data %d: true", n, data)
			}
			if s, e := image.Put(m); s != "" || e != api.ErrArg {
				t.Errorf("Put of %d words, Data %d: %d bytes, %d", n, data, len(s), e)
			}
			wantRead(t, told(m))
		}
	}
}

// P8.1: Right hangs on how many words there are, not on how many there is room for, nor on which they are.
func TestRightOfAnyWords(t *testing.T) {
	for _, w := range []uint32{0, 1, 0x1c000000, 0x1a000001, math.MaxUint32} {
		m := api.Image{Code: slices.Repeat([]uint32{w}, 16384)}
		wantBytes(t, m, told(m))
	}
	m := api.Image{Code: make([]uint32, 3, 20000), Data: 7}
	wantBytes(t, m, told(m))
}

// P8.1: Same, of images by hand, those that may not be among them.
func TestSame(t *testing.T) {
	words := func(l ...uint32) []uint32 { return l }
	for _, q := range []struct {
		a, b api.Image
		want bool
	}{
		{api.Image{}, api.Image{}, true},
		{api.Image{}, api.Image{Code: []uint32{}}, true},
		{api.Image{Code: words(1, 2), Data: 3}, api.Image{Code: words(1, 2), Data: 3}, true},
		{api.Image{Code: words(1, 2)}, api.Image{Code: words(1, 2, 9)[:2]}, true},
		{api.Image{Data: -1}, api.Image{Data: -1}, true},
		{api.Image{Data: 1 << 40}, api.Image{Data: 1 << 40}, true},
		{api.Image{Code: row(20000)}, api.Image{Code: row(20000)}, true},
		{api.Image{Data: 1}, api.Image{}, false},
		{api.Image{Data: 1}, api.Image{Data: -1}, false},
		{api.Image{Data: 1 << 32}, api.Image{}, false},
		{api.Image{Code: words(1, 2), Data: 3}, api.Image{Code: words(1, 2), Data: 4}, false},
		{api.Image{Code: words(0)}, api.Image{}, false},
		{api.Image{Code: words(1, 2)}, api.Image{Code: words(2, 1)}, false},
		{api.Image{Code: words(1, 2)}, api.Image{Code: words(1)}, false},
		{api.Image{Code: words(1, 2)}, api.Image{Code: words(2)}, false},
		{api.Image{Code: words(1, 2)}, api.Image{Code: words(1, 2, 0)}, false},
		{api.Image{Code: words(1), Data: 2}, api.Image{Code: words(2), Data: 1}, false},
		{api.Image{Code: row(20000)}, api.Image{Code: row(20001)}, false},
	} {
		if image.Same(q.a, q.b) != q.want || image.Same(q.b, q.a) != q.want {
			t.Errorf("Same of %d words, Data %d, and %d words, Data %d: not %v", len(q.a.Code), q.a.Data, len(q.b.Code), q.b.Data, q.want)
		}
	}
}

// P8.1: Same sees each bit of each word.
func TestSameEachBit(t *testing.T) {
	m := api.Image{Code: row(9), Data: 4}
	for i := range m.Code {
		for bit := range 32 {
			other := api.Image{Code: row(9), Data: 4}
			other.Code[i] ^= 1 << bit
			if image.Same(m, other) || image.Same(other, m) {
				t.Errorf("Same: true, though bit %d of the word %d isn't", bit, i)
			}
		}
	}
}

// P8.3: bytes that are no image's, by hand.
func TestReadWrong(t *testing.T) {
	for _, s := range []string{
		"", "S", "SEED", "SEED\x00\x00\x00\x00", "SEED\x00\x00\x00\x00\x00\x00\x00", "\x00\x00\x00\x00\x00\x00\x00\x00",
		"seed\x00\x00\x00\x00\x00\x00\x00\x00", "DEES\x00\x00\x00\x00\x00\x00\x00\x00", "SEE\x00\x00\x00\x00\x00\x00\x00\x00", " SEED\x00\x00\x00\x00\x00\x00\x00\x00", "SEEDSEED\x00\x00\x00\x00\x00\x00\x00\x00",
		"SEED\x00\x00\x00\x00\x00\x00\x00\x00\n",
		"SEED\x00\x00\x00\x00\x00\x00\x00\x00\x05\x00\x00\x00",     // one word more
		"SEED\x01\x00\x00\x00\x00\x00\x00\x00",                     // one word less
		"SEED\x01\x00\x00\x00\x00\x00\x00\x00\x05\x00\x00",         // one byte less
		"SEED\x01\x00\x00\x00\x00\x00\x00\x00\x05\x00\x00\x00\x00", // one byte more
		"SEED\x00\x00\x00\x01\x00\x00\x00\x00\x00\x00\x00\x05",     // the highest bits first
		"SEED\x02\x00\x00\x00\x01\x00\x00\x00\x05\x00\x00\x00",     // Data ahead of the count
		"SEED\x00\x00\x00\x00\x01\x80\x00\x00",                     // Data 32769
		"SEED\x00\x00\x00\x00\x00\x80\x00\x01", "SEED\x00\x00\x00\x00\x00\x00\x01\x00", "SEED\x00\x00\x00\x00\xff\xff\xff\xff",
		"SEED\x00\x00\x00\x40\x00\x00\x00\x00", // so many words that their bytes are none modulo 2^32
		"SEED\x01\x00\x00\x40\x00\x00\x00\x00\x05\x00\x00\x00",
		"SEED\x01\x00\x01\x00\x00\x00\x00\x00\x05\x00\x00\x00",
		"SEED\xff\xff\xff\xff\x00\x00\x00\x00", "SEED\xff\xff\xff\xff\x00\x00\x00", "SEED\xfe\xff\xff\xff", "SEED\xfd\xff\xff\xff\x00\x00\x00\x00",
		"SEED\x00\x40\x00\x00\x00\x00\x00\x00",
	} {
		wantNone(t, s)
	}
	wantNone(t, "SEED\x01\x40\x00\x00\x00\x00\x00\x00"+strings.Repeat("\x00", 4*16385)) // one word of code too many
	wantNone(t, "SEED\x00\x40\x00\x00\x01\x80\x00\x00"+strings.Repeat("\x00", 4*16384)) // Data 32769 of a full one
	wantNone(t, strings.Repeat("SEED", 1<<20))
}

// P8.3: heads with counts and Data at all edges, with code of many lengths behind them.
func TestReadHeads(t *testing.T) {
	for _, count := range []int{0, 1, 2, 3, 4, 16383, 16384, 16385, 65536, 65537, 1 << 24, 1 << 30, 1<<30 + 1, 1 << 31, 1<<32 - 1, 1<<32 - 2} {
		for _, data := range []int{0, 1, 32767, 32768, 32769, 65536, 98304, 1 << 24, 1 << 31, 1<<32 - 1} {
			head := told(api.Image{Code: []uint32{uint32(count), uint32(data)}})[12:]
			for n := range 20 {
				wantRead(t, "SEED"+head+strings.Repeat("\x07", n))
			}
			for _, n := range []int{16383, 16384, 16385} {
				wantRead(t, "SEED"+head+strings.Repeat("\x07", 4*n))
				wantRead(t, "SEED"+head+strings.Repeat("\x07", 4*n-1))
			}
		}
	}
}

// P8.3, P8.4: of bytes of which one is another, no image is read, or the one whose bytes they are.
func TestEachByte(t *testing.T) {
	s := told(api.Image{Code: row(3), Data: 32768})
	for k := range len(s) {
		for c := range 256 {
			b := []byte(s)
			b[k] = byte(c)
			wantRead(t, string(b))
			m, e := image.Read(string(b))
			if e != api.OK {
				continue
			}
			if back, e := image.Put(m); back != string(b) || e != api.OK {
				t.Errorf("Put(Read(%q)): %q, %d", b, back, e)
			}
		}
	}
}

// small is images with few words, all unlike one another.
func small() []api.Image {
	var l []api.Image
	words := []uint32{0, 1, 2, 0x44454553}
	codes := [][]uint32{nil}
	for n := 0; n < len(codes); n++ {
		for _, data := range []int{0, 1, 2} {
			l = append(l, api.Image{Code: codes[n], Data: data})
		}
		for _, w := range words {
			if len(codes[n]) < 3 {
				codes = append(codes, append(slices.Clone(codes[n]), w))
			}
		}
	}
	return l
}

// P8.4: what is put is read, and what is read was put.
func TestThereAndBack(t *testing.T) {
	for _, m := range append(small(), api.Image{Code: row(16384), Data: 32768}, api.Image{Code: row(1000), Data: 31}) {
		s, e := image.Put(m)
		if e != api.OK {
			t.Fatalf("Put(%v): %d", m, e)
		}
		back, e := image.Read(s)
		if e != api.OK || !image.Same(back, m) || !alike(back, m) {
			t.Fatalf("Read(Put(%v)): %v, %d", m, back, e)
		}
		if again, e := image.Put(back); again != s || e != api.OK {
			t.Fatalf("Put(Read(%q)): %q, %d", s, again, e)
		}
	}
}

// P8.4: no two images have one row of bytes, and none's stand ahead of another one's.
func TestNoneAheadOfAnother(t *testing.T) {
	l := small()
	rows := make([]string, len(l))
	for i, m := range l {
		rows[i], _ = image.Put(m)
	}
	for i, s := range rows {
		for j, r := range rows {
			if image.Same(l[i], l[j]) != (i == j) {
				t.Errorf("Same(%v, %v): %v", l[i], l[j], i != j)
			}
			if i != j && strings.HasPrefix(r, s) {
				t.Errorf("the bytes of %v stand ahead of those of %v", l[i], l[j])
			}
		}
	}
}

// P8.3, P8.4: of an image's bytes neither a front nor a longer row is an image's.
func TestFrontsAndMore(t *testing.T) {
	for _, m := range []api.Image{{}, {Data: 5}, {Code: row(1)}, {Code: row(40), Data: 32768}} {
		s, _ := image.Put(m)
		for k := range len(s) {
			wantNone(t, s[:k])
		}
		for k := 1; k <= 20; k++ {
			wantNone(t, s+strings.Repeat("\x00", k))
			wantNone(t, s+strings.Repeat("S", k))
		}
		wantNone(t, s+s)
	}
	s, _ := image.Put(api.Image{Code: row(16384)})
	for k := 1; k <= 8; k++ {
		wantNone(t, s[:len(s)-k])
		wantNone(t, s+strings.Repeat("\x00", k))
	}
}

// DOC's rules 5 and 6: what is handed in stays as it is, its spare room too, and answers share nothing with it nor with one another.
func TestNothingShared(t *testing.T) {
	whole := row(10)
	m := api.Image{Code: whole[2:5], Data: 3}
	image.Right(m)
	image.Same(m, m)
	s, _ := image.Put(m)
	if !slices.Equal(whole, row(10)) {
		t.Error("what was handed in was changed")
	}
	one, _ := image.Read(s)
	two, _ := image.Read(s)
	clear(one.Code[:cap(one.Code)])
	if !alike(two, m) {
		t.Error("two answers share their words")
	}
}
