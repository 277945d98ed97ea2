package word_test

import (
	"math"
	"math/big"
	"math/rand"
	"slices"
	"strconv"
	"strings"
	"testing"

	"seedcorn/api"
	"seedcorn/word"
)

// edges: words at which an operation may go wrong.
var edges = []uint32{0, 1, 2, 3, 5, 31, 32, 33, 63, 64, 255, 256, 257, 65535, 65536, 65537, 1<<31 - 1, 1 << 31, 1<<31 + 1, 0xaaaaaaaa, 0x55555555, math.MaxUint32 - 1, math.MaxUint32}

// sample is the edges, and some words more, always the same.
func sample() []uint32 {
	l := slices.Clone(edges)
	r := rand.New(rand.NewSource(1))
	for range 40 {
		l = append(l, r.Uint32())
	}
	return l
}

// bit is the bit of a with that number, 0 beyond both ends.
func bit(a uint32, i int64) uint32 {
	if i < 0 || i > 31 {
		return 0
	}
	return a >> i & 1
}

// ofBits is the word whose bits f tells.
func ofBits(f func(i int64) uint32) uint32 {
	var n uint32
	for i := range int64(32) {
		n |= f(i) << i
	}
	return n
}

// modulo is n less the greatest multiple of 2^32 that isn't above it.
func modulo(n *big.Int) uint32 {
	return uint32(new(big.Int).Mod(n, big.NewInt(1<<32)).Uint64())
}

// told is what the document says of an operation, reckoned in another way than layer 1 does.
func told(op int, a, b uint32) (uint32, api.Errno) {
	x, y := big.NewInt(int64(a)), big.NewInt(int64(b))
	z := new(big.Int)
	switch op {
	case api.OpAdd:
		return modulo(z.Add(x, y)), api.OK
	case api.OpSub:
		return modulo(z.Sub(x, y)), api.OK
	case api.OpMul:
		return modulo(z.Mul(x, y)), api.OK
	case api.OpDiv, api.OpMod:
		if b == 0 {
			return 0, api.ErrZero
		}
		q, r := z.QuoRem(x, y, new(big.Int))
		if op == api.OpDiv {
			return modulo(q), api.OK
		}
		return modulo(r), api.OK
	case api.OpAnd:
		return ofBits(func(i int64) uint32 { return bit(a, i) * bit(b, i) }), api.OK
	case api.OpOr:
		return ofBits(func(i int64) uint32 { return max(bit(a, i), bit(b, i)) }), api.OK
	case api.OpXor:
		return ofBits(func(i int64) uint32 { return (bit(a, i) + bit(b, i)) % 2 }), api.OK
	case api.OpShl:
		return ofBits(func(i int64) uint32 { return bit(a, i-int64(b)) }), api.OK
	case api.OpShr:
		return ofBits(func(i int64) uint32 { return bit(a, i+int64(b)) }), api.OK
	case api.OpLt:
		return uint32((1 - x.Cmp(y)) / 2), api.OK // 1, 0, 0 of less, alike, greater
	case api.OpEq:
		return uint32(1 - x.CmpAbs(y)*x.CmpAbs(y)), api.OK
	}
	return 0, api.ErrArg
}

// P1.1: Apply, of each operation, on words at the edges and others.
func TestApplyAll(t *testing.T) {
	for op := api.OpAdd; op <= api.OpEq; op++ {
		for _, a := range sample() {
			for _, b := range sample() {
				want, wantErr := told(op, a, b)
				if got, e := word.Apply(op, a, b); got != want || e != wantErr {
					t.Fatalf("Apply(%d, %d, %d): %d, %d; want %d, %d", op, a, b, got, e, want, wantErr)
				}
			}
		}
	}
}

// P1.1: Apply, by hand.
func TestApplyByHand(t *testing.T) {
	for _, q := range []struct {
		op         int
		a, b, want uint32
	}{
		{api.OpSub, 0, 1, 4294967295},
		{api.OpAdd, 4294967295, 1, 0},
		{api.OpMul, 4294967295, 4294967295, 1},
		{api.OpDiv, 4294967295, 2, 2147483647},
		{api.OpDiv, 2, 3, 0},
		{api.OpMod, 4294967295, 16, 15},
		{api.OpDiv, 2147483648, 4294967295, 0}, // as numbers below 0 they would give another quotient
		{api.OpMod, 2147483648, 4294967295, 2147483648},
		{api.OpShl, 1, 32, 0},
		{api.OpShl, 1, 31, 2147483648},
		{api.OpShl, 2147483649, 1, 2},
		{api.OpShl, 7, 0, 7},
		{api.OpShr, 2147483648, 32, 0},
		{api.OpShr, 2147483648, 31, 1},
		{api.OpShr, 4294967295, 1, 2147483647},
		{api.OpShr, 7, 4294967295, 0},
		{api.OpLt, 2147483647, 2147483648, 1},
		{api.OpLt, 4294967295, 0, 0},
		{api.OpLt, 0, 0, 0},
		{api.OpEq, 4294967295, 4294967295, 1},
		{api.OpEq, 0, 2147483648, 0},
	} {
		if got, e := word.Apply(q.op, q.a, q.b); got != q.want || e != api.OK {
			t.Errorf("Apply(%d, %d, %d): %d, %d; want %d", q.op, q.a, q.b, got, e, q.want)
		}
	}
}

// P1.1: no operation is told ahead of a division by 0; beside an error the word is 0.
func TestApplyErrors(t *testing.T) {
	for _, op := range []int{math.MinInt, -4, -1, 0, 1, 2, 3, 16, 17, 27, 1 << 32, 1<<32 + api.OpAdd, 1<<32 + api.OpDiv, math.MaxInt} {
		for _, b := range []uint32{0, 1, 7} {
			if got, e := word.Apply(op, 9, b); got != 0 || e != api.ErrArg {
				t.Errorf("Apply(%d, 9, %d): %d, %d", op, b, got, e)
			}
		}
	}
	for _, op := range []int{api.OpDiv, api.OpMod} {
		for _, a := range edges {
			if got, e := word.Apply(op, a, 0); got != 0 || e != api.ErrZero {
				t.Errorf("Apply(%d, %d, 0): %d, %d", op, a, got, e)
			}
		}
	}
}

// places: how far a word may be turned, the ends of int too.
func places() []int {
	l := []int{math.MinInt, math.MinInt + 1, math.MinInt + 31, -1 << 32, -1<<31 - 1, math.MaxInt - 31, math.MaxInt - 1, math.MaxInt, 1 << 31, 1<<32 + 5}
	for n := -100; n <= 100; n++ {
		l = append(l, n)
	}
	return l
}

// P1.1: Turn, bit by bit.
func TestTurnAll(t *testing.T) {
	for _, a := range sample() {
		for _, n := range places() {
			back := int64(((n % 32) + 32) % 32)
			want := ofBits(func(i int64) uint32 { return bit(a, (i-back+32)%32) })
			if got := word.Turn(a, n); got != want {
				t.Fatalf("Turn(%d, %d): %d; want %d", a, n, got, want)
			}
		}
	}
}

// P1.1: Turn, by hand.
func TestTurnByHand(t *testing.T) {
	for _, q := range []struct {
		a    uint32
		n    int
		want uint32
	}{
		{2147483649, 1, 3},
		{2147483649, -1, 3221225472},
		{1, -1, 2147483648},
		{1, 31, 2147483648},
		{0x12345678, 8, 0x34567812},
		{0x12345678, -8, 0x78123456},
		{0x12345678, 0, 0x12345678},
		{0x12345678, 32, 0x12345678},
		{0x12345678, math.MinInt, 0x12345678},
		{0x12345678, math.MaxInt, 0x091a2b3c},
	} {
		if got := word.Turn(q.a, q.n); got != q.want {
			t.Errorf("Turn(%#x, %d): %#x; want %#x", q.a, q.n, got, q.want)
		}
	}
}

// P1.2: Bytes.
func TestBytes(t *testing.T) {
	for _, q := range []struct {
		l    []uint32
		want string
	}{
		{nil, ""},
		{[]uint32{}, ""},
		{[]uint32{0}, "\x00\x00\x00\x00"},
		{[]uint32{258}, "\x02\x01\x00\x00"},
		{[]uint32{0x44434241, 0x80ff7f00}, "ABCD\x00\x7f\xff\x80"},
		{[]uint32{4294967295, 1, 1 << 31}, "\xff\xff\xff\xff\x01\x00\x00\x00\x00\x00\x00\x80"},
	} {
		kept := slices.Clone(q.l)
		if got := word.Bytes(q.l); got != q.want {
			t.Errorf("Bytes(%v): %q; want %q", q.l, got, q.want)
		}
		if !slices.Equal(q.l, kept) {
			t.Errorf("Bytes changed its words: %v", q.l)
		}
	}
}

// P1.2: Words.
func TestWords(t *testing.T) {
	for _, q := range []struct {
		s    string
		want []uint32
	}{
		{"", nil},
		{"\x02\x01\x00\x00", []uint32{258}},
		{"ABCD\x00\x7f\xff\x80", []uint32{0x44434241, 0x80ff7f00}},
		{"\xff\xff\xff\xff\x00\x00\x00\x00", []uint32{4294967295, 0}},
	} {
		if got, e := word.Words(q.s); e != api.OK || !slices.Equal(got, q.want) {
			t.Errorf("Words(%q): %v, %d; want %v", q.s, got, e, q.want)
		}
	}
}

// P1.2: Words of bytes that are not whole words.
func TestWordsForm(t *testing.T) {
	for n := range 40 {
		s := strings.Repeat("\x07", n)
		l, e := word.Words(s)
		if n%4 == 0 && (e != api.OK || len(l) != n/4) {
			t.Errorf("Words of %d bytes: %v, %d", n, l, e)
		}
		if n%4 != 0 && (e != api.ErrForm || len(l) != 0) {
			t.Errorf("Words of %d bytes: %v, %d; want ErrForm", n, l, e)
		}
	}
}

// P1.2: what Words tells is new each time.
func TestWordsShareNothing(t *testing.T) {
	a, _ := word.Words("\x01\x00\x00\x00")
	b, _ := word.Words("\x01\x00\x00\x00")
	if len(a) != 1 || len(b) != 1 {
		t.Fatal(a, b)
	}
	a[0] = 9
	if c, _ := word.Words("\x01\x00\x00\x00"); b[0] != 1 || c[0] != 1 {
		t.Error(b, c)
	}
}

// P1.3: Text.
func TestText(t *testing.T) {
	for _, q := range []struct {
		n    uint32
		want string
	}{{0, "0"}, {1, "1"}, {9, "9"}, {10, "10"}, {1000000, "1000000"}, {2147483648, "2147483648"}, {4294967295, "4294967295"}} {
		if got := word.Text(q.n); got != q.want {
			t.Errorf("Text(%d): %q", q.n, got)
		}
	}
}

// P1.3: Parse of texts.
func TestParse(t *testing.T) {
	for _, q := range []struct {
		s    string
		want uint32
	}{{"0", 0}, {"1", 1}, {"9", 9}, {"10", 10}, {"100", 100}, {"2147483647", 2147483647}, {"2147483648", 2147483648}, {"3999999999", 3999999999}, {"4294967294", 4294967294}, {"4294967295", 4294967295}} {
		if got, e := word.Parse(q.s); got != q.want || e != api.OK {
			t.Errorf("Parse(%q): %d, %d", q.s, got, e)
		}
	}
}

// P1.3: Parse of what is no text of a word; that it is none is told ahead of its being too great.
func TestParseErrors(t *testing.T) {
	nines := strings.Repeat("9", 1000)
	for _, q := range []struct {
		s    string
		want api.Errno
	}{
		{"", api.ErrSyntax},
		{"007", api.ErrSyntax},
		{"00", api.ErrSyntax},
		{"01", api.ErrSyntax},
		{"04294967295", api.ErrSyntax},
		{"0" + nines, api.ErrSyntax},
		{"+1", api.ErrSyntax},
		{"-0", api.ErrSyntax},
		{" 1", api.ErrSyntax},
		{"1\n", api.ErrSyntax},
		{"1_000", api.ErrSyntax},
		{"0x10", api.ErrSyntax},
		{"1e3", api.ErrSyntax},
		{"1.0", api.ErrSyntax},
		{"1\x00", api.ErrSyntax},
		{"/", api.ErrSyntax}, // the byte ahead of 0
		{":", api.ErrSyntax}, // the byte behind 9
		{"\u0661", api.ErrSyntax},
		{"\xff", api.ErrSyntax},
		{nines + "x", api.ErrSyntax},
		{"4294967296x", api.ErrSyntax},
		{"4294967296", api.ErrRange},
		{"4294967300", api.ErrRange},
		{"5000000000", api.ErrRange},
		{"10000000000", api.ErrRange},
		{"18446744073709551615", api.ErrRange},
		{"18446744073709551616", api.ErrRange},
		{"18446744073709551617", api.ErrRange}, // 1, modulo 2^64
		{nines, api.ErrRange},
	} {
		if got, e := word.Parse(q.s); got != 0 || e != q.want {
			t.Errorf("Parse(%.30q): %d, %d; want %d", q.s, got, e, q.want)
		}
	}
}

// P1.3: of single bytes just the ten digits are texts.
func TestParseBytes(t *testing.T) {
	for c := range 256 {
		got, e := word.Parse(string([]byte{byte(c)}))
		if c >= 48 && c <= 57 {
			if got != uint32(c-48) || e != api.OK {
				t.Errorf("byte %d: %d, %d", c, got, e)
			}
		} else if got != 0 || e != api.ErrSyntax {
			t.Errorf("byte %d: %d, %d; want ErrSyntax", c, got, e)
		}
	}
}

// P1.4: a is b times a by b, and what is left, which is less than b.
func TestDivided(t *testing.T) {
	for _, a := range sample() {
		for _, b := range sample() {
			if b == 0 {
				continue
			}
			q, _ := word.Apply(api.OpDiv, a, b)
			r, _ := word.Apply(api.OpMod, a, b)
			m, _ := word.Apply(api.OpMul, b, q)
			if n, _ := word.Apply(api.OpAdd, m, r); n != a || r >= b {
				t.Fatalf("%d by %d: %d, and %d are left", a, b, q, r)
			}
		}
	}
}

// P1.4: turned there and back.
func TestTurnedBack(t *testing.T) {
	for _, a := range sample() {
		for _, n := range places() {
			if n == math.MinInt { // there is no number for the way back
				continue
			}
			if b := word.Turn(word.Turn(a, n), -n); b != a {
				t.Fatalf("%d, turned by %d and back: %d", a, n, b)
			}
		}
	}
}

// P1.4: bytes are read as the words that they were made of, and words as their bytes.
func TestBytesBack(t *testing.T) {
	l := sample()
	for n := range len(l) + 1 {
		got, e := word.Words(word.Bytes(l[:n]))
		if e != api.OK || !slices.Equal(got, l[:n]) {
			t.Fatalf("of %d words: %v, %d", n, got, e)
		}
	}
	var all strings.Builder
	for c := range 256 {
		all.WriteByte(byte(c))
	}
	if got, e := word.Words(all.String()); e != api.OK || word.Bytes(got) != all.String() {
		t.Error("of all bytes:", got, e)
	}
}

// P1.4: texts are read as their words.
func TestTextBack(t *testing.T) {
	for _, n := range sample() {
		if got, e := word.Parse(word.Text(n)); got != n || e != api.OK {
			t.Errorf("%d: %d, %d", n, got, e)
		}
	}
	for n := range 20000 {
		s := strconv.Itoa(n)
		if got, e := word.Parse(s); e != api.OK || word.Text(got) != s {
			t.Fatalf("%q: %d, %d", s, got, e)
		}
	}
}
