package digest_test

import (
	"encoding/binary"
	"fmt"
	"math"
	"math/rand"
	"strings"
	"testing"

	"seedcorn/api"
	"seedcorn/digest"
)

// mixed is what the document says of a state, step by step, in numbers that don't wrap of themselves.
func mixed(s [8]uint32) [8]uint32 {
	const all = 1 << 32
	var w [8]uint64
	for i := range w {
		w[i] = uint64(s[i])
	}
	for r := uint64(0); r <= 7; r++ {
		w[0] = (w[0] + 2654435769*(r+1)) % all
		for i, places := range []int{7, 9, 13, 18} {
			w[i] = (w[i] + w[i+4]) % all
			x := w[i] ^ w[i+4]
			for range places {
				x = x*2%all + x*2/all
			}
			w[i+4] = x
		}
		var moved [8]uint64
		for j := range moved {
			moved[j] = w[(j+3)%8]
		}
		w = moved
	}
	for i := range w {
		s[i] = uint32(w[i])
	}
	return s
}

// taken is the state s after the words of b are taken in.
func taken(s [8]uint32, b ...uint32) [8]uint32 {
	for i, w := range b {
		s[i%4] ^= w
		if i%4 == 3 {
			s = mixed(s)
		}
	}
	return s
}

// padded is the words that the document makes of the bytes s.
func padded(s string) []uint32 {
	b := append([]byte(s), 128)
	for len(b)%16 != 8 {
		b = append(b, 0)
	}
	b = binary.LittleEndian.AppendUint64(b, uint64(len(s)))
	l := make([]uint32, len(b)/4)
	for i := range l {
		l[i] = binary.LittleEndian.Uint32(b[4*i:])
	}
	return l
}

// of is what the document says of the bytes s.
func of(s string) api.Digest {
	w := taken([8]uint32{1}, padded(s)...)
	return api.Digest{w[0], w[1], w[2], w[3]}
}

// pair is what the document says of the pair a, b.
func pair(a, b api.Digest) api.Digest {
	w := taken([8]uint32{2}, append(a[:], b[:]...)...)
	return api.Digest{w[0], w[1], w[2], w[3]}
}

// states is states of many kinds, always the same.
func states() [][8]uint32 {
	const top = math.MaxUint32
	l := [][8]uint32{{}, {1}, {2}, {0, 1, 2, 3, 4, 5, 6, 7}, {1, 0, 1 << 31, 3, 4, 5, 6, top}, {top, top, top, top, top, top, top, top}}
	for i := range 256 {
		var s [8]uint32
		s[i/32] = 1 << (i % 32)
		l = append(l, s)
	}
	r := rand.New(rand.NewSource(3))
	for range 2000 {
		var s [8]uint32
		for i := range s {
			s[i] = r.Uint32()
		}
		l = append(l, s)
	}
	return l
}

// digests is digests of many kinds, always the same.
func digests() []api.Digest {
	var l []api.Digest
	for _, s := range states() {
		l = append(l, api.Digest(s[:4]), api.Digest(s[4:]))
	}
	return l
}

// texts is bytes of each length about the blocks' ends, and long ones, always the same.
func texts() []string {
	r := rand.New(rand.NewSource(4))
	l := []string{"", "\x00", "\x80", "a", "ab", "ba", "a\x00", "a\x80", "\xff", "äß", strings.Repeat("\x00", 64), strings.Repeat("\xff", 1000)}
	for n := range 100 {
		b := make([]byte, n)
		r.Read(b)
		l = append(l, string(b))
	}
	long := make([]byte, 100003)
	r.Read(long)
	return append(l, string(long), string(long[:65535]), string(long[:65536]))
}

// P3.1: states whose mixed ones were reckoned apart from the program.
func TestMixReckoned(t *testing.T) {
	const top = math.MaxUint32
	for s, want := range map[[8]uint32][8]uint32{
		{}:                                       {0xaefd9057, 0xfecabb6a, 0x80434741, 0xc98dfea4, 0xc1ec32ff, 0xa03d7337, 0x82d3f5f1, 0xf6529f87},
		{1, 0, 1 << 31, 3, 4, 5, 6, top}:         {0x9924aebb, 0x88504325, 0x5f85fd66, 0x2500435d, 0x5e9acb87, 0xde45f97a, 0x3aa1301e, 0x4fc9c2ee},
		{top, top, top, top, top, top, top, top}: {0x58aa8752, 0x4b4674d5, 0x8fffbf83, 0xc9df6e68, 0x157c9cb1, 0xb815091a, 0x642eb31e, 0xcdfbd0f1},
		{0, 1, 2, 3, 4, 5, 6, 7}:                 {0xa19bfe21, 0xc2db2481, 0x4e9f588d, 0x3dbbccbe, 0xa076f73c, 0x0a18e210, 0x6749df2d, 0x9c89931b},
	} {
		if got := digest.Mix(s); got != want {
			t.Errorf("Mix(%x): %x; want %x", s, got, want)
		}
		if got := digest.Unmix(want); got != s {
			t.Errorf("Unmix(%x): %x; want %x", want, got, s)
		}
	}
}

// P3.1: Mix, held against the document's steps; Unmix of that is the state again.
func TestMix(t *testing.T) {
	for _, s := range states() {
		want := mixed(s)
		if got := digest.Mix(s); got != want {
			t.Errorf("Mix(%x): %x; want %x", s, got, want)
		}
		if got := digest.Unmix(want); got != s {
			t.Errorf("Unmix(%x): %x; want %x", want, got, s)
		}
	}
}

// P3.4: mixed and unmixed, or unmixed and mixed, a state is as it was.
func TestMixBack(t *testing.T) {
	for _, s := range states() {
		if got := digest.Unmix(digest.Mix(s)); got != s {
			t.Errorf("%x, mixed and unmixed, is %x", s, got)
		}
		if got := digest.Mix(digest.Unmix(s)); got != s {
			t.Errorf("%x, unmixed and mixed, is %x", s, got)
		}
		if got := mixed(digest.Unmix(s)); got != s {
			t.Errorf("Unmix(%x), mixed by the document's steps, is %x", s, got)
		}
	}
}

// P3.2: bytes and pairs whose digests were reckoned apart from the program.
func TestReckoned(t *testing.T) {
	for s, want := range map[string]string{
		"":                          "4e1b2d5cfecabb6a80434741c98dfea4",
		"\x00":                      "f854f5defecabb6a43516adfc98dfea4",
		"\x80":                      "791f36dffecabb6a43516adfc98dfea4",
		"a":                         "ea3e3eb2fecabb6a43516adfc98dfea4",
		"ab":                        "1bb7f68ffecabb6a9d62fefbc98dfea4",
		"ba":                        "87add390fecabb6a9d62fefbc98dfea4",
		"1234567":                   "4a15c316ac793a78f6958ba8c98dfea4",
		"12345678":                  "a3f2d4afdcfe39ab34a53f6ee8cbd55f",
		"seedcorn":                  "ca54c9bbf67ab05734a53f6ee8cbd55f",
		"0123456789abcdef":          "012fef1289aa650cc46d72a72c8576be",
		"0123456789abcdefghijklm":   "a26b0a28fcc2eb1d13a81a7f2c8576be",
		"0123456789abcdefghijklmno": "559452ccd3f24a19c8bc450496606016",
	} {
		if got := digest.Text(digest.Of(s)); got != want {
			t.Errorf("the digest of %q: %s; want %s", s, got, want)
		}
	}
	if got := digest.Text(digest.Pair(api.Digest{}, api.Digest{})); got != "e9c0c147bdf0f1b38f0e2f49e8cbd55f" {
		t.Errorf("the digest of a pair of zeros: %s", got)
	}
	if got := digest.Text(digest.Pair(digest.Of("a"), digest.Of("b"))); got != "ca4b925111e17a52e20c3265e45140c9" {
		t.Errorf("the digest of a pair: %s", got)
	}
}

// P3.2: Of, held against the document's steps, at each length about the ends of blocks.
func TestOf(t *testing.T) {
	for _, s := range texts() {
		if got, want := digest.Of(s), of(s); got != want {
			t.Errorf("Of of %d bytes: %x; want %x", len(s), got, want)
		}
	}
	for n := range 70 {
		for _, c := range []string{"\x00", "x", "\x80", "\xff"} {
			s := strings.Repeat(c, n)
			if got, want := digest.Of(s), of(s); got != want {
				t.Errorf("Of(%q): %x; want %x", s, got, want)
			}
		}
	}
}

// P3.2: Pair, held against the document's steps.
func TestPair(t *testing.T) {
	l := digests()
	for i, a := range l {
		for _, b := range []api.Digest{a, {}, l[len(l)-1-i]} {
			if got, want := digest.Pair(a, b), pair(a, b); got != want {
				t.Errorf("Pair(%x, %x): %x; want %x", a, b, got, want)
			}
			if got, want := digest.Pair(b, a), pair(b, a); got != want {
				t.Errorf("Pair(%x, %x): %x; want %x", b, a, got, want)
			}
		}
	}
}

// P3.3: Text and Parse, by hand.
func TestTextByHand(t *testing.T) {
	for s, want := range map[string]api.Digest{
		"00000000000000000000000000000000": {},
		"000000010000000200000003000000ff": {1, 2, 3, 255},
		"123456789abcdef00fedcba987654321": {0x12345678, 0x9abcdef0, 0x0fedcba9, 0x87654321},
		"800000007fffffffffffffff01000000": {1 << 31, 1<<31 - 1, math.MaxUint32, 1 << 24},
	} {
		if got := digest.Text(want); got != s {
			t.Errorf("Text(%x): %s; want %s", want, got, s)
		}
		for _, u := range []string{s, strings.ToUpper(s), strings.ToUpper(s[:16]) + s[16:], s[:31] + strings.ToUpper(s[31:])} {
			if got, e := digest.Parse(u); got != want || e != api.OK {
				t.Errorf("Parse(%q): %x, %d; want %x", u, got, e, want)
			}
		}
	}
}

// P3.3, P3.4: texts, held against another reckoning, and parsed as what they are of.
func TestText(t *testing.T) {
	for _, d := range digests() {
		s := digest.Text(d)
		if want := fmt.Sprintf("%08x%08x%08x%08x", d[0], d[1], d[2], d[3]); s != want {
			t.Errorf("Text(%x): %s; want %s", d, s, want)
		}
		if got, e := digest.Parse(s); got != d || e != api.OK {
			t.Errorf("the text of %x is parsed as %x, %d", d, got, e)
		}
		if got, e := digest.Parse(strings.ToUpper(s)); got != d || e != api.OK {
			t.Errorf("the text of %x, in great digits, is parsed as %x, %d", d, got, e)
		}
	}
}

// P3.3: what isn't just 32 digits is no digest's text.
func TestParseErrors(t *testing.T) {
	const s = "000000010000000200000003000000ff"
	wrong := []string{
		"", "0", s[1:], s[2:], s[8:], s + "0", s + "00", s + s, "0x" + s, "0x" + s[2:], "#" + s[1:],
		" " + s, s + " ", s + "\n", " " + s[1:], s[:31] + " ", s[:31] + "\n", s[:8] + " " + s[9:],
		s[:8] + " " + s[8:16] + " " + s[16:24] + " " + s[24:], "-" + s[1:], "+" + s[1:], s[:30] + "é", s[:30] + "０",
		strings.Repeat("g", 32), strings.Repeat("\x00", 32), strings.Repeat("\xff", 32), strings.Repeat("0", 100000),
	}
	for n := range 70 {
		if n != 32 {
			wrong = append(wrong, strings.Repeat("a", n))
		}
	}
	for c := range 256 {
		if strings.IndexByte("0123456789abcdefABCDEF", byte(c)) < 0 {
			for _, at := range []int{0, 1, 15, 16, 31} {
				wrong = append(wrong, s[:at]+string([]byte{byte(c)})+s[at+1:])
			}
		}
	}
	for _, u := range wrong {
		if got, e := digest.Parse(u); got != (api.Digest{}) || e != api.ErrSyntax {
			t.Errorf("Parse(%q): %x, %d", u, got, e)
		}
	}
}

// takenByMix is the state s after the words of b are taken in, by the program's Mix.
func takenByMix(s [8]uint32, b ...uint32) [8]uint32 {
	for ; len(b) > 0; b = b[4:] {
		for i, w := range b[:4] {
			s[i] ^= w
		}
		s = digest.Mix(s)
	}
	return s
}

// P3.4: a digest is what Mix makes of the blocks, one behind the other, and Unmix finds the way back.
func TestBlocks(t *testing.T) {
	for _, s := range texts() {
		words := padded(s)
		state := takenByMix([8]uint32{1}, words...)
		if got := digest.Of(s); got != api.Digest(state[:4]) {
			t.Errorf("Of of %d bytes: %x; by Mix: %x", len(s), got, state[:4])
		}
		for at := len(words) - 4; at >= 0; at -= 4 {
			state = digest.Unmix(state)
			for i, w := range words[at : at+4] {
				state[i] ^= w
			}
		}
		if state != [8]uint32{1} {
			t.Errorf("the way back from %d bytes leads to %x", len(s), state)
		}
	}
}

// clash finds two unlike rows of two blocks that lead from the state s to one: a first word of each block stands beside words 0.
func clash(t *testing.T, s [8]uint32) (a, b []uint32) {
	seen := map[[7]uint32]uint32{}
	for w := range uint32(1 << 20) {
		after := takenByMix(s, w, 0, 0, 0)
		rest := [7]uint32(after[1:])
		if v, there := seen[rest]; there {
			before := takenByMix(s, v, 0, 0, 0)
			return []uint32{v, 0, 0, 0, before[0], 0, 0, 0}, []uint32{w, 0, 0, 0, after[0], 0, 0, 0}
		}
		seen[rest] = w
	}
	t.Fatal("no two blocks were found that a later one brings together")
	return nil, nil
}

// asBytes is the bytes of words.
func asBytes(l []uint32) string {
	var b []byte
	for _, w := range l {
		b = binary.LittleEndian.AppendUint32(b, w)
	}
	return string(b)
}

// P3.4: two unlike rows of bytes whose blocks lead to one state, and go on alike, have one digest.
func TestOneState(t *testing.T) {
	a, b := clash(t, [8]uint32{1})
	x, y := asBytes(a), asBytes(b)
	if x == y || takenByMix([8]uint32{1}, a...) != takenByMix([8]uint32{1}, b...) {
		t.Fatalf("%x and %x are no clash", x, y)
	}
	for _, on := range texts() {
		if digest.Of(x+on) != digest.Of(y+on) {
			t.Errorf("%x and %x, with the same %d bytes behind them, have unlike digests", x, y, len(on))
		}
	}
	if digest.Of(x+"a") == digest.Of(y+"b") {
		t.Errorf("%x and %x have one digest, with unlike bytes behind them", x, y)
	}
}

// P3.4: two unlike rows of digests whose blocks lead to one state have one digest as pairs.
func TestOnePair(t *testing.T) {
	a, b := clash(t, [8]uint32{2})
	if x, y := digest.Pair(api.Digest(a[:4]), api.Digest(a[4:])), digest.Pair(api.Digest(b[:4]), api.Digest(b[4:])); x != y {
		t.Errorf("the pairs %x and %x lead to one state, and have the digests %x and %x", a, b, x, y)
	}
}

// Neither call changes what it was given: arrays are copied.
func TestCopied(t *testing.T) {
	s := [8]uint32{1, 2, 3, 4, 5, 6, 7, 8}
	a, b := api.Digest{1, 2, 3, 4}, api.Digest{5, 6, 7, 8}
	digest.Mix(s)
	digest.Unmix(s)
	digest.Pair(a, b)
	digest.Text(a)
	if s != [8]uint32{1, 2, 3, 4, 5, 6, 7, 8} || a != (api.Digest{1, 2, 3, 4}) || b != (api.Digest{5, 6, 7, 8}) {
		t.Error("an argument was changed")
	}
}
