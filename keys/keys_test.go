package keys_test

import (
	"encoding/binary"
	"math"
	"slices"
	"testing"

	"seedcorn/api"
	"seedcorn/digest"
	"seedcorn/keys"
	"seedcorn/onetime"
)

// ones is the digest whose words are the greatest.
var ones = api.Digest{math.MaxUint32, math.MaxUint32, math.MaxUint32, math.MaxUint32}

// seeds is a few seeds: zeros, the greatest words, one whose bytes are all unlike, and any.
func seeds() []api.Digest {
	return []api.Digest{{}, ones, {0x03020100, 0x07060504, 0x0b0a0908, 0x8f8e8d8c}, digest.Of("seed")}
}

// messages is a few messages.
func messages() []api.Digest {
	return []api.Digest{{}, ones, {9, 9, 0, 7}, digest.Of("a")}
}

// noHeights is numbers that are no tree's height.
func noHeights() []int {
	return []int{-1, -2, 5, 6, 31, 32, 63, 64, 65, 99, math.MinInt, math.MaxInt}
}

// noKeys is numbers of no key of a tree of that height.
func noKeys(height int) []int {
	n := 1 << height
	return []int{-1, -n, n, n + 1, 2 * n, 16 * n, 1 << 32, 1<<32 + n - 1, math.MinInt, math.MinInt + n - 1, math.MaxInt}
}

// keySeed is what the document says of the seed of the key i.
func keySeed(seed api.Digest, i int) api.Digest {
	b := []byte("k")
	for _, w := range seed {
		b = binary.LittleEndian.AppendUint32(b, w)
	}
	return digest.Of(string(binary.LittleEndian.AppendUint32(b, uint32(i))))
}

// tree is the roots of all parts of a tree of keys: its one-time public keys, what these are in pairs, and so on, up to its own.
func tree(seed api.Digest, height int) [][]api.Digest {
	var row []api.Digest
	for i := range 1 << height {
		row = append(row, onetime.Public(keySeed(seed, i)))
	}
	rows := [][]api.Digest{row}
	for len(row) > 1 {
		var next []api.Digest
		for i := 0; i < len(row); i += 2 {
			next = append(next, digest.Pair(row[i], row[i+1]))
		}
		row = next
		rows = append(rows, row)
	}
	return rows
}

// path is, from the key index up, what stands beside the way to the root.
func path(rows [][]api.Digest, index int) []api.Digest {
	var l []api.Digest
	for _, row := range rows[:len(rows)-1] {
		l = append(l, row[index^1])
		index /= 2
	}
	return l
}

// way is the pairs on the way from a one-time key up to the root, and the root.
func way(index int, key api.Digest, path []api.Digest) ([][2]api.Digest, api.Digest) {
	var l [][2]api.Digest
	for _, beside := range path {
		pair := [2]api.Digest{key, beside}
		if index%2 == 1 {
			pair = [2]api.Digest{beside, key}
		}
		l = append(l, pair)
		key = digest.Pair(pair[0], pair[1])
		index /= 2
	}
	return l, key
}

// holds is what the document says of a signature, by the bits of its number.
func holds(pub, msg api.Digest, s api.Signature) bool {
	if len(s.Path) > 4 || len(s.One) != 35 || s.Index < 0 || s.Index >= 1<<len(s.Path) {
		return false
	}
	key, _ := onetime.Reach(msg, s.One)
	_, root := way(s.Index, key, s.Path)
	return root == pub
}

// public is the public key of a tree.
func public(t *testing.T, seed api.Digest, height int) api.Digest {
	t.Helper()
	pub, e := keys.Public(seed, height)
	if e != api.OK {
		t.Fatalf("the public key of %x, %d high: %d", seed, height, e)
	}
	return pub
}

// sign is the signature of msg by the key index.
func sign(t *testing.T, seed api.Digest, height, index int, msg api.Digest) api.Signature {
	t.Helper()
	s, e := keys.Sign(seed, height, index, msg)
	if e != api.OK {
		t.Fatalf("%x signed by %d of %x, %d high: %d", msg, index, seed, height, e)
	}
	return s
}

// clone is s in memory of its own.
func clone(s api.Signature) api.Signature {
	return api.Signature{Index: s.Index, One: slices.Clone(s.One), Path: slices.Clone(s.Path)}
}

// same: are a and b alike?
func same(a, b api.Signature) bool {
	return a.Index == b.Index && slices.Equal(a.One, b.One) && slices.Equal(a.Path, b.Path)
}

// none: is s no signature at all?
func none(s api.Signature) bool {
	return s.Index == 0 && len(s.One) == 0 && len(s.Path) == 0
}

// bytesOf is the bytes of digests, the lowest one of each word first.
func bytesOf(l []api.Digest) string {
	var b []byte
	for _, d := range l {
		for _, w := range d {
			b = binary.LittleEndian.AppendUint32(b, w)
		}
	}
	return string(b)
}

// reckoned is what was reckoned apart from the program of a seed's trees: their public keys, by their heights, and of a message's signatures, by heights and numbers, what the one-time signature and the path, as bytes, are digested to.
type reckoned struct {
	seed   api.Digest
	msg    string
	public []string
	sigs   map[[2]int][2]string
}

// wantReckoned: the program answers just what was reckoned.
func wantReckoned(t *testing.T, q reckoned) {
	t.Helper()
	for height, want := range q.public {
		if got := digest.Text(public(t, q.seed, height)); got != want {
			t.Errorf("the public key of %x, %d high: %s; want %s", q.seed, height, got, want)
		}
	}
	for at, want := range q.sigs {
		s := sign(t, q.seed, at[0], at[1], digest.Of(q.msg))
		got := [2]string{digest.Text(digest.Of(bytesOf(s.One))), digest.Text(digest.Of(bytesOf(s.Path)))}
		if got != want || s.Index != at[1] {
			t.Errorf("%q signed by %d of %x, %d high: %d, %v; want %v", q.msg, at[1], q.seed, at[0], s.Index, got, want)
		}
	}
}

// P6.1: public keys and signatures that were reckoned apart from the program.
func TestReckoned(t *testing.T) {
	for _, q := range []reckoned{
		{api.Digest{}, "a", []string{
			"61b6333e71aeef5a875cf02c5316578c",
			"e40bde42d3978484ad9077cd05dada65",
			"13bd0d8e7626e8e7ab8f64d8513ce4f9",
			"0d002963ac512a66644db1764ac0c915",
			"52290763113555966c202c628e43fb03",
		}, map[[2]int][2]string{
			{0, 0}:  {"c4f089fe12f61e508ef7991be3fd694a", "4e1b2d5cfecabb6a80434741c98dfea4"},
			{2, 1}:  {"ec01659712f61e508ef7991be3fd694a", "30c9cc58cee275f317245e6520e5ffa8"},
			{3, 6}:  {"dad8b15c12f61e508ef7991be3fd694a", "0f9764859338aeca4030aa9f8c0289a7"},
			{4, 5}:  {"4f9cbf7312f61e508ef7991be3fd694a", "95fe7b0907011c3c020cee240e8b3756"},
			{4, 15}: {"d8227f1a12f61e508ef7991be3fd694a", "0f98ae8607011c3c020cee240e8b3756"},
		}},
		{api.Digest{1, 2, 3, 0x84050607}, "b", []string{
			"7bd73731bb347f65ed949297e2773ffe",
			"435a46cb34b03e72c84e4cf2a2d24d8a",
			"4d2e50535642f7cd2ac20a672f8859f5",
			"a574e3b529ae1e1ca6c6f950bde56af2",
			"5bc0c7f3860dda4ce543da65ea4ec5ba",
		}, map[[2]int][2]string{
			{0, 0}:  {"9bd1674f6c19543eca91bf891b8411aa", "4e1b2d5cfecabb6a80434741c98dfea4"},
			{2, 1}:  {"55a18d346c19543eca91bf891b8411aa", "8a6bced72fa0be3ea1dda530f90fb70f"},
			{3, 6}:  {"bf5ca0296c19543eca91bf891b8411aa", "9eaf257f5bd16924126ec45ac6c67e43"},
			{4, 5}:  {"ce12deea6c19543eca91bf891b8411aa", "9ae77bb88d2e9688da47338a8bf55724"},
			{4, 15}: {"6e21d0bb6c19543eca91bf891b8411aa", "8955c26a8d2e9688da47338a8bf55724"},
		}},
		{digest.Of("seed"), "", []string{
			"6bee0e776c3669d6eb039210e01e32e4",
			"9eebbf5c7b73e8c9a3cd65a65cb60e7e",
			"484f685331cc9a29cb6750fb3bb6b91e",
			"2e5e9232beaa0476aad6f1a5cc66fd39",
			"56e1d7936f951e093606cb27fb2c8f2c",
		}, map[[2]int][2]string{
			{0, 0}:  {"7040001f4cf06365a6190cb5f8ea0399", "4e1b2d5cfecabb6a80434741c98dfea4"},
			{2, 1}:  {"f0edd3e44cf06365a6190cb5f8ea0399", "b409a017fc2e26f37c8ea933e4b23b18"},
			{3, 6}:  {"6d548b564cf06365a6190cb5f8ea0399", "8769065976f0536be9c369de7210e2be"},
			{4, 5}:  {"cff1eb3f4cf06365a6190cb5f8ea0399", "ec909128f36c0023e04c6cdb25ad0485"},
			{4, 15}: {"cfcd15b34cf06365a6190cb5f8ea0399", "18a26052f36c0023e04c6cdb25ad0485"},
		}},
		{ones, "a", []string{
			"662115a08e13f90ad57162a628dbc194",
			"5165b431025b50138c3537fb53ec982d",
			"bcd9c61e920df25c079fb036ba83ed8a",
			"4a87c5a9547d174082fe7ac317b5fa59",
			"3e1323c827a381dd886c3fd3c2697cd1",
		}, map[[2]int][2]string{
			{0, 0}:  {"b61f66a8607aa0b136eb0740161e04f4", "4e1b2d5cfecabb6a80434741c98dfea4"},
			{2, 1}:  {"0fe01216607aa0b136eb0740161e04f4", "32336079615af373bcd7018d2eb6c1f2"},
			{3, 6}:  {"cfa5bb35607aa0b136eb0740161e04f4", "995871cc6346d29546936bdf4eacfbe2"},
			{4, 5}:  {"f47e6363607aa0b136eb0740161e04f4", "2d0f2908918845f2443e0f527b4ef03a"},
			{4, 15}: {"a136fc5f607aa0b136eb0740161e04f4", "e6415da4918845f2443e0f527b4ef03a"},
		}},
	} {
		wantReckoned(t, q)
	}
}

// P6.1: a tree of height 0 has one key: its public key is that one's, and its signatures have no path.
func TestOneKey(t *testing.T) {
	for _, seed := range seeds() {
		key := keySeed(seed, 0)
		if got := public(t, seed, 0); got != onetime.Public(key) {
			t.Errorf("the public key of %x: %x", seed, got)
		}
		for _, msg := range messages() {
			s := sign(t, seed, 0, 0, msg)
			if s.Index != 0 || len(s.Path) != 0 || !slices.Equal(s.One, onetime.Sign(key, msg)) {
				t.Errorf("%x signed by %x: %v", msg, seed, s)
			}
		}
	}
}

// P6.1, P6.2, P6.4: public keys and signatures of every key, held against trees that are reckoned from the keys up; each signature holds.
func TestSign(t *testing.T) {
	for _, seed := range seeds() {
		for height := range 5 {
			rows := tree(seed, height)
			pub := rows[height][0]
			if got := public(t, seed, height); got != pub {
				t.Errorf("the public key of %x, %d high: %x; want %x", seed, height, got, pub)
			}
			for i := range 1 << height {
				for _, msg := range messages() {
					want := api.Signature{Index: i, One: onetime.Sign(keySeed(seed, i), msg), Path: path(rows, i)}
					got := sign(t, seed, height, i, msg)
					if !same(got, want) {
						t.Errorf("%x signed by %d of %x, %d high: %v; want %v", msg, i, seed, height, got, want)
					}
					if !keys.Check(pub, msg, got) || !holds(pub, msg, got) {
						t.Errorf("%x signed by %d of %x, %d high, doesn't hold", msg, i, seed, height)
					}
				}
			}
		}
	}
}

// P6.1, P6.3: no tree is lower than 0, or higher than 4; that is told ahead of a key that isn't there.
func TestNoTree(t *testing.T) {
	seed, msg := digest.Of("seed"), digest.Of("a")
	for _, height := range noHeights() {
		if pub, e := keys.Public(seed, height); e != api.ErrRange || pub != (api.Digest{}) {
			t.Errorf("the public key of a tree %d high: %x, %d", height, pub, e)
		}
		if n, e := keys.New(seed, height); e != api.ErrRange || n != (api.Signer{}) {
			t.Errorf("a signer of a tree %d high: %v, %d", height, n, e)
		}
		for _, i := range append(noKeys(4), 0, 1, 15) {
			if s, e := keys.Sign(seed, height, i, msg); e != api.ErrRange || !none(s) {
				t.Errorf("signed by %d of a tree %d high: %v, %d", i, height, s, e)
			}
			n, s, e := keys.Use(api.Signer{Seed: seed, Height: height, Next: i}, msg)
			if e != api.ErrRange || n != (api.Signer{}) || !none(s) {
				t.Errorf("used, of a tree %d high, with %d the next: %v, %v, %d", height, i, n, s, e)
			}
		}
	}
}

// P6.1, P6.3: a key that isn't there signs nothing; a signer has used it up.
func TestNoKey(t *testing.T) {
	seed, msg := digest.Of("seed"), digest.Of("a")
	for height := range 5 {
		for _, i := range noKeys(height) {
			if s, e := keys.Sign(seed, height, i, msg); e != api.ErrArg || !none(s) {
				t.Errorf("signed by %d of a tree %d high: %v, %d", i, height, s, e)
			}
			n, s, e := keys.Use(api.Signer{Seed: seed, Height: height, Next: i}, msg)
			if e != api.ErrUsed || n != (api.Signer{}) || !none(s) {
				t.Errorf("used, of a tree %d high, with %d the next: %v, %v, %d", height, i, n, s, e)
			}
		}
	}
}

// wantCheck: Check tells whether s holds, as the document says it.
func wantCheck(t *testing.T, pub, msg api.Digest, s api.Signature, want bool) {
	t.Helper()
	if got := holds(pub, msg, s); got != want {
		t.Fatalf("of %x, for %x, %d, %d values, %d digests: the test says %t, and %t", msg, pub, s.Index, len(s.One), len(s.Path), want, got)
	}
	if got := keys.Check(pub, msg, s); got != want {
		t.Errorf("of %x, for %x, %d, %d values, %d digests: %t; want %t", msg, pub, s.Index, len(s.One), len(s.Path), got, want)
	}
}

// P6.2: a signature holds for no other key, no other message, and no other number.
func TestOthers(t *testing.T) {
	seed, other := digest.Of("seed"), digest.Of("another")
	for height := range 5 {
		pub := public(t, seed, height)
		for i := range 1 << height {
			msg := messages()[i%4]
			s := sign(t, seed, height, i, msg)
			wantCheck(t, pub, msg, s, true)
			for word := range pub {
				key, text := pub, msg
				key[word] ^= 1 << (i % 32)
				text[word] ^= 1 << (i % 32)
				wantCheck(t, key, msg, s, false)
				wantCheck(t, pub, text, s, false)
			}
			for _, key := range []api.Digest{{}, msg, seed, public(t, other, height), public(t, seed, (height+1)%5)} {
				wantCheck(t, key, msg, s, false)
			}
			wantCheck(t, pub, messages()[(i+1)%4], s, false)
			for k := range 1 << height {
				s.Index = k
				wantCheck(t, pub, msg, s, k == i)
			}
			for _, k := range noKeys(height) {
				s.Index = k
				wantCheck(t, pub, msg, s, false)
			}
		}
	}
}

// P6.2: almost a signature is none: a value is changed, or has changed places, one is there more, or less.
func TestAlmost(t *testing.T) {
	seed, msg := digest.Of("seed"), digest.Of("a")
	for height := range 5 {
		pub := public(t, seed, height)
		for _, i := range []int{0, 1<<height - 1, 5 % (1 << height)} {
			s := sign(t, seed, height, i, msg)
			for k := range s.One {
				for _, x := range []api.Digest{{}, pub, s.One[(k+1)%35]} {
					wrong := clone(s)
					wrong.One[k] = x
					wantCheck(t, pub, msg, wrong, false)
				}
				wrong := clone(s)
				wrong.One[k][k%4] ^= 1 << (k % 32)
				wantCheck(t, pub, msg, wrong, false)
			}
			for k := range s.Path {
				for _, x := range []api.Digest{{}, pub} {
					wrong := clone(s)
					wrong.Path[k] = x
					wantCheck(t, pub, msg, wrong, false)
				}
				for word := range 4 {
					wrong := clone(s)
					wrong.Path[k][word]++
					wantCheck(t, pub, msg, wrong, false)
				}
				wrong := clone(s)
				wrong.Path = slices.Delete(wrong.Path, k, k+1)
				wantCheck(t, pub, msg, wrong, false)
				wrong = clone(s)
				wrong.Path = slices.Insert(wrong.Path, k, s.Path[k])
				wantCheck(t, pub, msg, wrong, false)
				wrong = clone(s)
				slices.Reverse(wrong.Path)
				wantCheck(t, pub, msg, wrong, height == 1)
			}
			for _, more := range []api.Digest{{}, pub, digest.Of("")} {
				wrong := clone(s)
				wrong.Path = append(wrong.Path, more)
				wantCheck(t, pub, msg, wrong, false)
			}
		}
	}
	wantCheck(t, api.Digest{}, msg, api.Signature{}, false)
}

// P6.2: what hasn't 35 values holds for nothing: not for zeros, and not for the key of the ends that it has.
func TestValues(t *testing.T) {
	seed, msg := digest.Of("seed"), ones
	room := make([]api.Digest, 100)
	for _, n := range []int{0, 1, 2, 34, 36, 70} {
		s := sign(t, seed, 0, 0, msg)
		s.One = slices.Concat(s.One, room)[:n]
		ends := api.Digest{35}
		for i, steps := range onetime.Steps(msg) {
			if i < n {
				end := s.One[i]
				for range 15 - steps {
					end = digest.Pair(end, api.Digest{0, 0, 0, 1})
				}
				ends = digest.Pair(ends, end)
			}
		}
		for height := range 5 {
			s.Path = room[:height]
			for _, key := range []api.Digest{{}, {35}, ends, public(t, seed, 0)} {
				_, pub := way(0, key, s.Path)
				wantCheck(t, pub, msg, s, false)
				wantCheck(t, key, msg, s, false)
			}
		}
	}
}

// P6.2: how high a tree is, the public key doesn't tell: a signature by a part of a tree goes on up, as long as its path has 4 digests at most.
func TestPathLengths(t *testing.T) {
	seed, msg := digest.Of("seed"), digest.Of("a")
	for height := range 5 {
		for i := range 1 << height {
			s := sign(t, seed, height, i, msg)
			pub := public(t, seed, height)
			for n := height; n < 12; n++ {
				wantCheck(t, pub, msg, s, n <= 4)
				beside := digest.Of(string(rune(n)))
				s.Path = append(s.Path, beside)
				if (n+i)%2 == 1 {
					s.Index += 1 << n
					pub = digest.Pair(beside, pub)
				} else {
					pub = digest.Pair(pub, beside)
				}
			}
		}
	}
}

// P6.2: a path that is far too long shows nothing, whatever number it goes with.
func TestLongPaths(t *testing.T) {
	msg := digest.Of("a")
	s := sign(t, digest.Of("seed"), 0, 0, msg)
	for _, n := range []int{5, 9, 10, 31, 32, 33, 62, 63, 64, 65, 128, 10000} {
		s.Path = make([]api.Digest, n)
		key, _ := onetime.Reach(msg, s.One)
		_, pub := way(0, key, s.Path)
		for _, i := range append(noKeys(4), 0, 1) {
			s.Index = i
			wantCheck(t, pub, msg, s, false)
			wantCheck(t, key, msg, s, false)
		}
	}
}

// P6.3, P6.4: a new signer has used none; it uses each key once, in order, and as many as there are; all that it signs holds.
func TestUse(t *testing.T) {
	for _, seed := range seeds() {
		for height := range 5 {
			n, e := keys.New(seed, height)
			if e != api.OK || n != (api.Signer{Seed: seed, Height: height}) {
				t.Fatalf("a signer of %x, %d high: %v, %d", seed, height, n, e)
			}
			pub := public(t, seed, height)
			used := 0
			for {
				msg := messages()[used%4]
				next, s, e := keys.Use(n, msg)
				if e == api.ErrUsed {
					break
				}
				want := api.Signer{Seed: seed, Height: height, Next: used + 1}
				if e != api.OK || next != want || !same(s, sign(t, seed, height, used, msg)) {
					t.Fatalf("the use %d of %x, %d high: %v, %v, %d", used, seed, height, next, s, e)
				}
				wantCheck(t, pub, msg, s, true)
				n = next
				used++
			}
			if used != 1<<height {
				t.Errorf("%d keys of %x, %d high, are used", used, seed, height)
			}
			if next, s, e := keys.Use(n, seed); e != api.ErrUsed || next != (api.Signer{}) || !none(s) {
				t.Errorf("with all keys of %x, %d high, used: %v, %v, %d", seed, height, next, s, e)
			}
		}
	}
}

// P6.3: a signer that didn't come from New is used from its Next on.
func TestUseAnywhere(t *testing.T) {
	seed, msg := digest.Of("seed"), digest.Of("a")
	for height := range 5 {
		for i := range 1 << height {
			n := api.Signer{Seed: seed, Height: height, Next: i}
			next, s, e := keys.Use(n, msg)
			if e != api.OK || next != (api.Signer{Seed: seed, Height: height, Next: i + 1}) || !same(s, sign(t, seed, height, i, msg)) {
				t.Errorf("%v, used: %v, %v, %d", n, next, s, e)
			}
		}
	}
}

// wantShown: of two signatures that hold for pub, with the same number and paths as long, either both have one one-time key, or their paths show two unlike pairs with one digest.
func wantShown(t *testing.T, pub, a api.Digest, s api.Signature, b api.Digest, u api.Signature, oneKey bool) {
	t.Helper()
	if s.Index != u.Index || len(s.Path) != len(u.Path) {
		t.Fatalf("%d and %d, with %d and %d digests", s.Index, u.Index, len(s.Path), len(u.Path))
	}
	wantCheck(t, pub, a, s, true)
	wantCheck(t, pub, b, u, true)
	x, _ := onetime.Reach(a, s.One)
	y, _ := onetime.Reach(b, u.One)
	if (x == y) != oneKey {
		t.Errorf("the keys %x and %x; one: %t", x, y, oneKey)
	}
	p, _ := way(s.Index, x, s.Path)
	q, _ := way(u.Index, y, u.Path)
	shown := false
	for i := range p {
		shown = shown || p[i] != q[i] && digest.Pair(p[i][0], p[i][1]) == digest.Pair(q[i][0], q[i][1])
	}
	if x != y && !shown {
		t.Errorf("%d of %x has the keys %x and %x, and no two pairs are shown", s.Index, pub, x, y)
	}
}

// P6.4: two signatures by one key of a tree have one one-time key, whatever they are of: together they give it away.
func TestOneIndex(t *testing.T) {
	seed := digest.Of("seed")
	for height := range 5 {
		pub := public(t, seed, height)
		for i := range 1 << height {
			var sigs []api.Signature
			for _, msg := range messages() {
				sigs = append(sigs, sign(t, seed, height, i, msg))
			}
			for k, a := range messages() {
				for m, b := range messages() {
					s, u := sigs[k], sigs[m]
					wantShown(t, pub, a, s, b, u, true)
					if _, _, ok := onetime.Ahead(a, s.One, b, u.One); ok != (a != b) {
						t.Errorf("%x and %x, signed by %d of a tree %d high: %t", a, b, i, height, ok)
					}
				}
			}
		}
	}
}

// clashing is two signatures of msg by one public key, with the same number and paths as long, that reach unlike one-time keys: what stands beside the way at level is changed with the last value, till two ways meet.
func clashing(t *testing.T, msg api.Digest, height, index, level int) (api.Digest, api.Signature, api.Signature) {
	t.Helper()
	s := sign(t, digest.Of("seed"), height, index, msg)
	changed := func(n uint32) api.Signature {
		u := clone(s)
		u.One[34][0], u.Path[level][0] = n, 3*n
		return u
	}
	before := api.Digest{35}
	for i, steps := range onetime.Steps(msg)[:34] {
		end := s.One[i]
		for range 15 - steps {
			end = digest.Pair(end, api.Digest{0, 0, 0, 1})
		}
		before = digest.Pair(before, end)
	}
	end, beside := s.One[34], slices.Clone(s.Path) // the last value is its chain's end
	seen := map[api.Digest]uint32{}
	for n := range uint32(1 << 20) {
		end[0], beside[level][0] = n, 3*n
		key := digest.Pair(before, end)
		_, pub := way(index, key, beside)
		if m, there := seen[pub]; there {
			end[0] = m
			if digest.Pair(before, end) != key {
				return pub, changed(m), changed(n)
			}
		}
		seen[pub] = n
	}
	t.Fatal("no two ways were found that meet")
	return api.Digest{}, s, s
}

// P6.4: two signatures that hold by one public key, with the same number and paths as long, and have unlike one-time keys, show two unlike pairs with one digest.
func TestClash(t *testing.T) {
	msg := api.Digest{math.MaxUint32, math.MaxUint32, math.MaxUint32, 0xfffffff0}
	if n := onetime.Steps(msg)[34]; n != 15 {
		t.Fatalf("the last value of %x isn't its chain's end: %d", msg, n)
	}
	for height := 1; height <= 4; height++ {
		for level := range height {
			pub, s, u := clashing(t, msg, height, (5+5*level)%(1<<height), level)
			wantShown(t, pub, msg, s, msg, u, false)
			wantShown(t, pub, msg, u, msg, s, false)
		}
	}
}

// What is handed in is never changed, its spare room neither, and no answer shares memory with it, or with another one.
func TestUnchanged(t *testing.T) {
	seed, msg := digest.Of("seed"), digest.Of("a")
	pub := public(t, seed, 3)
	s := sign(t, seed, 3, 5, msg)
	z := []api.Digest{{1}, {2}, {3}}
	one, way := slices.Concat(s.One, z), slices.Concat(s.Path, z)
	keptOne, keptWay := slices.Clone(one), slices.Clone(way)
	if !keys.Check(pub, msg, api.Signature{Index: 5, One: one[:35], Path: way[:3]}) {
		t.Error("a signature with spare room doesn't hold")
	}
	if !slices.Equal(one, keptOne) || !slices.Equal(way, keptWay) {
		t.Error("a signature was changed")
	}
	clear(s.One[:cap(s.One)])
	if !slices.Equal(s.Path, keptWay[:3]) {
		t.Error("a path hangs on its one-time signature")
	}
	clear(s.Path[:cap(s.Path)])
	_, u, _ := keys.Use(api.Signer{Seed: seed, Height: 3, Next: 5}, msg)
	want := api.Signature{Index: 5, One: keptOne[:35], Path: keptWay[:3]}
	if !same(sign(t, seed, 3, 5, msg), want) || !same(u, want) {
		t.Error("an answer hangs on another one")
	}
}
