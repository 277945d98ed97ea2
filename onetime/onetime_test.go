package onetime_test

import (
	"fmt"
	"math"
	"math/rand"
	"slices"
	"strconv"
	"strings"
	"testing"

	"seedcorn/api"
	"seedcorn/digest"
	"seedcorn/onetime"
)

// ones is the message whose 32 digits are 15.
var ones = api.Digest{math.MaxUint32, math.MaxUint32, math.MaxUint32, math.MaxUint32}

// numbers is what the document says of the numbers of msg, by its text.
func numbers(msg api.Digest) []int {
	var l []int
	sum := 0
	digits := func(text string) {
		for _, c := range text {
			n, _ := strconv.ParseInt(string(c), 16, 0)
			l, sum = append(l, int(n)), sum+15-int(n)
		}
	}
	digits(digest.Text(msg))
	digits(fmt.Sprintf("%03x", sum))
	return l
}

// walk is what comes of x by n steps.
func walk(x api.Digest, n int) api.Digest {
	if n == 0 {
		return x
	}
	return walk(digest.Pair(x, api.Digest{0, 0, 0, 1}), n-1)
}

// key is the chains of the key of seed, each from its beginning to its end.
func key(seed api.Digest) (chains [35][16]api.Digest) {
	for i := range chains {
		chains[i][0] = digest.Pair(seed, api.Digest{uint32(i), 0, 0, 0})
		for n := 1; n < 16; n++ {
			chains[i][n] = digest.Pair(chains[i][n-1], api.Digest{0, 0, 0, 1})
		}
	}
	return chains
}

// public is the public key of ends.
func public(ends []api.Digest) api.Digest {
	d := api.Digest{35, 0, 0, 0}
	for _, end := range ends {
		d = digest.Pair(d, end)
	}
	return d
}

// reach is the public key of the ends that values reach, with msg: of as many as there are.
func reach(msg api.Digest, s api.Sig) api.Digest {
	var ends []api.Digest
	for i, n := range numbers(msg) {
		if i < len(s) {
			ends = append(ends, walk(s[i], 15-n))
		}
	}
	return public(ends)
}

// ahead is the chains at which other's number is less than that of msg, and t's value leads to that of s.
func ahead(msg api.Digest, s api.Sig, other api.Digest, t api.Sig) []int {
	var l []int
	less := numbers(other)
	for i, n := range numbers(msg) {
		if less[i] < n && walk(t[i], n-less[i]) == s[i] {
			l = append(l, i)
		}
	}
	return l
}

// some is n digests that look like none in particular, always the same for one number.
func some(number int64, n int) []api.Digest {
	r := rand.New(rand.NewSource(number))
	l := make([]api.Digest, n)
	for i := range l {
		for j := range l[i] {
			l[i][j] = r.Uint32()
		}
	}
	return l
}

// messages is messages of many kinds: with one digit that isn't 0, or isn't 15, with few digits, and any.
func messages() []api.Digest {
	l := []api.Digest{{}, ones, {1, 2, 3, 255}, {0x12345678, 0x9abcdef0, 0x0fedcba9, 0x87654321}, digest.Of(""), digest.Of("a")}
	for place := range 32 {
		for _, n := range []uint32{1, 7, 8, 15} {
			var few api.Digest
			few[place/8] = n << (28 - place%8*4)
			many := ones
			many[place/8] -= few[place/8]
			l = append(l, few, many)
		}
	}
	for n := range 33 {
		text := strings.Repeat("f", n) + strings.Repeat("0", 32-n)
		d, _ := digest.Parse(text)
		l = append(l, d)
	}
	return append(l, some(5, 100)...)
}

// seeds is a few seeds.
func seeds() []api.Digest {
	return append([]api.Digest{{}, ones, {5, 6}, {0, 0, 0, 1}, {35}, digest.Of("seed")}, some(6, 10)...)
}

// lengths is numbers of values that are no signature's.
func lengths() []int {
	return []int{0, 1, 2, 3, 31, 32, 33, 34, 36, 37, 70, 1000}
}

// sized is s, cut or with values behind it, so that it has n.
func sized(s api.Sig, n int) api.Sig {
	return slices.Concat(s, some(7, n))[:n]
}

// parse is the digest of a text.
func parse(t *testing.T, text string) api.Digest {
	t.Helper()
	d, e := digest.Parse(text)
	if e != api.OK {
		t.Fatalf("%q is no digest's text", text)
	}
	return d
}

// P5.1: numbers by hand; those behind the digits tell how far these are from 15, each.
func TestStepsByHand(t *testing.T) {
	for text, want := range map[string][3]int{
		"00000000000000000000000000000000": {1, 14, 0},
		"ffffffffffffffffffffffffffffffff": {0, 0, 0},
		"fffffffffffffffffffffffffffffffe": {0, 0, 1},
		"0fffffffffffffffffffffffffffffff": {0, 0, 15},
		"0ffffffffffffffffffffffffffffffe": {0, 1, 0},
		"ffffffffffffffffeeeeeeeeeeeeeeee": {0, 1, 0},
		"000000000000000fffffffffffffffff": {0, 14, 1},
		"0000000000000000ffffffffffffffff": {0, 15, 0},
		"00000000000000000fffffffffffffff": {0, 15, 15},
		"00000000000000000effffffffffffff": {1, 0, 0},
		"000000010000000200000003000000ff": {1, 11, 12},
		"123456780000000000000000000000f0": {1, 10, 13},
		"0123456789abcdef0123456789abcdef": {0, 15, 0},
		"fedcba9876543210fedcba9876543210": {0, 15, 0},
	} {
		got := onetime.Steps(parse(t, text))
		if len(got) != 35 || [3]int(got[32:]) != want {
			t.Errorf("the numbers of %s: %v; want %v behind its digits", text, got, want)
			continue
		}
		for i, c := range text {
			if got[i] != strings.IndexRune("0123456789abcdef", c) {
				t.Errorf("the numbers of %s: %v; that at %d is %c", text, got, i, c)
			}
		}
	}
	want := append(make([]int, 32), 1, 14, 0)
	if got := onetime.Steps(api.Digest{}); !slices.Equal(got, want) {
		t.Errorf("the numbers of zeros: %v", got)
	}
}

// P5.1: numbers, held against the digits of texts.
func TestSteps(t *testing.T) {
	for _, msg := range messages() {
		if got, want := onetime.Steps(msg), numbers(msg); !slices.Equal(got, want) {
			t.Errorf("the numbers of %x: %v; want %v", msg, got, want)
		}
	}
}

// bytesOf is the values of a signature as bytes, by the texts of their words' bytes, the lowest one first.
func bytesOf(s api.Sig) string {
	var b []byte
	for _, d := range s {
		for _, w := range d {
			b = append(b, byte(w), byte(w>>8), byte(w>>16), byte(w>>24))
		}
	}
	return string(b)
}

// P5.1: keys and signatures that were reckoned apart from the program; of a signature what its first one, its last one, and all of them as bytes are digested to.
func TestReckoned(t *testing.T) {
	for _, q := range []struct {
		seed   api.Digest
		public string
		sigs   map[api.Digest][3]string
	}{
		{api.Digest{}, "ff34db615a370351064424767027cc81", map[api.Digest][3]string{
			{}:             {"e9c0c147bdf0f1b38f0e2f49e8cbd55f", "ab19066bbdf0f1b38f0e2f49e8cbd55f", "f67e773902d730c2bc48d2dc442ba6bd"},
			ones:           {"f2e39ad5f3d42d533e563dce78a036a2", "ab19066bbdf0f1b38f0e2f49e8cbd55f", "53960b190fc6c966c48307c20fb91cfd"},
			digest.Of("a"): {"69e34801ca1ca554e6eeeed8a3a218c5", "ec67786e59517bb1aa5019a5dda56dfb", "c87ab461c8f34a8b7eb89cd026314e6e"},
		}},
		{api.Digest{5, 6}, "5f518ce79fd42ee5064424767027cc81", map[api.Digest][3]string{
			{}:             {"ebc951f7fc7b00858f0e2f49e8cbd55f", "144f9788fc7b00858f0e2f49e8cbd55f", "2a7c7ab38481614abc48d2dc442ba6bd"},
			ones:           {"61d9ae8c595fa8873e563dce78a036a2", "144f9788fc7b00858f0e2f49e8cbd55f", "7066b4933fb0bf1ec48307c20fb91cfd"},
			digest.Of("a"): {"43768e29acfbd149e6eeeed8a3a218c5", "18d5f6e446cb98d6aa5019a5dda56dfb", "a40b21a9d0cd9b647eb89cd026314e6e"},
		}},
		{digest.Of("seed"), "7735187e9c0c7ebfca081860862e3d34", map[api.Digest][3]string{
			{}:             {"eb8daad09192b3737d5dfa12f8b5e20a", "35cd590c9192b3737d5dfa12f8b5e20a", "e7ba61a94f10409f06c4c9cfc0e3cf47"},
			ones:           {"733767eb112bbbc0f664ab2df0f735eb", "35cd590c9192b3737d5dfa12f8b5e20a", "d5c6a26e46768e57d90bf7a84d9a71ea"},
			digest.Of("a"): {"646c14eaed32b1f3147600a4dcdc509c", "0150ceb3d2117d6ea3581f7f81998ca2", "19f95a13380b7246c0a96ea640669d65"},
		}},
		{ones, "a9b5b305797e3e7a383ce01c2c354e4a", map[api.Digest][3]string{
			{}:             {"0f304947e77d74d61e89c35c48291ee3", "74cbb35be77d74d61e89c35c48291ee3", "3557bd54785608e9498fddfa231ab5c9"},
			ones:           {"5b462fea7a25cd4c0904e9b5c888b98d", "74cbb35be77d74d61e89c35c48291ee3", "b6493e3c29de49d2d9640800bfabf2ae"},
			digest.Of("a"): {"8610f1b157226ddd01cf132cfd9c9a0c", "123587e74c339372ce0676e3bbdbb163", "506ebc66b66a85d98ded3117d6edd640"},
		}},
	} {
		if got := digest.Text(onetime.Public(q.seed)); got != q.public {
			t.Errorf("the public key of %x: %s; want %s", q.seed, got, q.public)
		}
		for msg, want := range q.sigs {
			s := onetime.Sign(q.seed, msg)
			if len(s) != 35 {
				t.Errorf("%x signed by %x: %d values", msg, q.seed, len(s))
				continue
			}
			got := [3]string{digest.Text(s[0]), digest.Text(s[34]), digest.Text(digest.Of(bytesOf(s)))}
			if got != want {
				t.Errorf("%x signed by %x: %v; want %v", msg, q.seed, got, want)
			}
		}
	}
}

// P5.2: what values that are no key's reach, as it was reckoned apart from the program.
func TestReachReckoned(t *testing.T) {
	s := make(api.Sig, 35)
	for i := range s {
		n := uint32(i)
		s[i] = api.Digest{n, n * n, 7, math.MaxUint32 - n}
	}
	for msg, want := range map[api.Digest]string{
		{}:             "29e5b781d2b44d12814be67b08c1989f",
		ones:           "376909add6d2a54b6eb7beea04d0f361",
		digest.Of("a"): "09ce975d166d04d1b4205cd9aef91ea0",
	} {
		if got, ok := onetime.Reach(msg, s); digest.Text(got) != want || !ok {
			t.Errorf("with %x is reached %x, %t; want %s", msg, got, ok, want)
		}
	}
}

// P5.1: public keys, held against whole chains.
func TestPublic(t *testing.T) {
	for _, seed := range seeds() {
		var ends []api.Digest
		for _, values := range key(seed) {
			ends = append(ends, values[15])
		}
		if got, want := onetime.Public(seed), public(ends); got != want {
			t.Errorf("the public key of %x: %x; want %x", seed, got, want)
		}
	}
}

// P5.1: signatures, held against whole chains.
func TestSign(t *testing.T) {
	for _, seed := range seeds() {
		chains := key(seed)
		for _, msg := range messages() {
			got := onetime.Sign(seed, msg)
			if len(got) != 35 {
				t.Fatalf("%x signed by %x: %d values", msg, seed, len(got))
			}
			for i, n := range numbers(msg) {
				if got[i] != chains[i][n] {
					t.Errorf("%x signed by %x: at %d %x; want %x", msg, seed, i, got[i], chains[i][n])
				}
			}
		}
	}
}

// P5.2: what any 35 values reach, with any message; that, and nothing else, they hold by.
func TestReach(t *testing.T) {
	for i, msg := range messages() {
		s := api.Sig(some(int64(i), 35))
		want := reach(msg, s)
		if got, ok := onetime.Reach(msg, s); got != want || !ok {
			t.Errorf("with %x is reached %x, %t; want %x", msg, got, ok, want)
		}
		if !onetime.Check(want, msg, s) {
			t.Errorf("with %x what is reached doesn't hold", msg)
		}
		for word := range want {
			other := want
			other[word] ^= 1 << (i % 32)
			if onetime.Check(other, msg, s) {
				t.Errorf("with %x another key than what is reached holds: %x", msg, other)
			}
		}
		if onetime.Check(api.Digest{}, msg, s) {
			t.Errorf("with %x zeros hold", msg)
		}
	}
}

// P5.2: what hasn't 35 values reaches nothing, and holds by nothing: not by zeros, and not by the key of the ends that it has.
func TestLengths(t *testing.T) {
	seed := digest.Of("seed")
	for _, msg := range []api.Digest{{}, ones, digest.Of("a")} {
		for _, n := range lengths() {
			s := sized(onetime.Sign(seed, msg), n)
			if got, ok := onetime.Reach(msg, s); ok || got != (api.Digest{}) {
				t.Errorf("%d values reach %x, %t", n, got, ok)
			}
			for _, pub := range []api.Digest{{}, {35}, onetime.Public(seed), reach(msg, s), public(s)} {
				if onetime.Check(pub, msg, s) {
					t.Errorf("%d values hold by %x", n, pub)
				}
			}
		}
		if got, ok := onetime.Reach(msg, nil); ok || got != (api.Digest{}) || onetime.Check(api.Digest{}, msg, nil) || onetime.Check(api.Digest{35}, msg, nil) {
			t.Errorf("no values reach %x, %t, or hold", got, ok)
		}
	}
}

// P5.2, P5.4: a signature by a key holds by its public key, and not by another one, nor of another message.
func TestCheck(t *testing.T) {
	all := messages()
	for _, seed := range seeds()[:6] {
		pub, other := onetime.Public(seed), onetime.Public(digest.Of("another"))
		for i, msg := range all {
			s := onetime.Sign(seed, msg)
			if !onetime.Check(pub, msg, s) {
				t.Errorf("%x signed by %x doesn't hold", msg, seed)
			}
			if got, ok := onetime.Reach(msg, s); got != pub || !ok {
				t.Errorf("%x signed by %x reaches %x, %t; want %x", msg, seed, got, ok, pub)
			}
			if onetime.Check(other, msg, s) || onetime.Check(seed, msg, s) {
				t.Errorf("%x signed by %x holds by another key", msg, seed)
			}
			wrong := all[(i+1)%len(all)]
			if wrong != msg && onetime.Check(pub, wrong, s) {
				t.Errorf("%x signed by %x holds of %x", msg, seed, wrong)
			}
		}
	}
}

// P5.2: almost a signature is none: a value is changed, one step ahead, one step behind, or has changed places.
func TestAlmost(t *testing.T) {
	seed := digest.Of("seed")
	pub, chains := onetime.Public(seed), key(seed)
	for _, msg := range []api.Digest{{}, ones, digest.Of("a"), {1, 2, 3, 255}} {
		s := onetime.Sign(seed, msg)
		for i, n := range numbers(msg) {
			values := []api.Digest{{}, seed, pub, s[(i+1)%35], walk(s[i], 1), walk(s[i], 15)}
			if n > 0 {
				values = append(values, chains[i][n-1])
			}
			for word := range s[i] {
				changed := s[i]
				changed[word] ^= 1 << (i % 32)
				values = append(values, changed)
			}
			for _, x := range values {
				wrong := slices.Clone(s)
				wrong[i] = x
				if x != s[i] && onetime.Check(pub, msg, wrong) {
					t.Errorf("%x is signed by %x at %d; by the key it is %x", msg, x, i, s[i])
				}
			}
		}
	}
}

// wantAhead: Ahead tells the first one of the chains that are ahead, and t's value there, or that there is none.
func wantAhead(t *testing.T, msg api.Digest, s api.Sig, other api.Digest, u api.Sig, chains []int) {
	t.Helper()
	want, value, is := 0, api.Digest{}, len(chains) > 0
	if is {
		want = chains[0]
		value = u[want]
	}
	if i, x, ok := onetime.Ahead(msg, s, other, u); i != want || x != value || ok != is {
		t.Errorf("of %x and %x: %d, %x, %t; want %d, %x, %t", msg, other, i, x, ok, want, value, is)
	}
}

// P5.3: the chains at which the other number is less, by hand, those behind the digits, too: the first one of them at which the values lead there is told, whether it is the one or the other signature that goes wrong at those ahead of it.
func TestAheadByHand(t *testing.T) {
	const zeros = "00000000000000000000000000000000"
	var digits []int
	for i := range 32 {
		digits = append(digits, i)
	}
	all, most := strings.Repeat("f", 32), zeros[:17]+strings.Repeat("f", 15)
	for _, q := range []struct {
		msg, other  string
		there, back []int
	}{
		{zeros, zeros, nil, nil},
		{all, all, nil, nil},
		{"00000001" + zeros[8:], "00000010" + zeros[8:], []int{7}, []int{6}},
		{"f" + zeros[1:], "e" + zeros[1:], []int{0}, []int{34}},
		{zeros[1:] + "1", zeros, []int{31, 34}, []int{33}},
		{zeros[1:] + "1", zeros[1:] + "2", []int{34}, []int{31}},
		{all, zeros, digits, []int{32, 33}},
		{zeros[:17] + "e" + most[18:], most, []int{32}, []int{17, 33, 34}},
		{"1100" + zeros[4:], "0011" + zeros[4:], []int{0, 1}, []int{2, 3}},
	} {
		msg, other := parse(t, q.msg), parse(t, q.other)
		wantChains(t, msg, other, q.there)
		wantChains(t, other, msg, q.back)
	}
}

// wantChains: of the signatures of msg and other by one key just the chains that are told show what lies ahead, the first one first.
func wantChains(t *testing.T, msg, other api.Digest, chains []int) {
	t.Helper()
	seed := digest.Of("seed")
	s, u := onetime.Sign(seed, msg), onetime.Sign(seed, other)
	wrongS, wrongU := slices.Clone(s), slices.Clone(u)
	wantAhead(t, msg, s, other, u, chains)
	for n, i := range chains {
		wrongS[i][n%4]++
		wrongU[i][n%4]++
		wantAhead(t, msg, wrongS, other, u, chains[n+1:])
		wantAhead(t, msg, s, other, wrongU, chains[n+1:])
	}
}

// P5.3: held against another reckoning, where some values lead nowhere, or lie one step too far, or too few.
func TestAhead(t *testing.T) {
	seed := digest.Of("seed")
	chains, all := key(seed), messages()
	r := rand.New(rand.NewSource(8))
	later := 0
	for range 1500 {
		msg, other := all[r.Intn(len(all))], all[r.Intn(len(all))]
		s, u := onetime.Sign(seed, msg), onetime.Sign(seed, other)
		less := numbers(other)
		often := r.Intn(10)
		for i, n := range numbers(msg) {
			if r.Intn(10) < often {
				continue
			}
			switch r.Intn(6) {
			case 0:
				s[i][r.Intn(4)]++
			case 1:
				u[i][r.Intn(4)]++
			case 2:
				s[i] = walk(s[i], 1)
			case 3:
				u[i] = walk(u[i], 1)
			case 4:
				s[i] = chains[i][max(n-1, 0)]
			case 5:
				u[i] = chains[i][max(less[i]-1, 0)]
			}
		}
		want := ahead(msg, s, other, u)
		wantAhead(t, msg, s, other, u, want)
		if len(want) > 0 && want[0] > 3 {
			later++
		}
	}
	if later < 50 {
		t.Errorf("only %d times none of the first chains is the one", later)
	}
}

// P5.3: values that are no key's show what lies ahead, if they lead there: of two that have one such chain, that one is told.
func TestAheadOfNoKey(t *testing.T) {
	for _, msg := range some(9, 20) {
		for _, other := range []api.Digest{{}, ones, digest.Of("b"), {1, 2, 3, 255}} {
			less := numbers(other)
			for i, n := range numbers(msg) {
				s, u := api.Sig(some(10, 35)), api.Sig(some(11, 35))
				if less[i] < n {
					s[i] = walk(u[i], n-less[i])
					wantAhead(t, msg, s, other, u, []int{i})
					continue
				}
				// As far, or farther: this shows nothing, though it leads there.
				u[i] = walk(s[i], less[i]-n)
				wantAhead(t, msg, s, other, u, nil)
				s[i] = u[i]
				wantAhead(t, msg, s, other, u, nil)
			}
		}
	}
}

// P5.3: signatures by two keys, and of one message, show nothing of each other.
func TestNotAhead(t *testing.T) {
	one, two := digest.Of("one"), digest.Of("two")
	for i, msg := range messages() {
		other := messages()[(i+7)%200]
		s, u := onetime.Sign(one, msg), onetime.Sign(two, other)
		wantAhead(t, msg, s, other, u, nil)
		wantAhead(t, other, u, msg, s, nil)
		wantAhead(t, msg, s, msg, s, nil)
		wantAhead(t, msg, s, msg, onetime.Sign(two, msg), nil)
	}
}

// P5.3: what hasn't 35 values shows nothing, on either side, though it has the chain that would be told.
func TestAheadLengths(t *testing.T) {
	seed := digest.Of("seed")
	for _, q := range [][2]api.Digest{{{}, ones}, {ones, {}}, {{}, {}}, {digest.Of("a"), digest.Of("b")}} {
		s, u := onetime.Sign(seed, q[0]), onetime.Sign(seed, q[1])
		for _, n := range lengths() {
			wantAhead(t, q[0], sized(s, n), q[1], u, nil)
			wantAhead(t, q[0], s, q[1], sized(u, n), nil)
			wantAhead(t, q[0], sized(s, n), q[1], sized(u, n), nil)
		}
		wantAhead(t, q[0], nil, q[1], u, nil)
		wantAhead(t, q[0], s, q[1], nil, nil)
		wantAhead(t, q[0], nil, q[1], nil, nil)
	}
}

// less tells whether one of a's numbers is less than that of b.
func less(a, b []int) bool {
	for i, n := range a {
		if n < b[i] {
			return true
		}
	}
	return false
}

// P5.4: of two unlike messages each has a number that is less than the other one's.
func TestLess(t *testing.T) {
	all := messages()
	for _, a := range all {
		x := onetime.Steps(a)
		for _, b := range all {
			if y := onetime.Steps(b); a != b && !less(x, y) {
				t.Errorf("%x has no number that is less than that of %x", a, b)
			}
		}
	}
}

// P5.4: two signatures of unlike messages by one key give away, either way round, a value that lies ahead of one that was signed.
func TestTwice(t *testing.T) {
	seed := digest.Of("seed")
	all, chains := messages(), key(seed)
	for i, a := range all {
		for _, b := range []api.Digest{all[(i+1)%len(all)], all[(i+100)%len(all)], {}, ones} {
			s, u := onetime.Sign(seed, a), onetime.Sign(seed, b)
			at, x, ok := onetime.Ahead(a, s, b, u)
			if ok != (a != b) {
				t.Errorf("two signatures, of %x and %x, by one key: %t", a, b, ok)
			}
			if !ok {
				continue
			}
			n, before := numbers(a)[at], numbers(b)[at]
			if before >= n || x != u[at] || x != chains[at][before] || walk(x, n-before) != s[at] {
				t.Errorf("of %x and %x: at %d is %x, which doesn't lie ahead", a, b, at, x)
			}
		}
	}
}

// P5.4: a key is for one message: who has the signatures of two by it signs others.
func TestForged(t *testing.T) {
	seed := digest.Of("seed")
	pub := onetime.Public(seed)
	first, other := onetime.Sign(seed, api.Digest{}), onetime.Sign(seed, ones)
	for _, msg := range messages() {
		forged := append(slices.Clone(first[:32]), other[32:]...) // the beginnings of all chains
		for i, n := range numbers(msg) {
			forged[i] = walk(forged[i], n)
		}
		if !onetime.Check(pub, msg, forged) {
			t.Errorf("%x isn't signed by what two signatures gave away", msg)
		}
	}
}

// What is handed in is never changed, its spare room neither, and no answer shares memory with it, or with another one.
func TestUnchanged(t *testing.T) {
	seed, a, b := digest.Of("seed"), digest.Of("a"), digest.Of("b")
	steps, s, u := onetime.Steps(a), onetime.Sign(seed, a), onetime.Sign(seed, b)
	roomS, roomU := slices.Concat(s, some(12, 10)), slices.Concat(u, some(13, 10))
	keptS, keptU := slices.Clone(roomS), slices.Clone(roomU)
	_, _, ahead := onetime.Ahead(a, roomS[:35], b, roomU[:35])
	_, reached := onetime.Reach(a, roomS[:35])
	if !ahead || !reached || !onetime.Check(onetime.Public(seed), a, roomS[:35]) {
		t.Error("a signature with spare room isn't one")
	}
	if !slices.Equal(roomS, keptS) || !slices.Equal(roomU, keptU) {
		t.Error("a signature was changed")
	}
	clear(steps[:cap(steps)])
	clear(s[:cap(s)])
	if !slices.Equal(onetime.Steps(a), numbers(a)) || !slices.Equal(onetime.Sign(seed, a), keptS[:35]) {
		t.Error("an answer hangs on another one")
	}
}
