package merkle_test

import (
	"math"
	"math/bits"
	"slices"
	"strconv"
	"testing"

	"seedcorn/api"
	"seedcorn/digest"
	"seedcorn/merkle"
)

// leaves is n unlike digests, always the same.
func leaves(n int) []api.Digest {
	l := make([]api.Digest, n)
	for i := range l {
		l[i] = digest.Of(strconv.Itoa(i))
	}
	return l
}

// sizes is small lengths, and those about powers of two, up to the longest list that is proved.
func sizes() []int {
	var l []int
	for n := 1; n <= 20; n++ {
		l = append(l, n)
	}
	return append(l, 31, 32, 33, 63, 64, 65, 100, 127, 128, 129, 255, 256, 257, 511, 512, 513, 999, 1000)
}

// some is numbers from 0 to below n: all, if they are few, else those about the ends and about powers of two.
func some(n int) []int {
	var l []int
	for i := range n {
		near := i < 3 || n-i < 4 || bits.OnesCount(uint(i)) == 1 || bits.OnesCount(uint(i+1)) == 1 || bits.OnesCount(uint(n-i)) == 1
		if n <= 40 || near || i%97 == 0 {
			l = append(l, i)
		}
	}
	return l
}

// root is the root of l, reckoned from its leaves up: two trees that are as great are joined at once, all others at last.
func root(l []api.Digest) api.Digest {
	if len(l) == 0 {
		return digest.Of("")
	}
	var trees []api.Digest
	join := func() {
		n := len(trees)
		trees = append(trees[:n-2], digest.Pair(trees[n-2], trees[n-1]))
	}
	for i, d := range l {
		trees = append(trees, d)
		for n := i + 1; n%2 == 0; n /= 2 {
			join()
		}
	}
	for len(trees) > 1 {
		join()
	}
	return trees[0]
}

// way is the pairs on the way from a leaf at i of n up, by the bits of the places, and if the proof is just as long as the way.
func way(n, i int, leaf api.Digest, proof []api.Digest) ([][2]api.Digest, bool) {
	var pairs [][2]api.Digest
	last, d := n-1, leaf
	for _, p := range proof {
		if last == 0 {
			return nil, false
		}
		pair := [2]api.Digest{d, p}
		if i%2 == 1 || i == last {
			pair = [2]api.Digest{p, d}
			for i%2 == 0 && i > 0 {
				i, last = i/2, last/2
			}
		}
		i, last = i/2, last/2
		pairs = append(pairs, pair)
		d = digest.Pair(pair[0], pair[1])
	}
	return pairs, last == 0
}

// shows: does the proof show, by the bits of the places, that leaf is at i in a list of n with that root?
func shows(root api.Digest, n, i int, leaf api.Digest, proof []api.Digest) bool {
	if n > 1000 || i < 0 || i >= n {
		return false
	}
	pairs, whole := way(n, i, leaf, proof)
	if len(pairs) == 0 {
		return whole && root == leaf
	}
	top := pairs[len(pairs)-1]
	return whole && root == digest.Pair(top[0], top[1])
}

// showsOn: does the proof show, by the bits of the numbers, that a list of n with the root root goes on one of m with the root old?
func showsOn(old api.Digest, m int, root api.Digest, n int, proof []api.Digest) bool {
	if n > 1000 || m < 1 || m > n {
		return false
	}
	if m == n {
		return len(proof) == 0 && old == root
	}
	front, all, _, whole := wayOn(old, m, n, proof)
	return whole && front == old && all == root
}

// wayOn is the roots that a proof has for the first m of n and for all of them, the pairs on the way up to that of all, and if the proof is just as long as the way.
func wayOn(old api.Digest, m, n int, proof []api.Digest) (front, all api.Digest, pairs [][2]api.Digest, whole bool) {
	if bits.OnesCount(uint(m)) == 1 {
		proof = append([]api.Digest{old}, proof...)
	}
	if len(proof) == 0 {
		return front, all, nil, false
	}
	at, last := m-1, n-1
	for at%2 == 1 {
		at, last = at/2, last/2
	}
	front, all = proof[0], proof[0]
	for _, p := range proof[1:] {
		if last == 0 {
			return front, all, nil, false
		}
		pair := [2]api.Digest{all, p}
		if at%2 == 1 || at == last {
			front, pair = digest.Pair(p, front), [2]api.Digest{p, all}
			for at%2 == 0 && at > 0 {
				at, last = at/2, last/2
			}
		}
		at, last = at/2, last/2
		pairs = append(pairs, pair)
		all = digest.Pair(pair[0], pair[1])
	}
	return front, all, pairs, last == 0
}

// others is proofs that are almost l: one more, one less, one changed, two that have changed places; each is new.
func others(l []api.Digest) [][]api.Digest {
	z := digest.Of("z")
	all := [][]api.Digest{append([]api.Digest{z}, l...), append(slices.Clone(l), z), append(slices.Clone(l), api.Digest{})}
	for i, d := range l {
		all = append(all, slices.Delete(slices.Clone(l), i, i+1), slices.Insert(slices.Clone(l), i, d))
		for word := range d {
			changed := slices.Clone(l)
			changed[i][word] ^= 1 << (i % 32)
			all = append(all, changed)
		}
		if i > 0 && l[i-1] != d {
			changed := slices.Clone(l)
			changed[i-1], changed[i] = d, l[i-1]
			all = append(all, changed)
		}
	}
	if len(l) > 0 {
		all = append(all, nil)
	}
	return all
}

// P4.1: roots of few, by hand.
func TestRootByHand(t *testing.T) {
	p, l := digest.Pair, leaves(9)
	four := p(p(l[0], l[1]), p(l[2], l[3]))
	for n, want := range []api.Digest{
		digest.Of(""),
		l[0],
		p(l[0], l[1]),
		p(p(l[0], l[1]), l[2]),
		four,
		p(four, l[4]),
		p(four, p(l[4], l[5])),
		p(four, p(p(l[4], l[5]), l[6])),
		p(four, p(p(l[4], l[5]), p(l[6], l[7]))),
		p(p(four, p(p(l[4], l[5]), p(l[6], l[7]))), l[8]),
	} {
		if got := merkle.Root(l[:n]); got != want {
			t.Errorf("the root of %d: %x; want %x", n, got, want)
		}
	}
	if got := merkle.Root([]api.Digest{}); got != digest.Of("") {
		t.Errorf("the root of an empty list: %x", got)
	}
	if got := merkle.Root(make([]api.Digest, 2)); got != p(api.Digest{}, api.Digest{}) {
		t.Errorf("the root of two zeros: %x", got)
	}
}

// P4.1: roots, held against another reckoning; of long lists, too, which are proved nowhere.
func TestRoot(t *testing.T) {
	l := leaves(70000)
	for _, n := range append(sizes(), 0, 1001, 1024, 1025, 5000, 65535, 65536, 65537, 70000) {
		if got, want := merkle.Root(l[:n]), root(l[:n]); got != want {
			t.Errorf("the root of %d: %x; want %x", n, got, want)
		}
	}
}

// P4.1: the proofs that one of three, of seven, is in, by hand.
func TestProveByHand(t *testing.T) {
	p, l := digest.Pair, leaves(7)
	left, right := p(p(l[0], l[1]), p(l[2], l[3])), p(p(l[4], l[5]), l[6])
	for n, proofs := range map[int][][]api.Digest{
		1: {nil},
		2: {{l[1]}, {l[0]}},
		3: {{l[1], l[2]}, {l[0], l[2]}, {p(l[0], l[1])}},
		5: {{l[1], p(l[2], l[3]), l[4]}, {l[0], p(l[2], l[3]), l[4]}, {l[3], p(l[0], l[1]), l[4]}, {l[2], p(l[0], l[1]), l[4]}, {left}},
		7: {
			{l[1], p(l[2], l[3]), right}, {l[0], p(l[2], l[3]), right}, {l[3], p(l[0], l[1]), right}, {l[2], p(l[0], l[1]), right},
			{l[5], l[6], left}, {l[4], l[6], left}, {p(l[4], l[5]), left},
		},
	} {
		for i, want := range proofs {
			if got, e := merkle.Prove(l[:n], i); e != api.OK || !slices.Equal(got, want) {
				t.Errorf("that %d of %d is in: %x, %d; want %x", i, n, got, e, want)
			}
		}
	}
}

// P4.1: the proofs that a list goes on its first ones, by hand.
func TestProveOnByHand(t *testing.T) {
	p, l := digest.Pair, leaves(8)
	left, right := p(p(l[0], l[1]), p(l[2], l[3])), p(p(l[4], l[5]), l[6])
	for n, proofs := range map[int][][]api.Digest{
		1: {nil},
		2: {{l[1]}, nil},
		3: {{l[1], l[2]}, {l[2]}, nil},
		4: {{l[1], p(l[2], l[3])}, {p(l[2], l[3])}, {l[2], l[3], p(l[0], l[1])}, nil},
		7: {
			{l[1], p(l[2], l[3]), right}, {p(l[2], l[3]), right}, {l[2], l[3], p(l[0], l[1]), right}, {right},
			{l[4], l[5], l[6], left}, {p(l[4], l[5]), l[6], left}, nil,
		},
		8: {
			{l[1], p(l[2], l[3]), p(p(l[4], l[5]), p(l[6], l[7]))}, {p(l[2], l[3]), p(p(l[4], l[5]), p(l[6], l[7]))},
			{l[2], l[3], p(l[0], l[1]), p(p(l[4], l[5]), p(l[6], l[7]))}, {p(p(l[4], l[5]), p(l[6], l[7]))},
			{l[4], l[5], p(l[6], l[7]), left}, {p(l[4], l[5]), p(l[6], l[7]), left},
			{l[6], l[7], p(l[4], l[5]), left}, nil,
		},
	} {
		for i, want := range proofs {
			if got, e := merkle.ProveOn(l[:n], i+1); e != api.OK || !slices.Equal(got, want) {
				t.Errorf("that %d go on %d: %x, %d; want %x", n, i+1, got, e, want)
			}
		}
	}
}

// P4.1, P4.2: there is no such place, no such number: no proof, and nothing is shown.
func TestNoPlace(t *testing.T) {
	for _, n := range []int{0, 1, 2, 3, 7, 8, 1000, 1001} {
		l := leaves(n)
		all := merkle.Root(l)
		for _, i := range []int{math.MinInt, math.MinInt32, -n, -2, -1, n, n + 1, 2 * n, 1 << 20, math.MaxInt32, math.MaxInt} {
			if i >= 0 && i < n {
				continue
			}
			if proof, e := merkle.Prove(l, i); e != api.ErrArg || len(proof) != 0 {
				t.Errorf("that %d of %d is in: %x, %d", i, n, proof, e)
			}
			if merkle.Check(all, n, i, all, nil) {
				t.Errorf("%d of %d is shown to be in", i, n)
			}
		}
		for _, m := range []int{math.MinInt, math.MinInt32, -n, -1, 0, n + 1, 2*n + 1, 1 << 20, math.MaxInt32, math.MaxInt} {
			if m >= 1 && m <= n {
				continue
			}
			if proof, e := merkle.ProveOn(l, m); e != api.ErrArg || len(proof) != 0 {
				t.Errorf("that %d go on %d: %x, %d", n, m, proof, e)
			}
			if merkle.CheckOn(all, m, all, n, nil) {
				t.Errorf("%d are shown to go on %d", n, m)
			}
		}
	}
}

// P4.2: no list of below 1, or of above MaxList, shows anything, whatever it is given.
func TestNoLength(t *testing.T) {
	d := digest.Of("")
	for _, n := range []int{math.MinInt, math.MinInt32, -1000, -2, -1, 0, 1001, 1002, 1 << 20, math.MaxInt32, math.MaxInt - 1, math.MaxInt} {
		for _, i := range []int{math.MinInt, n - 1, n, n / 2, -1, 0, 1, math.MaxInt} {
			for _, proof := range [][]api.Digest{nil, {d}, make([]api.Digest, 100)} {
				if merkle.Check(d, n, i, d, proof) {
					t.Errorf("%d of %d is shown to be in by %d", i, n, len(proof))
				}
				if merkle.CheckOn(d, i, d, n, proof) {
					t.Errorf("%d are shown to go on %d by %d", n, i, len(proof))
				}
			}
		}
	}
}

// P4.2: the longest list that is proved has MaxList; of one more proofs are made, but show nothing.
func TestMaxList(t *testing.T) {
	l := leaves(api.MaxList + 1)
	for n, want := range map[int]bool{api.MaxList: true, api.MaxList + 1: false} {
		all := merkle.Root(l[:n])
		for _, i := range []int{0, 1, 511, 512, n - 1} {
			proof, e := merkle.Prove(l[:n], i)
			if e != api.OK {
				t.Fatalf("that %d of %d is in: %d", i, n, e)
			}
			if got := merkle.Check(all, n, i, l[i], proof); got != want {
				t.Errorf("%d of %d is shown to be in: %t", i, n, got)
			}
		}
		for _, m := range []int{1, 2, 511, 512, n - 1, n} {
			proof, e := merkle.ProveOn(l[:n], m)
			if e != api.OK {
				t.Fatalf("that %d go on %d: %d", n, m, e)
			}
			if got := merkle.CheckOn(merkle.Root(l[:m]), m, all, n, proof); got != want {
				t.Errorf("%d are shown to go on %d: %t", n, m, got)
			}
		}
	}
}

// P4.1, P4.2, P4.4: a proof that was made that one is in is one; by another reckoning, too; almost the same shows nothing.
func TestIn(t *testing.T) {
	z := digest.Of("z")
	for _, n := range sizes() {
		l := leaves(n)
		all := merkle.Root(l)
		for _, i := range some(n) {
			proof, e := merkle.Prove(l, i)
			if e != api.OK || !shows(all, n, i, l[i], proof) {
				t.Fatalf("that %d of %d is in: %x, %d", i, n, proof, e)
			}
			if !merkle.Check(all, n, i, l[i], proof) {
				t.Errorf("%d of %d isn't shown to be in", i, n)
			}
			if merkle.Check(z, n, i, l[i], proof) || merkle.Check(all, n, i, z, proof) || merkle.Check(l[i], n, i, all, proof) && n > 1 {
				t.Errorf("%d of %d is shown to be in with another root, or leaf", i, n)
			}
			for _, other := range others(proof) {
				if merkle.Check(all, n, i, l[i], other) {
					t.Errorf("%d of %d is shown to be in by %x; that made was %x", i, n, other, proof)
				}
			}
		}
	}
}

// P4.1, P4.2, P4.4: a proof that was made that a list goes on another one is one; by another reckoning, too; almost the same shows nothing.
func TestOn(t *testing.T) {
	z := digest.Of("z")
	for _, n := range sizes() {
		l := leaves(n)
		all := merkle.Root(l)
		for _, i := range some(n) {
			m := i + 1
			old := merkle.Root(l[:m])
			proof, e := merkle.ProveOn(l, m)
			if e != api.OK || !showsOn(old, m, all, n, proof) {
				t.Fatalf("that %d go on %d: %x, %d", n, m, proof, e)
			}
			if !merkle.CheckOn(old, m, all, n, proof) {
				t.Errorf("%d aren't shown to go on %d", n, m)
			}
			if merkle.CheckOn(z, m, all, n, proof) || merkle.CheckOn(old, m, z, n, proof) || merkle.CheckOn(all, m, old, n, proof) && m < n {
				t.Errorf("%d are shown to go on %d with another root", n, m)
			}
			for _, other := range others(proof) {
				if merkle.CheckOn(old, m, all, n, other) {
					t.Errorf("%d are shown to go on %d by %x; that made was %x", n, m, other, proof)
				}
			}
		}
	}
}

// P4.2: what a proof shows of other places and lengths than it was made for is what another reckoning says. (It may be so: the root of three is that of two whose first one is a pair.)
func TestElsewhere(t *testing.T) {
	const most = 9
	shown := 0
	for n := 1; n <= most; n++ {
		l := leaves(n)
		all := merkle.Root(l)
		for i := range n {
			in, _ := merkle.Prove(l, i)
			on, _ := merkle.ProveOn(l, i+1)
			old := merkle.Root(l[:i+1])
			for otherN := -1; otherN <= most+1; otherN++ {
				for other := -1; other <= otherN+1; other++ {
					want := shows(all, otherN, other, l[i], in)
					if got := merkle.Check(all, otherN, other, l[i], in); got != want {
						t.Errorf("the proof that %d of %d is in shows that of %d of %d: %t", i, n, other, otherN, got)
					}
					wantOn := showsOn(old, other, all, otherN, on)
					if got := merkle.CheckOn(old, other, all, otherN, on); got != wantOn {
						t.Errorf("the proof that %d go on %d shows that of %d and %d: %t", n, i+1, otherN, other, got)
					}
					if want && (n != otherN || i != other) || wantOn && (n != otherN || i+1 != other) {
						shown++
					}
				}
			}
		}
	}
	if shown == 0 {
		t.Error("no proof shows anything elsewhere: this test tests half of it")
	}
}

// P4.2: the proof that a list goes on all of it has nothing; the roots are held against each other.
func TestOnItself(t *testing.T) {
	a, b := digest.Of("a"), digest.Of("b")
	for _, n := range []int{1, 2, 3, 4, 7, 8, 1000} {
		if !merkle.CheckOn(a, n, a, n, nil) || !merkle.CheckOn(a, n, a, n, []api.Digest{}) {
			t.Errorf("%d don't go on all of them", n)
		}
		if merkle.CheckOn(a, n, b, n, nil) || merkle.CheckOn(a, n, a, n, []api.Digest{a}) || merkle.CheckOn(a, n, b, n, []api.Digest{b}) {
			t.Errorf("%d go on as many others", n)
		}
	}
}

// P4.2: a proof that is too short is none, though what it lacks were zeros, and though zeros are what is proved.
func TestShortZeros(t *testing.T) {
	for _, n := range []int{2, 3, 4, 7, 8} {
		l := make([]api.Digest, n)
		all := merkle.Root(l)
		for i := range n {
			in, _ := merkle.Prove(l, i)
			on, _ := merkle.ProveOn(l, i+1)
			old := merkle.Root(l[:i+1])
			for short := range in {
				if merkle.Check(all, n, i, l[i], in[short+1:]) || merkle.Check(all, n, i, l[i], in[:short]) {
					t.Errorf("%d of %d zeros is shown to be in by too few", i, n)
				}
			}
			for short := range on {
				if merkle.CheckOn(old, i+1, all, n, on[short+1:]) || merkle.CheckOn(old, i+1, all, n, on[:short]) {
					t.Errorf("%d zeros are shown to go on %d by too few", n, i+1)
				}
			}
		}
	}
}

// words finds two words of which list makes unlike lists with one root.
func words(t *testing.T, list func(w uint32) []api.Digest) (v, w uint32) {
	t.Helper()
	seen := map[api.Digest]uint32{}
	for w := range uint32(1 << 20) {
		l := list(w)
		d := root(l)
		if v, there := seen[d]; there && !slices.Equal(list(v), l) {
			return v, w
		}
		seen[d] = w
	}
	t.Fatal("no two lists with one root were found")
	return 0, 0
}

// clashing finds two unlike lists with one root, of those that list makes of words.
func clashing(t *testing.T, list func(w uint32) []api.Digest) (a, b []api.Digest) {
	t.Helper()
	v, w := words(t, list)
	return list(v), list(w)
}

// pairOf is the two of a list of two.
func pairOf(l []api.Digest) [2]api.Digest {
	return [2]api.Digest(l)
}

// join is lists, one behind the other, as a new one.
func join(l ...[]api.Digest) []api.Digest {
	return slices.Concat(l...)
}

// wantClash: Clash of a and b is p, q and true; and the other way round.
func wantClash(t *testing.T, a, b []api.Digest, p, q [2]api.Digest) {
	t.Helper()
	if p == q || digest.Pair(p[0], p[1]) != digest.Pair(q[0], q[1]) {
		t.Errorf("%x and %x are no clash", p, q)
	}
	if x, y, ok := merkle.Clash(a, b); x != p || y != q || !ok {
		t.Errorf("of %d: %x, %x, %t; want %x, %x", len(a), x, y, ok, p, q)
	}
	if y, x, ok := merkle.Clash(b, a); x != p || y != q || !ok {
		t.Errorf("of %d, the other way round: %x, %x, %t; want %x, %x", len(a), y, x, ok, q, p)
	}
}

// P4.3: clashes by hand: in the first half, in the other one, in both, further down.
func TestClashByHand(t *testing.T) {
	x, y := digest.Of("x"), digest.Of("y")
	a, b := clashing(t, func(w uint32) []api.Digest { return []api.Digest{{w}, {w, 1}} })
	c, d := clashing(t, func(w uint32) []api.Digest { return []api.Digest{x, {w}} })
	e, f := clashing(t, func(w uint32) []api.Digest { return []api.Digest{{w}, y} })
	ab := func(q []api.Digest) []api.Digest { return join(q, []api.Digest{x, y}) }
	for _, l := range [][2][]api.Digest{{a, b}, {c, d}, {e, f}} {
		p, q := pairOf(l[0]), pairOf(l[1])
		wantClash(t, l[0], l[1], p, q)
		wantClash(t, join(l[0], leaves(1)), join(l[1], leaves(1)), p, q)
		wantClash(t, ab(l[0]), ab(l[1]), p, q)
		wantClash(t, join(leaves(2), l[0]), join(leaves(2), l[1]), p, q)
		wantClash(t, join(leaves(4), l[0]), join(leaves(4), l[1]), p, q)
		wantClash(t, join(leaves(6), l[0], leaves(3)), join(leaves(6), l[1], leaves(3)), p, q)
		wantClash(t, join(leaves(998), l[0]), join(leaves(998), l[1]), p, q)
		wantClash(t, join(leaves(4096), l[0], x2(x)), join(leaves(4096), l[1], x2(x)), p, q)
	}
	// Both halves hide one: the first half's is told.
	wantClash(t, join(c, a), join(d, b), pairOf(c), pairOf(d))
	wantClash(t, join(a, c), join(b, d), pairOf(a), pairOf(b))
	wantClash(t, join(a, b, c), join(b, a, d), pairOf(a), pairOf(b))
	wantClash(t, join(leaves(2), e, c), join(leaves(2), f, d), pairOf(e), pairOf(f))
	wantClash(t, join(x2(x), x2(y), c, e), join(x2(x), x2(y), d, e), pairOf(c), pairOf(d))
}

// x2 is x twice.
func x2(x api.Digest) []api.Digest {
	return []api.Digest{x, x}
}

// P4.3: where the halves' roots part, a clash that hides in one of them is no matter: the halves' roots are the pairs.
func TestClashAtTheTop(t *testing.T) {
	x := digest.Of("x")
	a, b := clashing(t, func(w uint32) []api.Digest { return []api.Digest{{w}, {w, 1}} })
	hidden := merkle.Root(a)
	// It hides in the first half; the other one is a single one, or two.
	c, d := clashing(t, func(w uint32) []api.Digest { return []api.Digest{hidden, {w}} })
	wantClash(t, join(a, c[1:]), join(b, d[1:]), pairOf(c), pairOf(d))
	tops := func(w uint32) []api.Digest { return []api.Digest{hidden, digest.Pair(api.Digest{w}, x)} }
	v, w := words(t, tops)
	wantClash(t, join(a, []api.Digest{{v}, x}), join(b, []api.Digest{{w}, x}), pairOf(tops(v)), pairOf(tops(w)))
	// It hides in the other one; the first half's is none.
	tops = func(w uint32) []api.Digest { return []api.Digest{digest.Pair(api.Digest{w}, x), hidden} }
	v, w = words(t, tops)
	wantClash(t, join([]api.Digest{{v}, x}, a), join([]api.Digest{{w}, x}, b), pairOf(tops(v)), pairOf(tops(w)))
}

// parts is the pairs where two lists with one root part, from the root down.
func parts(a, b []api.Digest) (p, q [2]api.Digest) {
	for {
		k := 1
		for 2*k < len(a) {
			k *= 2
		}
		p = [2]api.Digest{root(a[:k]), root(a[k:])}
		q = [2]api.Digest{root(b[:k]), root(b[k:])}
		if p != q {
			return p, q
		}
		if slices.Equal(a[:k], b[:k]) {
			a, b = a[k:], b[k:]
		} else {
			a, b = a[:k], b[:k]
		}
	}
}

// found is pairs of unlike lists with one root: of each length one whose first, and one whose last, differs from the other list's.
func found(t *testing.T) [][2][]api.Digest {
	var l [][2][]api.Digest
	for n := 2; n <= 9; n++ {
		for _, i := range []int{0, n / 2, n - 1} {
			a, b := clashing(t, func(w uint32) []api.Digest {
				l := leaves9(n)
				l[i][n%4] = w
				return l
			})
			l = append(l, [2][]api.Digest{a, b})
		}
	}
	return l
}

// leaves9 is the first n of at most nine plain digests, quickly made.
func leaves9(n int) []api.Digest {
	return []api.Digest{{1, 0, 9}, {2, 7}, {3}, {4, 0, 0, 8}, {5}, {6, 6, 6, 6}, {7}, {8}, {9, 1}}[:n]
}

// P4.3, P4.4: of lists with one root Clash tells where they part; what is shown of one, and isn't so of the other, shows two unlike pairs with one digest on the way.
func TestClash(t *testing.T) {
	for _, l := range found(t) {
		a, b := l[0], l[1]
		n, all := len(a), merkle.Root(a)
		if slices.Equal(a, b) || merkle.Root(b) != all {
			t.Fatalf("%x and %x are unlike, or have two roots", a, b)
		}
		p, q := parts(a, b)
		wantClash(t, a, b, p, q)
		for i := range n {
			shownIn(t, a, b, i)
		}
		for m := 1; m <= n; m++ {
			shownOn(t, a, b, m)
		}
	}
}

// shownIn: that b's i-th one is in is shown of a's root; if it isn't a's, the proofs of both have unlike pairs with one digest.
func shownIn(t *testing.T, a, b []api.Digest, i int) {
	t.Helper()
	n := len(a)
	ours, _ := merkle.Prove(a, i)
	theirs, _ := merkle.Prove(b, i)
	if !merkle.Check(merkle.Root(a), n, i, b[i], theirs) {
		t.Errorf("%d of %d with the root of another list isn't shown to be in that one", i, n)
	}
	if a[i] == b[i] {
		return
	}
	up, _ := way(n, i, a[i], ours)
	other, _ := way(n, i, b[i], theirs)
	if !clashes(up, other) {
		t.Errorf("%d of %d: no clash on the way of a false proof", i, n)
	}
}

// shownOn: that b goes on its first m is shown of a's root; if their root isn't that of a's first m, the proofs of both have unlike pairs with one digest.
func shownOn(t *testing.T, a, b []api.Digest, m int) {
	t.Helper()
	n, old := len(a), merkle.Root(b[:m])
	ours, _ := merkle.ProveOn(a, m)
	theirs, _ := merkle.ProveOn(b, m)
	if !merkle.CheckOn(old, m, merkle.Root(a), n, theirs) {
		t.Errorf("%d with the root of another list aren't shown to go on %d of that one", n, m)
	}
	if merkle.Root(a[:m]) == old {
		return
	}
	_, _, up, _ := wayOn(merkle.Root(a[:m]), m, n, ours)
	_, _, other, _ := wayOn(old, m, n, theirs)
	if !clashes(up, other) {
		t.Errorf("%d go on %d: no clash on the way of a false proof", n, m)
	}
}

// clashes: are there, on two ways that are as long, at one height, unlike pairs with one digest?
func clashes(up, other [][2]api.Digest) bool {
	for i, p := range up {
		if q := other[i]; p != q && digest.Pair(p[0], p[1]) == digest.Pair(q[0], q[1]) {
			return true
		}
	}
	return false
}

// P4.3: lists that are alike, not as long, or with two roots have no clash.
func TestNoClash(t *testing.T) {
	a, b := clashing(t, func(w uint32) []api.Digest { return []api.Digest{{w}, {w, 1}} })
	l := leaves(5)
	for _, q := range [][2][]api.Digest{
		{nil, nil}, {nil, {}}, {{}, nil}, {{}, {}},
		{l[:1], l[:1]}, {l[:1], l[1:2]}, {l, l}, {l, slices.Clone(l)}, {a, slices.Clone(a)}, {b, b},
		{l, append(slices.Clone(l[:4]), digest.Of("z"))}, {l, l[:4]}, {l[:4], l}, {nil, l}, {l, nil},
		{l[:2], {l[1], l[0]}}, {l, {l[4], l[3], l[2], l[1], l[0]}}, {make([]api.Digest, 3), make([]api.Digest, 4)},
		{nil, {digest.Of("")}}, {{digest.Of("")}, nil},
		{l, {merkle.Root(l)}}, {{merkle.Root(l)}, l}, {l[:3], {merkle.Root(l[:2]), l[2]}}, {a, {merkle.Root(b)}},
		{join(a, l), join(b, l[:4])}, {join(a, l), join(b, l[:4], l[:1])}, {join(a, l[:1]), join(b, l[1:2])},
	} {
		if x, y, ok := merkle.Clash(q[0], q[1]); ok || x != [2]api.Digest{} || y != x {
			t.Errorf("of %x and %x: %x, %x, %t", q[0], q[1], x, y, ok)
		}
	}
}

// What is handed in is never changed, its spare room neither, and no answer shares memory with it.
func TestUnchanged(t *testing.T) {
	const n = 7
	room := leaves(20)
	l := room[:n]
	all := merkle.Root(l)
	other := slices.Clone(l)
	other[3] = digest.Of("z")
	for i := range n {
		in, _ := merkle.Prove(l, i)
		on, _ := merkle.ProveOn(l, i+1)
		roomIn, roomOn := join(in, leaves(5)), join(on, leaves(5))
		keptIn, keptOn := slices.Clone(roomIn), slices.Clone(roomOn)
		if !merkle.Check(all, n, i, l[i], roomIn[:len(in)]) || !merkle.CheckOn(merkle.Root(l[:i+1]), i+1, all, n, roomOn[:len(on)]) {
			t.Errorf("%d: a proof with spare room isn't one", i)
		}
		if !slices.Equal(roomIn, keptIn) || !slices.Equal(roomOn, keptOn) {
			t.Errorf("%d: a proof was changed", i)
		}
		merkle.Clash(l, other)
		for j := range in {
			in[j] = api.Digest{}
		}
		for j := range on {
			on[j] = api.Digest{}
		}
	}
	if !slices.Equal(room, leaves(20)) {
		t.Error("a list was changed")
	}
}
