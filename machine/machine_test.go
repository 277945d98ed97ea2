package machine_test

import (
	"math"
	"math/rand"
	"slices"
	"strings"
	"testing"

	"seedcorn/api"
	"seedcorn/inst"
	"seedcorn/machine"
)

// whole is how many words there are.
const whole = 1 << 32

// parts is, of each operation's number, which fields it names; of a C that is a register a small c.
var parts = map[int]string{
	1: "AC", 2: "AC", 3: "AB",
	4: "ABc", 5: "ABc", 6: "ABc", 7: "ABc", 8: "ABc", 9: "ABc", 10: "ABc", 11: "ABc", 12: "ABc", 13: "ABc", 14: "ABc", 15: "ABc",
	16: "ABC", 17: "ABC", 18: "C", 19: "AC", 20: "AC", 21: "AC", 22: "A", 23: "A", 24: "A", 25: "AC", 26: "", 27: "ABC",
}

// fieldsOf is a word's operation, and its fields; false, if it is no instruction's.
func fieldsOf(w uint32) (op, a, b, c int, ok bool) {
	n := int(w)
	op, a, b, c = n/16777216, n/1048576%16, n/65536%16, n%65536
	p, ok := parts[op]
	ok = ok && (a == 0 || strings.Contains(p, "A")) && (b == 0 || strings.Contains(p, "B")) &&
		(c == 0 || strings.Contains(p, "C") || c < 16 && strings.Contains(p, "c"))
	return op, a, b, c, ok
}

// made is what the operation makes of both, reckoned with numbers that are wider than words; false of a division by 0.
func made(op int, b, c uint64) (uint32, bool) {
	if (op == 7 || op == 8) && c == 0 {
		return 0, false
	}
	truth := map[bool]uint64{true: 1}
	var r uint64
	switch op {
	case 4:
		r = b + c
	case 5:
		r = whole + b - c
	case 6:
		r = b * c
	case 7:
		r = b / c
	case 8:
		r = b - b/c*c
	case 9:
		r = b & c
	case 10:
		r = b | c
	case 11:
		r = b ^ c
	case 12:
		if c < 32 {
			r = b << c
		}
	case 13:
		if c < 32 {
			r = b >> c
		}
	case 14:
		r = truth[b < c]
	case 15:
		r = truth[b == c]
	}
	return uint32(r % whole), true
}

// ended is s, at that end.
func ended(s api.State, end int) api.State {
	s.End = end
	return s
}

// told is what the document says of the state behind a step.
func told(m api.Image, in string, s api.State) api.State {
	if s.End != 0 {
		return s
	}
	if s.PC < 0 || s.PC > len(m.Code)-1 {
		return ended(s, 7)
	}
	s.Steps++
	op, a, b, c, ok := fieldsOf(m.Code[s.PC])
	if !ok {
		return ended(s, 6)
	}
	was := s
	s.PC++
	at := int((uint64(s.Reg[b]) + uint64(c)) % whole)
	switch {
	case op == 1:
		s.Reg[a] = uint32(c)
	case op == 2:
		s.Reg[a] = s.Reg[a]%65536 + uint32(c)*65536
	case op == 3:
		s.Reg[a] = s.Reg[b]
	case op >= 4 && op <= 15:
		w, ok := made(op, uint64(s.Reg[b]), uint64(s.Reg[c]))
		if !ok {
			return ended(was, 2)
		}
		s.Reg[a] = w
	case op == 16 || op == 17 || op == 27:
		l := s.Mem
		if op == 27 {
			l = m.Code
		}
		if at >= len(l) {
			return ended(was, 8)
		}
		if op == 17 {
			s.Mem = append([]uint32{}, l...)
			s.Mem[at] = s.Reg[a]
			return s
		}
		s.Reg[a] = l[at]
	case op == 18, op == 19 && s.Reg[a] == 0, op == 20 && s.Reg[a] > 0:
		s.PC = c
	case op == 21:
		s.Reg[a] = uint32(s.PC % whole)
		s.PC = c
	case op == 22:
		s.PC = int(s.Reg[a])
	case op == 23 && s.Read >= 0 && s.Read < len(in):
		s.Reg[a] = uint32(in[s.Read])
		s.Read++
	case op == 23:
		s.Reg[a] = 256
	case op == 24 && len(s.Out) > 65535:
		return ended(was, 4)
	case op == 24:
		s.Out += string([]byte{byte(s.Reg[a] % 256)})
	case op == 25 && s.Reg[a] >= uint32(c):
		return ended(was, 3)
	case op == 26:
		return ended(was, 1)
	}
	return s
}

// alike: are all fields the same, one by one?
func alike(a, b api.State) bool {
	if len(a.Mem) != len(b.Mem) || a.PC != b.PC || a.Read != b.Read || a.Out != b.Out || a.Steps != b.Steps || a.End != b.End {
		return false
	}
	for i := range a.Mem {
		if a.Mem[i] != b.Mem[i] {
			return false
		}
	}
	for i := range a.Reg {
		if a.Reg[i] != b.Reg[i] {
			return false
		}
	}
	return true
}

// copyOf is s, with a memory of its own.
func copyOf(s api.State) api.State {
	s.Mem = slices.Clone(s.Mem)
	return s
}

// wantStep: the step from s is what the document says, and changes neither code nor memory that it was given.
func wantStep(t *testing.T, m api.Image, in string, s api.State) {
	t.Helper()
	code, from := slices.Clone(m.Code), copyOf(s)
	want := told(m, in, copyOf(s))
	got := machine.Step(m, in, s)
	if !alike(got, want) {
		w := uint32(0)
		if s.PC >= 0 && s.PC < len(m.Code) {
			w = m.Code[s.PC]
		}
		i, _ := inst.Decode(w)
		t.Fatalf("Step at %#x %q from %v\nis %v,\nnot %v", w, inst.Text(i), brief(s), brief(got), brief(want))
	}
	if !slices.Equal(m.Code, code) || !alike(s, from) {
		t.Fatalf("Step changed what it was given")
	}
}

// brief is s without the long parts.
func brief(s api.State) api.State {
	if len(s.Mem) > 20 {
		s.Mem = s.Mem[:20]
	}
	if len(s.Out) > 20 {
		s.Out = s.Out[len(s.Out)-20:]
	}
	return s
}

// at is the word of an instruction whose fields are any.
func at(op, a, b, c int) uint32 {
	return uint32(op*16777216 + a*1048576 + b*65536 + c)
}

// one is an image of that one word.
func one(op, a, b, c int) api.Image {
	return api.Image{Code: []uint32{at(op, a, b, c)}, Data: 2}
}

// values is words at which something may go wrong.
var values = []uint32{0, 1, 2, 3, 31, 32, 33, 255, 256, 257, 65535, 65536, 65537, 1<<31 - 1, 1 << 31, 1<<32 - 65535, 1<<32 - 3, 1<<32 - 2, 1<<32 - 1, 305419896}

// ends is what End may be; Going is the first.
var ends = []int{0, 1, 2, 3, 4, 5, 6, 7, 8, 9, -1, 100, 1 << 32, math.MinInt, math.MaxInt}

// P9.1: the beginning, for Data at and beyond the ends of what it may be.
func TestStart(t *testing.T) {
	for _, q := range []struct{ data, words int }{
		{0, 0}, {1, 1}, {2, 2}, {3, 3}, {255, 255}, {32767, 32767}, {32768, 32768},
		{32769, 0}, {65536, 0}, {-1, 0}, {-32768, 0}, {1 << 32, 0}, {1<<32 + 1, 0}, {math.MinInt, 0}, {math.MaxInt, 0},
	} {
		for _, code := range [][]uint32{nil, {at(26, 0, 0, 0)}, {0}, make([]uint32, 16385)} {
			s := machine.Start(api.Image{Code: code, Data: q.data})
			if !alike(s, api.State{Mem: make([]uint32, q.words)}) {
				t.Errorf("Start for Data %d: %d words, %v", q.data, len(s.Mem), brief(s))
			}
		}
	}
}

// P9.1: two beginnings share no memory.
func TestStartAnew(t *testing.T) {
	m := api.Image{Data: 3}
	a, b := machine.Start(m), machine.Start(m)
	a.Mem[1] = 7
	if b.Mem[1] != 0 || machine.Start(m).Mem[1] != 0 {
		t.Error("beginnings share their memory")
	}
}

// P9.1: the steps of the document's table, by hand.
func TestByHand(t *testing.T) {
	from := api.State{Mem: []uint32{70, 80, 90}, Steps: 10, Out: "x", Read: 1}
	from.Reg = [16]uint32{1, 2, 0xffffffff, 0, 0x12345678}
	reg := func(r int, w uint32) func(*api.State) {
		return func(s *api.State) { s.Reg[r] = w; s.PC = 1 }
	}
	to := func(pc int) func(*api.State) { return func(s *api.State) { s.PC = pc } }
	end := func(n int) func(*api.State) { return func(s *api.State) { s.End = n } }
	for _, q := range []struct {
		m    api.Image
		what func(*api.State)
	}{
		{one(1, 0, 0, 65535), reg(0, 65535)},
		{one(1, 4, 0, 0), reg(4, 0)},
		{one(2, 4, 0, 1), reg(4, 0x15678)},
		{one(2, 2, 0, 0), reg(2, 0xffff)},
		{one(2, 3, 0, 65535), reg(3, 0xffff0000)},
		{one(3, 15, 4, 0), reg(15, 0x12345678)},
		{one(4, 5, 2, 1), reg(5, 1)},
		{one(5, 3, 3, 0), reg(3, 0xffffffff)},
		{one(6, 2, 2, 2), reg(2, 1)},
		{one(7, 0, 2, 1), reg(0, 0x7fffffff)},
		{one(8, 0, 2, 1), reg(0, 1)},
		{one(7, 0, 1, 3), end(api.EndZero)},
		{one(8, 3, 3, 3), end(api.EndZero)},
		{one(12, 6, 1, 2), reg(6, 0)},
		{one(14, 6, 0, 1), reg(6, 1)},
		{one(15, 6, 0, 1), reg(6, 0)},
		{one(16, 5, 0, 1), reg(5, 90)},
		{one(16, 5, 2, 2), reg(5, 80)},
		{one(16, 5, 0, 2), end(api.EndMem)},
		{one(16, 5, 2, 0), end(api.EndMem)},
		{one(17, 4, 3, 0), func(s *api.State) { s.Mem = []uint32{0x12345678, 80, 90}; s.PC = 1 }},
		{one(17, 4, 2, 3), func(s *api.State) { s.Mem = []uint32{70, 80, 0x12345678}; s.PC = 1 }},
		{one(17, 4, 3, 3), end(api.EndMem)},
		{one(17, 4, 4, 0), end(api.EndMem)},
		{one(27, 8, 3, 0), reg(8, at(27, 8, 3, 0))},
		{one(27, 8, 2, 1), reg(8, at(27, 8, 2, 1))},
		{one(27, 8, 0, 0), end(api.EndMem)},
		{one(18, 0, 0, 65535), to(65535)},
		{one(18, 0, 0, 0), to(0)},
		{one(19, 3, 0, 7), to(7)},
		{one(19, 2, 0, 7), to(1)},
		{one(20, 3, 0, 7), to(1)},
		{one(20, 2, 0, 7), to(7)},
		{one(21, 9, 0, 40), func(s *api.State) { s.Reg[9] = 1; s.PC = 40 }},
		{one(21, 0, 0, 0), func(s *api.State) { s.Reg[0] = 1; s.PC = 0 }},
		{one(22, 2, 0, 0), to(0xffffffff)},
		{one(22, 3, 0, 0), to(0)},
		{one(23, 7, 0, 0), func(s *api.State) { s.Reg[7] = 'b'; s.Read = 2; s.PC = 1 }},
		{one(24, 4, 0, 0), func(s *api.State) { s.Out = "xx"; s.PC = 1 }},
		{one(24, 2, 0, 0), func(s *api.State) { s.Out = "x\xff"; s.PC = 1 }},
		{one(25, 1, 0, 3), to(1)},
		{one(25, 1, 0, 2), end(api.EndIndex)},
		{one(25, 3, 0, 0), end(api.EndIndex)},
		{one(25, 2, 0, 65535), end(api.EndIndex)},
		{one(26, 0, 0, 0), end(api.EndDone)},
		{one(0, 0, 0, 0), end(api.EndBad)},
		{one(28, 0, 0, 0), end(api.EndBad)},
		{one(26, 0, 0, 1), end(api.EndBad)},
		{one(4, 1, 2, 16), end(api.EndBad)},
		{one(255, 15, 15, 65535), end(api.EndBad)},
	} {
		want := copyOf(from)
		want.Steps = 11
		q.what(&want)
		if got := machine.Step(q.m, "ab", from); !alike(got, want) {
			t.Errorf("Step at %#x: %v, not %v", q.m.Code[0], got, want)
		}
	}
}

// P9.1: each operation, of registers at all ends, with A one of those that it is made of, too.
func TestOperations(t *testing.T) {
	for op := 4; op <= 15; op++ {
		for _, x := range values {
			for _, y := range values {
				s := api.State{}
				s.Reg[1], s.Reg[2], s.Reg[15] = x, y, 77
				for _, f := range [][3]int{{3, 1, 2}, {1, 1, 2}, {2, 1, 2}, {0, 2, 1}, {1, 1, 1}, {15, 2, 15}} {
					wantStep(t, one(op, f[0], f[1], f[2]), "", s)
				}
			}
		}
	}
}

// P9.1: each number of an operation, with fields that it names and that it doesn't.
func TestEachOperation(t *testing.T) {
	s := api.State{Mem: []uint32{5, 6, 7, 8}, Read: 1}
	for i := range s.Reg {
		s.Reg[i] = uint32(3 * i)
	}
	for op := range 256 {
		for a := range 16 {
			for b := range 16 {
				for _, c := range []int{0, 1, 2, 3, 4, 14, 15, 16, 17, 255, 256, 65535} {
					wantStep(t, one(op, a, b, c), "abc", s)
				}
			}
		}
	}
}

// P9.1: words of memory, and of the code, at and beyond their ends, and sums of a register and a number that go round.
func TestWords(t *testing.T) {
	for _, n := range []int{0, 1, 2, 3, 255, 32768, 65535, 65536, 65537, 70000} {
		s := api.State{Mem: make([]uint32, n)}
		m := api.Image{Code: make([]uint32, n+1)}
		for i := range s.Mem {
			s.Mem[i] = uint32(i) + 1000000
			m.Code[i] = uint32(i) + 2000000
		}
		s.PC = n
		for _, r := range []uint32{0, 1, uint32(n - 1), uint32(n), uint32(n + 1), uint32(n - 65535), uint32(n - 65536), 1 << 31, 1<<32 - 1, 1<<32 - 65535, 1<<32 - 65534} {
			for _, c := range []int{0, 1, 2, n - 1, n, n + 1, 32767, 65534, 65535} {
				if c < 0 || c > 65535 {
					continue
				}
				for _, op := range []int{16, 17, 27} {
					for _, f := range [][2]int{{3, 1}, {1, 1}, {0, 15}} {
						s.Reg = [16]uint32{3: 9}
						s.Reg[f[1]] = r
						m.Code[n] = at(op, f[0], f[1], c)
						wantStep(t, m, "", s)
					}
				}
			}
		}
	}
}

// P9.1: places in the code at and beyond its ends; code longer than an image's may be, and Data that may not be, play no part.
func TestPlaces(t *testing.T) {
	for _, n := range []int{0, 1, 2, 3, 16384, 16385, 70000} {
		for _, data := range []int{0, -1, 1 << 40} {
			m := api.Image{Code: slices.Repeat([]uint32{at(21, 1, 0, 9)}, n), Data: data}
			for _, pc := range []int{math.MinInt, -1 << 32, -2, -1, 0, 1, 2, 3, n - 1, n, n + 1, 65535, 65536, 1 << 32, math.MaxInt} {
				wantStep(t, m, "", api.State{PC: pc})
			}
		}
	}
	if s := machine.Step(api.Image{}, "", api.State{Steps: 3, Out: "o"}); s.End != api.EndPC || s.Steps != 3 || s.PC != 0 || s.Out != "o" {
		t.Errorf("a step of no code: %v", s)
	}
}

// P9.1: jumps of all kinds, of registers at all ends.
func TestJumps(t *testing.T) {
	for op := 18; op <= 25; op++ {
		for _, x := range values {
			for _, c := range []int{0, 1, 2, 3, 255, 256, 257, 65534, 65535} {
				s := api.State{PC: 2}
				s.Reg[6] = x
				m := api.Image{Code: []uint32{0, 0, at(op, 6, 0, c), 0}}
				wantStep(t, m, "abc", s)
			}
			s := api.State{PC: 2}
			s.Reg[6] = x
			wantStep(t, api.Image{Code: []uint32{0, 0, at(op, 6, 0, 0), 0}}, "abc", s)
			wantStep(t, api.Image{Code: []uint32{0, 0, at(op, 0, 0, 9), 0}}, "abc", s)
		}
	}
}

// P9.1: bytes of the input at and beyond its ends, each byte there is among them.
func TestGet(t *testing.T) {
	all := make([]byte, 256)
	for i := range all {
		all[i] = byte(i)
	}
	for _, in := range []string{"", "a", "\x00", "\xff", "\u00e9\u20ac", string(all)} {
		for _, read := range []int{math.MinInt, -1 << 32, -256, -2, -1, 0, 1, 2, 3, 4, 5, 254, 255, 256, 257, 1 << 32, math.MaxInt - 1, math.MaxInt} {
			wantStep(t, one(23, 5, 0, 0), in, api.State{Read: read, Reg: [16]uint32{5: 99}})
		}
	}
	for i := range all {
		s := machine.Step(one(23, 5, 0, 0), string(all), api.State{Read: i})
		if s.Reg[5] != uint32(i) || s.Read != i+1 {
			t.Errorf("get of the byte %d: %d, and %d were read", i, s.Reg[5], s.Read)
		}
	}
}

// P9.1: what is put out, each byte there is among it, and at and beyond the greatest length.
func TestPut(t *testing.T) {
	for _, n := range []int{0, 1, 255, 65534, 65535, 65536, 65537, 200000} {
		for _, w := range values {
			wantStep(t, one(24, 5, 0, 0), "", api.State{Out: strings.Repeat("o", n), Reg: [16]uint32{5: w}})
		}
	}
	for i := range uint32(256) {
		for _, more := range []uint32{0, 256, 1 << 31} {
			s := machine.Step(one(24, 5, 0, 0), "", api.State{Out: "\xc3", Reg: [16]uint32{5: i + more}})
			if s.Out != "\xc3"+string([]byte{byte(i)}) {
				t.Errorf("put of %d: %q", i+more, s.Out)
			}
		}
	}
}

// P9.1, P9.2: at its end a state stays, whatever the number of that end, and whatever else it holds.
func TestEnded(t *testing.T) {
	for _, m := range []api.Image{{}, one(26, 0, 0, 0), one(1, 1, 0, 5), one(0, 0, 0, 0)} {
		for _, end := range ends {
			for _, pc := range []int{-1, 0, 1} {
				s := api.State{PC: pc, Mem: []uint32{1}, Read: -4, Out: "q", Steps: 8, End: end}
				wantStep(t, m, "in", s)
				if end != api.Going && !alike(machine.Step(m, "in", s), s) {
					t.Errorf("a state at its end %d doesn't stay", end)
				}
			}
		}
	}
}

// P9.1: steps are counted from anywhere, and only those that look at a word.
func TestCounts(t *testing.T) {
	for _, n := range []int{math.MinInt, -1, 0, 1, 1<<32 - 1, 1 << 50, 1<<62 - 1} {
		wantStep(t, one(1, 1, 0, 5), "", api.State{Steps: n})
		wantStep(t, one(0, 0, 0, 0), "", api.State{Steps: n})
		wantStep(t, one(26, 0, 0, 0), "", api.State{Steps: n})
		wantStep(t, api.Image{}, "", api.State{Steps: n})
	}
}

// anyWord is a word that is likely to be an instruction's, or nearly.
func anyWord(r *rand.Rand) uint32 {
	if r.Intn(20) == 0 {
		return r.Uint32()
	}
	op, a, b, c := 1+r.Intn(27), r.Intn(16), r.Intn(16), r.Intn(20)
	if p := parts[op]; r.Intn(20) > 0 {
		a *= strings.Count(p, "A")
		b *= strings.Count(p, "B")
		c *= strings.Count(strings.ToUpper(p), "C")
		if strings.Contains(p, "c") {
			c %= 16
		}
	}
	return at(op, a, b, c)
}

// anyState is a state of any fields.
func anyState(r *rand.Rand, code int) api.State {
	s := api.State{PC: r.Intn(code+2) - 1, Mem: make([]uint32, r.Intn(12)), Read: r.Intn(6) - 1, Out: strings.Repeat("z", r.Intn(3)), Steps: r.Intn(9)}
	for i := range s.Reg {
		s.Reg[i] = uint32(r.Intn(24)) - 4
	}
	for i := range s.Mem {
		s.Mem[i] = r.Uint32()
	}
	return s
}

// anyImage is an image of up to n words.
func anyImage(r *rand.Rand, n int) api.Image {
	m := api.Image{Code: make([]uint32, r.Intn(n+1)), Data: r.Intn(12)}
	for i := range m.Code {
		m.Code[i] = anyWord(r)
	}
	return m
}

// P9.1: runs of any images, step by step, are what the document says.
func TestRuns(t *testing.T) {
	r := rand.New(rand.NewSource(9))
	for range 20000 {
		m := anyImage(r, 14)
		s := anyState(r, len(m.Code))
		if r.Intn(2) == 0 {
			s = machine.Start(m)
		}
		for range 12 {
			wantStep(t, m, "input", s)
			s = machine.Step(m, "input", s)
		}
	}
}

// P9.1: whole runs by hand: echo, and code that puts out itself.
func TestWholeRuns(t *testing.T) {
	echo := []uint32{at(23, 1, 0, 0), at(1, 2, 0, 256), at(15, 2, 1, 2), at(20, 2, 0, 6), at(24, 1, 0, 0), at(18, 0, 0, 0), at(26, 0, 0, 0)}
	own := []uint32{at(27, 1, 2, 0), at(24, 1, 0, 0), at(1, 3, 0, 1), at(4, 2, 2, 3), at(18, 0, 0, 0)}
	for _, q := range []struct {
		code          []uint32
		in, out       string
		end, steps, n int
	}{
		{echo, "", "", api.EndDone, 5, 0},
		{echo, "grown", "grown", api.EndDone, 35, 5},
		{echo, "\x00\xff", "\x00\xff", api.EndDone, 17, 2},
		{own, "", "\x00\x00\x01\x03\x00", api.EndMem, 26, 0},
	} {
		m := api.Image{Code: q.code}
		s := machine.Start(m)
		for range 100 {
			s = machine.Step(m, q.in, s)
		}
		if s.Out != q.out || s.End != q.end || s.Steps != q.steps || s.Read != q.n {
			t.Errorf("a run on %q: %q, end %d, %d steps, %d read", q.in, s.Out, s.End, s.Steps, s.Read)
		}
	}
}

// P9.2: a step changes one register at most, one word of memory at most, adds a byte to Out at most, and reads one at most.
func TestLittleChanges(t *testing.T) {
	r := rand.New(rand.NewSource(92))
	for range 100000 {
		m := anyImage(r, 3)
		s := anyState(r, len(m.Code))
		n := machine.Step(m, "input", s)
		regs, words := 0, 0
		for i := range s.Reg {
			if s.Reg[i] != n.Reg[i] {
				regs++
			}
		}
		for i := range s.Mem {
			if s.Mem[i] != n.Mem[i] {
				words++
			}
		}
		more, puts := strings.CutPrefix(n.Out, s.Out)
		if regs+words > 1 || len(n.Mem) != len(s.Mem) || !puts || len(more) > 1 || n.Read < s.Read || n.Read > s.Read+1 || n.Steps < s.Steps || n.Steps > s.Steps+1 {
			t.Fatalf("a step of %v from %v: %v", m, s, n)
		}
	}
}

// P9.2: what isn't named in an instruction's line plays no part in its step, and stays.
func TestNothingElseCounts(t *testing.T) {
	r := rand.New(rand.NewSource(93))
	for range 50000 {
		m := anyImage(r, 5)
		s := anyState(r, len(m.Code))
		if s.PC < 0 || s.PC >= len(m.Code) {
			continue
		}
		n := machine.Step(m, "input", s)
		op, a, _, _, _ := fieldsOf(m.Code[s.PC])
		other, from, in := others(m, s)
		got := machine.Step(other, in, from)
		want := from
		want.PC, want.End, want.Steps = n.PC, n.End, from.Steps+1
		if named(m.Code[s.PC])[a] {
			want.Reg[a] = n.Reg[a]
		}
		if op == 23 {
			want.Read = n.Read
		}
		if op == 24 {
			want.Out = from.Out + n.Out[len(s.Out):]
		}
		if op == 17 {
			want.Mem = n.Mem
		}
		if !alike(got, want) {
			t.Fatalf("a step at %#x from %v: %v, not %v", m.Code[s.PC], from, got, want)
		}
	}
}

// named is which registers a word names.
func named(w uint32) (is [16]bool) {
	op, a, b, c, ok := fieldsOf(w)
	if !ok {
		return is
	}
	is[a] = strings.Contains(parts[op], "A")
	is[b] = is[b] || strings.Contains(parts[op], "B")
	if strings.Contains(parts[op], "c") {
		is[c] = true
	}
	return is
}

// others is all that isn't named in the line of the word at PC, changed: words of code, registers, memory, the input.
func others(m api.Image, s api.State) (api.Image, api.State, string) {
	op, _, _, _, _ := fieldsOf(m.Code[s.PC])
	is := named(m.Code[s.PC])
	from := copyOf(s)
	from.Steps += 5
	in := "input"
	if op != 23 {
		in = "other"
		from.Read += 2
	}
	if op != 24 {
		from.Out += "more"
	}
	for i := range from.Reg {
		if !is[i] {
			from.Reg[i] += 11
		}
	}
	if op != 16 && op != 17 {
		for i := range from.Mem {
			from.Mem[i]++
		}
	}
	other := api.Image{Code: slices.Clone(m.Code), Data: m.Data + 1}
	for i := range other.Code {
		if i != s.PC && op != 27 {
			other.Code[i] ^= 0x1a000000
		}
	}
	return other, from, in
}

// P9.1: Same sees each field, each register, and each word.
func TestSame(t *testing.T) {
	base := func() api.State {
		return api.State{PC: 1, Mem: []uint32{1, 2, 3}, Read: 2, Out: "out", Steps: 3, End: 4, Reg: [16]uint32{9, 8, 7}}
	}
	if !machine.Same(base(), base()) || !machine.Same(api.State{}, api.State{Mem: []uint32{}}) {
		t.Error("Same: false of states that are alike")
	}
	spare := base()
	spare.Mem = append(spare.Mem, 4)[:3]
	if !machine.Same(spare, base()) {
		t.Error("Same sees spare room")
	}
	changes := []func(*api.State){
		func(s *api.State) { s.PC++ }, func(s *api.State) { s.PC += 1 << 32 }, func(s *api.State) { s.PC = math.MinInt },
		func(s *api.State) { s.Read++ }, func(s *api.State) { s.Read += 1 << 32 },
		func(s *api.State) { s.Steps++ }, func(s *api.State) { s.Steps += 1 << 32 },
		func(s *api.State) { s.End++ }, func(s *api.State) { s.End = 0 },
		func(s *api.State) { s.Out = "" }, func(s *api.State) { s.Out = "ouT" }, func(s *api.State) { s.Out = "out\x00" }, func(s *api.State) { s.Out = "ou" },
		func(s *api.State) { s.Mem = nil }, func(s *api.State) { s.Mem = s.Mem[:2] }, func(s *api.State) { s.Mem = s.Mem[1:] }, func(s *api.State) { s.Mem = append(s.Mem, 0) },
		func(s *api.State) { s.PC, s.Read = s.Read, s.PC }, func(s *api.State) { s.Steps, s.End = s.End, s.Steps },
	}
	for i := range 16 {
		for bit := range 32 {
			changes = append(changes, func(s *api.State) { s.Reg[i] ^= 1 << bit })
		}
	}
	for i := range 3 {
		for bit := range 32 {
			changes = append(changes, func(s *api.State) { s.Mem[i] ^= 1 << bit })
		}
	}
	for i, change := range changes {
		s := base()
		change(&s)
		if machine.Same(s, base()) || machine.Same(base(), s) {
			t.Errorf("Same: true, though the change %d was made", i)
		}
		if !machine.Same(s, s) {
			t.Errorf("Same of one state: false behind the change %d", i)
		}
	}
}

// DOC's rules 5 and 6: what is handed in stays as it is, its spare room too, and no answer changes by a later step.
func TestNothingChanged(t *testing.T) {
	code := []uint32{at(1, 1, 0, 42), at(17, 1, 0, 0), at(17, 1, 0, 1), 5, 6}
	mem := []uint32{1, 2, 3, 4, 5, 6, 7, 8}
	m := api.Image{Code: code[:3:5], Data: 2}
	s := api.State{Mem: mem[2:4]}
	var states, kept []api.State
	for range 5 {
		states, kept = append(states, s), append(kept, copyOf(s))
		s = machine.Step(m, "", s)
	}
	for i := range states {
		if !alike(states[i], kept[i]) {
			t.Errorf("the state %d was changed: %v, not %v", i, states[i], kept[i])
		}
	}
	if !slices.Equal(mem, []uint32{1, 2, 3, 4, 5, 6, 7, 8}) || !slices.Equal(code, []uint32{at(1, 1, 0, 42), at(17, 1, 0, 0), at(17, 1, 0, 1), 5, 6}) {
		t.Error("what was handed in was changed")
	}
	if s.End != api.EndPC || !slices.Equal(s.Mem, []uint32{42, 42}) {
		t.Errorf("the last state: %v", s)
	}
}
