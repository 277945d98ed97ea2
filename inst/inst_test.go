package inst_test

import (
	"math"
	"strconv"
	"strings"
	"testing"

	"seedcorn/api"
	"seedcorn/inst"
)

// names are the operations' names, from 1 on.
var names = strings.Fields("li lui mov add sub mul div mod and or xor shl shr lt eq ld st jmp jz jnz call ret get put chk halt ldc")

// partsOf is the parts of an operation, as the document's table has them, R being a C that is a register; false, if there is no such operation.
func partsOf(op int) (string, bool) {
	switch op {
	case 1, 2, 19, 20, 21, 25:
		return "AC", true
	case 3:
		return "AB", true
	case 4, 5, 6, 7, 8, 9, 10, 11, 12, 13, 14, 15:
		return "ABR", true
	case 16, 17, 27:
		return "ABC", true
	case 18:
		return "C", true
	case 22, 23, 24:
		return "A", true
	case 26:
		return "", true
	}
	return "", false
}

// may is what the document says of which instructions may be.
func may(i api.Ins) bool {
	parts, ok := partsOf(i.Op)
	if !ok || i.A < 0 || i.A > 15 || i.B < 0 || i.B > 15 || i.C < 0 || i.C > 65535 {
		return false
	}
	if strings.Contains(parts, "R") && i.C > 15 {
		return false
	}
	return (strings.Contains(parts, "A") || i.A == 0) &&
		(strings.Contains(parts, "B") || i.B == 0) &&
		(strings.ContainsAny(parts, "CR") || i.C == 0)
}

// told is what the document says of the text of an instruction that may be.
func told(i api.Ins) string {
	parts, _ := partsOf(i.Op)
	var l []string
	for _, p := range parts {
		switch p {
		case 'A':
			l = append(l, "r"+strconv.Itoa(i.A))
		case 'B':
			l = append(l, "r"+strconv.Itoa(i.B))
		case 'R':
			l = append(l, "r"+strconv.Itoa(i.C))
		case 'C':
			l = append(l, strconv.Itoa(i.C))
		}
	}
	return strings.TrimSuffix(names[i.Op-1]+" "+strings.Join(l, ", "), " ")
}

// read is the instruction whose text that is, by the text alone.
func read(text string) api.Ins {
	name, rest, _ := strings.Cut(text, " ")
	i := api.Ins{}
	for k, n := range names {
		if n == name {
			i.Op = k + 1
		}
	}
	parts, _ := partsOf(i.Op)
	for k, s := range strings.Split(rest, ", ")[:len(parts)] {
		n, _ := strconv.Atoi(strings.TrimPrefix(s, "r"))
		switch parts[k] {
		case 'A':
			i.A = n
		case 'B':
			i.B = n
		default:
			i.C = n
		}
	}
	return i
}

// numbers is numbers at which a field may go wrong.
var numbers = []int{math.MinInt, math.MinInt + 1, -1 << 32, -65536, -16, -1, 0, 1, 2, 9, 10, 14, 15, 16, 17, 255, 256, 4095, 4096, 65534, 65535, 65536, 65537, 1 << 20, 1 << 32, 1<<32 + 1, math.MaxInt - 1, math.MaxInt}

// ops is all operations, and numbers that are none.
func ops() []int {
	l := []int{math.MinInt, math.MinInt + 26, -1 << 32, 1 << 32, 1<<32 + 1, 1<<32 + 26, 256, 256 + 26, math.MaxInt}
	for op := -3; op <= 40; op++ {
		l = append(l, op)
	}
	return l
}

// eachRight gives f instructions that may be: of all operations, with all registers, and with each C in cs.
func eachRight(cs []int, f func(i api.Ins)) {
	for op := range 28 {
		for a := range 16 {
			for b := range 16 {
				for _, c := range cs {
					if i := (api.Ins{Op: op, A: a, B: b, C: c}); may(i) {
						f(i)
					}
				}
			}
		}
	}
}

// smallAndGreat is all numbers that a register may have, and some above.
func smallAndGreat() []int {
	l := []int{16, 99, 100, 255, 256, 257, 999, 1000, 4096, 9999, 10000, 32767, 32768, 65534, 65535}
	for n := range 16 {
		l = append(l, n)
	}
	return l
}

// wantNone: of an instruction that may not be there is neither word nor text.
func wantNone(t *testing.T, i api.Ins) {
	t.Helper()
	if inst.Right(i) {
		t.Errorf("Right(%v): true", i)
	}
	if w, e := inst.Encode(i); w != 0 || e != api.ErrArg {
		t.Errorf("Encode(%v): %d, %d", i, w, e)
	}
	if s := inst.Text(i); s != "" {
		t.Errorf("Text(%v): %q", i, s)
	}
}

// wantOne: i may be, and its word and its text are these.
func wantOne(t *testing.T, i api.Ins, w uint32, text string) {
	t.Helper()
	if !inst.Right(i) {
		t.Errorf("Right(%v): false", i)
	}
	if got, e := inst.Encode(i); got != w || e != api.OK {
		t.Errorf("Encode(%v): %d, %d; want %d", i, got, e, w)
	}
	if got, e := inst.Decode(w); got != i || e != api.OK {
		t.Errorf("Decode(%d): %v, %d; want %v", w, got, e, i)
	}
	if got := inst.Text(i); got != text {
		t.Errorf("Text(%v): %q; want %q", i, got, text)
	}
}

// P7.1, P7.2: one of each operation, by hand.
func TestByHand(t *testing.T) {
	for _, q := range []struct {
		i    api.Ins
		w    uint32
		text string
	}{
		{api.Ins{Op: 1, A: 4, C: 65535}, 21037055, "li r4, 65535"},
		{api.Ins{Op: 2, A: 0, C: 1}, 33554433, "lui r0, 1"},
		{api.Ins{Op: 3, A: 15, B: 14}, 66977792, "mov r15, r14"},
		{api.Ins{Op: 4, A: 1, B: 2, C: 3}, 68288515, "add r1, r2, r3"},
		{api.Ins{Op: 5, A: 3, B: 2, C: 1}, 87162881, "sub r3, r2, r1"},
		{api.Ins{Op: 6}, 100663296, "mul r0, r0, r0"},
		{api.Ins{Op: 7, A: 15, B: 15, C: 15}, 134152207, "div r15, r15, r15"},
		{api.Ins{Op: 8, A: 10, C: 9}, 144703497, "mod r10, r0, r9"},
		{api.Ins{Op: 9, B: 10}, 151650304, "and r0, r10, r0"},
		{api.Ins{Op: 10, C: 10}, 167772170, "or r0, r0, r10"},
		{api.Ins{Op: 11, A: 1, B: 1, C: 1}, 185663489, "xor r1, r1, r1"},
		{api.Ins{Op: 12, A: 7, B: 8, C: 9}, 209190921, "shl r7, r8, r9"},
		{api.Ins{Op: 13, A: 9, B: 8, C: 7}, 228065287, "shr r9, r8, r7"},
		{api.Ins{Op: 14, A: 0, B: 15}, 235864064, "lt r0, r15, r0"},
		{api.Ins{Op: 15, A: 15, C: 15}, 267386895, "eq r15, r0, r15"},
		{api.Ins{Op: 16, A: 1, B: 2, C: 300}, 269615404, "ld r1, r2, 300"},
		{api.Ins{Op: 17, A: 1, B: 2, C: 15}, 286392335, "st r1, r2, 15"},
		{api.Ins{Op: 18, C: 16}, 301989904, "jmp 16"},
		{api.Ins{Op: 19, A: 3}, 321912832, "jz r3, 0"},
		{api.Ins{Op: 20, A: 15, C: 65535}, 351338495, "jnz r15, 65535"},
		{api.Ins{Op: 21, A: 14, C: 9}, 367001609, "call r14, 9"},
		{api.Ins{Op: 22, A: 14}, 383778816, "ret r14"},
		{api.Ins{Op: 23}, 385875968, "get r0"},
		{api.Ins{Op: 24, A: 15}, 418381824, "put r15"},
		{api.Ins{Op: 25, A: 5, C: 10}, 424673290, "chk r5, 10"},
		{api.Ins{Op: 26}, 436207616, "halt"},
		{api.Ins{Op: 27, A: 11, B: 12, C: 13}, 465305613, "ldc r11, r12, 13"},
	} {
		wantOne(t, q.i, q.w, q.text)
	}
}

// P7.1, P7.2: each operation with fields at and beyond the ends of what they may be.
func TestEdges(t *testing.T) {
	for _, op := range ops() {
		for _, a := range numbers {
			for _, b := range numbers {
				for _, c := range numbers {
					i := api.Ins{Op: op, A: a, B: b, C: c}
					if !may(i) {
						wantNone(t, i)
						continue
					}
					wantOne(t, i, uint32(op*1<<24+a*1<<20+b*1<<16+c), told(i))
				}
			}
		}
	}
}

// P7.1, P7.2: instructions that may not be, by hand.
func TestWrong(t *testing.T) {
	for _, i := range []api.Ins{
		{},
		{A: 1, B: 2, C: 3},
		{Op: -1},
		{Op: 28},
		{Op: 256 + api.InsHalt}, // its word would be the one of halt
		{Op: api.InsHalt, A: 1},
		{Op: api.InsHalt, B: 1},
		{Op: api.InsHalt, C: 1},
		{Op: api.InsJmp, A: 1, C: 7},
		{Op: api.InsJmp, B: 1, C: 7},
		{Op: api.InsLi, B: 1},
		{Op: api.InsLi, A: 16},
		{Op: api.InsLi, C: 65536},
		{Op: api.InsLi, C: -1},
		{Op: api.InsMov, A: 1, B: 2, C: 1},
		{Op: api.InsMov, B: 16},
		{Op: api.InsRet, B: 1},
		{Op: api.InsGet, C: 1},
		{Op: api.InsPut, A: -1},
		{Op: api.InsChk, B: 15},
		{Op: api.OpAdd, C: 16},
		{Op: api.OpEq, C: 65535},
		{Op: api.InsLd, B: 16},
		{Op: api.InsSt, A: 16},
		{Op: api.InsLdc, C: 65536},
	} {
		wantNone(t, i)
	}
}

// wantDecoded: of w is told what the document says: the instruction whose fields its bits are, if that may be.
func wantDecoded(t *testing.T, w uint32) {
	t.Helper()
	n := int(w)
	want, wantErr := api.Ins{Op: n / (1 << 24), A: n / (1 << 20) % 16, B: n / (1 << 16) % 16, C: n % (1 << 16)}, api.OK
	if !may(want) {
		want, wantErr = api.Ins{}, api.ErrForm
	}
	if i, e := inst.Decode(w); i != want || e != wantErr {
		t.Fatalf("Decode(%d): %v, %d; want %v, %d", w, i, e, want, wantErr)
	}
}

// P7.1: Decode, of all higher halves of words with lower ones at the edges, and of all lower halves with some of the higher ones.
func TestDecode(t *testing.T) {
	for high := range uint32(1 << 16) {
		for _, low := range []uint32{0, 1, 15, 16, 255, 256, 65535} {
			wantDecoded(t, high<<16|low)
		}
	}
	for op := range uint32(32) {
		for _, registers := range []uint32{0x00, 0x01, 0x10, 0x12, 0xff} {
			for low := range uint32(1 << 16) {
				wantDecoded(t, op<<24|registers<<16|low)
			}
		}
	}
}

// P7.1: words that are no instruction's, by hand.
func TestDecodeWrong(t *testing.T) {
	for _, w := range []uint32{
		0, 1, 65535, 0x00ffffff, // no operation
		0x1c000000, 0x1cffffff, 0x80000000, math.MaxUint32, // none so great
		0x9a000000, 0xff000000, // the one of halt, but for higher bits
		0x1a000001, 0x1a010000, 0x1a100000, // halt has no parts
		0x01010000, 0x14010000, 0x19f1000a, // no B
		0x03120001, 0x16000001, 0x17f08000, // no C
		0x12100000, 0x12010000, // jmp has no registers
		0x04120013, 0x0f000010, 0x0400ffff, // no such register
	} {
		if i, e := inst.Decode(w); i != (api.Ins{}) || e != api.ErrForm {
			t.Errorf("Decode(%#x): %v, %d", w, i, e)
		}
	}
}

// P7.2: names, of operations and of other numbers.
func TestName(t *testing.T) {
	if len(names) != 27 {
		t.Fatal(len(names))
	}
	for k, name := range names {
		if got := inst.Name(k + 1); got != name {
			t.Errorf("Name(%d): %q; want %q", k+1, got, name)
		}
		if got := inst.Op(name); got != k+1 {
			t.Errorf("Op(%q): %d; want %d", name, got, k+1)
		}
	}
	for _, op := range ops() {
		if _, ok := partsOf(op); !ok && inst.Name(op) != "" {
			t.Errorf("Name(%d): %q", op, inst.Name(op))
		}
	}
}

// P7.2: texts that are no operation's name.
func TestOpWrong(t *testing.T) {
	for _, name := range []string{"", " ", "x", "\x00", "0", "1", "r1", "none", ".word", "li r4, 65535", "l", "i", "lili", "add sub", "\u017ft"} {
		if op := inst.Op(name); op != 0 {
			t.Errorf("Op(%q): %d", name, op)
		}
	}
	for _, name := range names {
		for _, s := range []string{strings.ToUpper(name), strings.ToUpper(name[:1]) + name[1:], " " + name, name + " ", name + "\n", name + "\x00", name + ",", name + "s"} {
			if op := inst.Op(s); op != 0 {
				t.Errorf("Op(%q): %d", s, op)
			}
		}
	}
}

// P7.3: of their words and of their texts instructions are read as they were.
func TestThereAndBack(t *testing.T) {
	eachRight(smallAndGreat(), func(i api.Ins) {
		w, e := inst.Encode(i)
		if e != api.OK {
			t.Fatalf("Encode(%v): %d", i, e)
		}
		if back, e := inst.Decode(w); back != i || e != api.OK {
			t.Fatalf("Decode(Encode(%v)): %v, %d", i, back, e)
		}
		if back := read(inst.Text(i)); back != i {
			t.Fatalf("%q, of %v, is read as %v", inst.Text(i), i, back)
		}
	})
}

// P7.3: unlike instructions have unlike words, and unlike texts.
func TestUnlike(t *testing.T) {
	words, texts := map[uint32]api.Ins{}, map[string]api.Ins{}
	eachRight(smallAndGreat(), func(i api.Ins) {
		w, _ := inst.Encode(i)
		if other, ok := words[w]; ok {
			t.Fatalf("the word of %v and of %v: %d", other, i, w)
		}
		words[w] = i
		text := inst.Text(i)
		if other, ok := texts[text]; ok {
			t.Fatalf("the text of %v and of %v: %q", other, i, text)
		}
		texts[text] = i
	})
	if n := 6*16*31 + 31 + 3*16 + 1 + 256 + 12*256*16 + 3*256*31; len(words) != n || len(texts) != n {
		t.Errorf("%d words, %d texts; want %d", len(words), len(texts), n)
	}
}

// P7.3: what is read of a word has that word.
func TestBackAndThere(t *testing.T) {
	for high := range uint32(1 << 13) {
		for _, low := range []uint32{0, 1, 15, 16, 256, 65535} {
			w := high<<16 | low
			i, e := inst.Decode(w)
			if e != api.OK {
				continue
			}
			if back, e := inst.Encode(i); back != w || e != api.OK {
				t.Fatalf("Encode(Decode(%d)): %d, %d", w, back, e)
			}
		}
	}
}
