// Package word is layer 1: words of 32 bits: what the operations make of two; words as bytes; decimal texts. See shared/doc/01-word.md.
package word

import (
	"math/bits"
	"strconv"
	"strings"

	"seedcorn/api"
)

// size is how many bytes a word has.
const size = 4

// Apply tells what the operation op makes of a and b: ErrArg, if there is no such operation, ErrZero of a division by 0.
func Apply(op int, a, b uint32) (uint32, api.Errno) {
	switch op {
	case api.OpSub:
		b = -b // taking b away is adding what is left of 2^32 without b
		fallthrough
	case api.OpAdd:
		return a + b, api.OK
	case api.OpMul:
		return a * b, api.OK
	case api.OpDiv, api.OpMod:
		return divide(op, a, b)
	case api.OpAnd:
		return a & b, api.OK
	case api.OpOr:
		return a | b, api.OK
	case api.OpXor:
		return a ^ b, api.OK
	case api.OpShl:
		return a << b, api.OK
	case api.OpShr:
		return a >> b, api.OK
	case api.OpEq:
		a, b = a^b, 1 // of words that are alike no bit differs: a^b is 0, the one word below 1
		fallthrough
	case api.OpLt:
		return truth(a < b), api.OK
	}
	return 0, api.ErrArg
}

// divide tells, of a by b, the quotient, or what is left for OpMod.
func divide(op int, a, b uint32) (uint32, api.Errno) {
	if b == 0 {
		return 0, api.ErrZero
	}
	if op == api.OpMod {
		return a % b, api.OK
	}
	return a / b, api.OK
}

// truth is the word of a truth value.
func truth(holds bool) uint32 {
	if holds {
		return 1
	}
	return 0
}

// Turn moves each bit of a n places on towards the high end, and from there to the low end again; the other way, if n is below 0.
func Turn(a uint32, n int) uint32 {
	return bits.RotateLeft32(a, n)
}

// Bytes tells the bytes of all words, the lowest eight bits of each first.
func Bytes(l []uint32) string {
	var b strings.Builder
	b.Grow(size * len(l))
	for _, w := range l {
		for range size {
			b.WriteByte(byte(w))
			w >>= 8
		}
	}
	return b.String()
}

// Words tells the words whose bytes s is: ErrForm, if they are not whole words.
func Words(s string) ([]uint32, api.Errno) {
	if len(s)%size != 0 {
		return nil, api.ErrForm
	}
	l := make([]uint32, len(s)/size)
	for i := range l {
		l[i] = first(s[size*i:])
	}
	return l, api.OK
}

// first is the word at the beginning of s.
func first(s string) uint32 {
	return uint32(s[0]) | uint32(s[1])<<8 | uint32(s[2])<<16 | uint32(s[3])<<24
}

// Text tells the decimal digits of n.
func Text(n uint32) string {
	return strconv.FormatUint(uint64(n), 10)
}

// Parse tells the word whose text s is: ErrSyntax, if it is no number's, ErrRange, if that is above all words.
func Parse(s string) (uint32, api.Errno) {
	if !isNumber(s) {
		return 0, api.ErrSyntax
	}
	n, err := strconv.ParseUint(s, 10, 32)
	if err != nil { // the digits are right, so the number is too great
		return 0, api.ErrRange
	}
	return uint32(n), api.OK
}

// isNumber: is s digits alone, with no 0 ahead that need not be there?
func isNumber(s string) bool {
	if s == "" || s[0] == '0' && len(s) > 1 {
		return false
	}
	for i := range len(s) {
		if s[i] < '0' || s[i] > '9' {
			return false
		}
	}
	return true
}
