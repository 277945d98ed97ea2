package hex_test

import (
	stdhex "encoding/hex"
	"fmt"
	"math/rand"
	"regexp"
	"strings"
	"testing"

	"seedcorn/api"
	"seedcorn/hex"
)

// allBytes is each byte once.
func allBytes() string {
	b := make([]byte, 256)
	for i := range b {
		b[i] = byte(i)
	}
	return string(b)
}

// sample is texts of bytes of many lengths, always the same.
func sample() []string {
	r := rand.New(rand.NewSource(2))
	l := []string{"", "Az", "\x00", "\xff", "\x00\x00", "#\n", "417a", "äß", strings.Repeat("\x00", 40), allBytes(), strings.Repeat(allBytes(), 5)}
	for n := range 70 {
		b := make([]byte, n)
		r.Read(b)
		l = append(l, string(b))
	}
	return l
}

// isDigit: is c one of the document's digits?
func isDigit(c byte) bool {
	return strings.IndexByte("0123456789abcdefABCDEF", c) >= 0
}

// P2.1: Text, held against another reckoning.
func TestText(t *testing.T) {
	for _, s := range sample() {
		if got := hex.Text(s); got != stdhex.EncodeToString([]byte(s)) {
			t.Errorf("Text(%q): %q", s, got)
		}
	}
	for s, want := range map[string]string{"": "", "Az": "417a", "\x00\x01\x0f\x10\xf0\xff": "00010f10f0ff", "\xab\xcd\xef": "abcdef"} {
		if got := hex.Text(s); got != want {
			t.Errorf("Text(%q): %q; want %q", s, got, want)
		}
	}
}

// P2.1: Parse of digits, small, great, and mixed.
func TestParse(t *testing.T) {
	for _, s := range sample() {
		small := stdhex.EncodeToString([]byte(s))
		for _, d := range []string{small, strings.ToUpper(small)} {
			if got, at, e := hex.Parse(d); got != s || at != 0 || e != api.OK {
				t.Errorf("Parse(%q): %q, %d, %d", d, got, at, e)
			}
		}
	}
	for d, want := range map[string]string{"": "", "aBCd": "\xab\xcd", "Af": "\xaf", "fA": "\xfa", "09": "\x09", "90": "\x90"} {
		if got, at, e := hex.Parse(d); got != want || at != 0 || e != api.OK {
			t.Errorf("Parse(%q): %q, %d, %d; want %q", d, got, at, e, want)
		}
	}
}

// P2.1: Parse tells the first byte that is no digit, and only if there is none that the number is odd.
func TestParseErrors(t *testing.T) {
	for d, want := range map[string]int{
		"4":         1,
		"417":       3,
		"a":         1,
		"g":         0,
		"G1":        0,
		"4g":        1,
		"4g7":       1,
		"417g":      3,
		"417gg":     3,
		"g17g":      0,
		"41 7a":     2,
		" 417a":     0,
		"417a ":     4,
		"41\n":      2,
		"41#7a":     2,
		"# 41":      0,
		"0x41":      1,
		"41\x00":    2,
		"41\xff41":  2,
		"é1":        0,
		"4１":        1, // a digit of another script is no digit here
		"-1":        0,
		"00000000/": 8,
	} {
		if got, at, e := hex.Parse(d); got != "" || at != want || e != api.ErrSyntax {
			t.Errorf("Parse(%q): %q, %d, %d; want place %d", d, got, at, e, want)
		}
	}
}

// P2.1: Parse of all pairs of bytes: just two digits are a byte.
func TestParsePairs(t *testing.T) {
	for a := range 256 {
		for b := range 256 {
			d := string([]byte{byte(a), byte(b)})
			got, at, e := hex.Parse(d)
			switch {
			case !isDigit(byte(a)):
				if got != "" || at != 0 || e != api.ErrSyntax {
					t.Fatalf("Parse(%q): %q, %d, %d", d, got, at, e)
				}
			case !isDigit(byte(b)):
				if got != "" || at != 1 || e != api.ErrSyntax {
					t.Fatalf("Parse(%q): %q, %d, %d", d, got, at, e)
				}
			default:
				if want, err := stdhex.DecodeString(d); err != nil || got != string(want) || at != 0 || e != api.OK {
					t.Fatalf("Parse(%q): %q, %d, %d", d, got, at, e)
				}
			}
		}
	}
}

var (
	comments = regexp.MustCompile(`#[^\n]*`)
	others   = regexp.MustCompile(`[^0-9a-fA-F]`)
)

// loaded is what the document says of a text's loading, reckoned step by step.
func loaded(t string) string {
	d := others.ReplaceAllString(comments.ReplaceAllString(t, ""), "")
	b, _ := stdhex.DecodeString(d[:len(d)/2*2])
	return string(b)
}

// P2.2: Load, by hand.
func TestLoadByHand(t *testing.T) {
	for s, want := range map[string]string{
		"":                              "",
		"4 1 # 42\n7aF":                 "Az",
		"53 45 45 44 # four bytes":      "SEED",
		"4":                             "",
		"41":                            "A",
		"417":                           "A",
		"4\t1":                          "A",
		"4\n1":                          "A",
		"4\r\n1":                        "A",
		"4ghijk1":                       "A",
		"xyz":                           "",
		"4\x001":                        "A",
		"\xff41\x80":                    "A",
		"0x41":                          "\x04", // 0, 4, and a 1 that is left over
		"# 41":                          "",
		"#":                             "",
		"41#":                           "A",
		"#\n41":                         "A",
		"# 41\n42":                      "B",
		"4# comment ab\n1":              "A", // a comment between two digits of a byte
		"41#42#43\n44":                  "AD",
		"41##\n#\n42":                   "AB",
		"# 41\r42\n43":                  "C", // a comment ends at a line feed alone
		"# 41\x0042\n43":                "C",
		"41; 42":                        "AB",
		"4a4B":                          "JK",
		"FFff fF":                       "\xff\xff\xff",
		"\n\n\n":                        "",
		"41\n# last, without line feed": "A",
	} {
		if got := hex.Load(s); got != want {
			t.Errorf("Load(%q): %q; want %q", s, got, want)
		}
	}
}

// P2.2: each byte but the digits and the # is let be, wherever it stands.
func TestLoadBytes(t *testing.T) {
	for c := range 256 {
		for _, form := range []string{"%s41", "4%s1", "41%s", "41%s\n42", "# %s 41\n42"} {
			s := strings.Replace(form, "%s", string([]byte{byte(c)}), 1)
			if got, want := hex.Load(s), loaded(s); got != want {
				t.Errorf("Load(%q): %q; want %q", s, got, want)
			}
		}
	}
}

// P2.2: Load of texts made by chance, always the same, held against another reckoning.
func TestLoadAny(t *testing.T) {
	const signs = "0123456789abcdefABCDEF \n\n##gG\r\t\x00\xff@`/:"
	r := rand.New(rand.NewSource(3))
	for range 5000 {
		b := make([]byte, r.Intn(40))
		for i := range b {
			b[i] = signs[r.Intn(len(signs))]
		}
		if got, want := hex.Load(string(b)), loaded(string(b)); got != want {
			t.Fatalf("Load(%q): %q; want %q", b, got, want)
		}
	}
	for _, s := range sample() {
		if got, want := hex.Load(s), loaded(s); got != want {
			t.Errorf("Load(%q): %q; want %q", s, got, want)
		}
	}
}

// P2.3: Dump, by hand: lines that are full, one more byte, one less.
func TestDumpByHand(t *testing.T) {
	const full = "30 31 32 33 34 35 36 37 38 39 61 62 63 64 65 66  # 0\n"
	for s, want := range map[string]string{
		"":                                 "",
		"\x00":                             "00  # 0\n",
		"Az":                               "41 7a  # 0\n",
		"0123456789abcde":                  "30 31 32 33 34 35 36 37 38 39 61 62 63 64 65  # 0\n",
		"0123456789abcdef":                 full,
		"0123456789abcdefg":                full + "67  # 16\n",
		"0123456789abcdef0123456789abcdef": full + "30 31 32 33 34 35 36 37 38 39 61 62 63 64 65 66  # 16\n",
	} {
		if got := hex.Dump(s); got != want {
			t.Errorf("Dump(%q): %q; want %q", s, got, want)
		}
	}
}

// P2.3: Dump of long bytes, held against another reckoning.
func TestDumpAny(t *testing.T) {
	for _, s := range append(sample(), strings.Repeat("seed", 30000)) {
		var want strings.Builder
		for at := 0; at < len(s); at += 16 {
			fmt.Fprintf(&want, "% x  # %d\n", s[at:min(at+16, len(s))], at)
		}
		if got := hex.Dump(s); got != want.String() {
			t.Errorf("Dump of %d bytes is another one than there must be", len(s))
		}
	}
}

// P2.4: texts and dumps are loaded as what they are of, and texts are parsed as that.
func TestBack(t *testing.T) {
	for _, s := range sample() {
		if got := hex.Load(hex.Text(s)); got != s {
			t.Errorf("the text of %q is loaded as %q", s, got)
		}
		if got := hex.Load(hex.Dump(s)); got != s {
			t.Errorf("the dump of %q is loaded as %q", s, got)
		}
		if got, at, e := hex.Parse(hex.Text(s)); got != s || at != 0 || e != api.OK {
			t.Errorf("the text of %q is parsed as %q, %d, %d", s, got, at, e)
		}
	}
}

// P2.4: a comment, wherever it stands in a dump or a text, plays no part.
func TestBackWithComments(t *testing.T) {
	for _, s := range sample() {
		dump := hex.Dump(s)
		for _, c := range []string{"# 41 42\n", "#\n", "# # 7\n", "#f\n"} {
			text := c + strings.Join(strings.Split(hex.Text(s), ""), c) + c
			if got := hex.Load(text); got != s {
				t.Errorf("the text of %q, with %q between its digits, is loaded as %q", s, c, got)
			}
			if got := hex.Load(c + strings.ReplaceAll(dump, "\n", c)); got != s {
				t.Errorf("the dump of %q, with %q, is loaded as %q", s, c, got)
			}
		}
		if got := hex.Load(dump + "# 41, to the end"); got != s {
			t.Errorf("the dump of %q, with a comment at its end, is loaded as %q", s, got)
		}
	}
}
