package asm

import (
	"fmt"
	"math"
	"math/big"
	"regexp"
	"slices"
	"strings"
	"testing"

	"viceroy/api"
)

// example is a line of the document's lists: its mnemonic, the pattern of its operands (R a register, V a value, N a number),
// an item of it, and that one's word.
type example struct {
	op       int
	mnemonic string
	operands string
	item     string
	word     uint32
}

// examples are of all operations, written out; that of `word`, which is none, is the first one.
var examples = []example{
	{0, "word", "N", "word 0xdeadbeef", 0xdeadbeef},
	{1, "movi", "R , V", "movi r3, 500", 0x013001f4},
	{2, "add", "R , R , R", "add r1, r2, r3", 0x02120003},
	{3, "sub", "R , R , R", "sub r15, r14, r13", 0x03fe000d},
	{4, "and", "R , R , R", "and r0, r15, r0", 0x040f0000},
	{5, "xor", "R , R , R", "xor r7, r7, r7", 0x05770007},
	{6, "shl", "R , R , R", "shl r4, r5, r15", 0x0645000f},
	{7, "ldr", "R , [ R + V ]", "ldr r1, [r2 + 8]", 0x07120008},
	{8, "str", "R , [ R + V ]", "str r1, [r2 + 8]", 0x08120008},
	{9, "ldrb", "R , [ R + V ]", "ldrb r15, [r0 + 65535]", 0x09f0ffff},
	{10, "strb", "R , [ R + V ]", "strb r9, [r2 + 258]", 0x0a920102},
	{11, "beq", "R , R , V", "beq r1, r2, 64", 0x0b120040},
	{12, "bne", "R , R , V", "bne r5, r5, 4", 0x0c550004},
	{13, "blt", "R , R , V", "blt r15, r0, 65532", 0x0df0fffc},
	{14, "jmp", "V", "jmp 68", 0x0e000044},
	{15, "jal", "R , V", "jal r14, 1", 0x0fe00001},
	{16, "jr", "R", "jr r14", 0x100e0000},
	{17, "hvc", "V", "hvc 3", 0x11000003},
	{18, "svc", "V", "svc 65535", 0x1200ffff},
	{19, "mrs", "R , V", "mrs r2, 6", 0x13200006},
	{20, "msr", "R , V", "msr r4, 2", 0x14040002},
	{21, "wfi", "", "wfi", 0x15000000},
	{22, "iar", "R", "iar r15", 0x16f00000},
	{23, "eoi", "R", "eoi r5", 0x17050000},
	{24, "tlbi", "", "tlbi", 0x18000000},
	{25, "nop", "", "nop", 0x19000000},
}

// bases are some at which the answers are to be the same, if nothing is named.
var bases = []int{0, 1, 2, 3, 4, 64, 1000, 32768, 65532, 65533, 65534, 65535}

// farNumbers are no bases, and no operations; some would be one if they were cut to fewer bits.
var farNumbers = []int{-1, -2, -3, -4, -25, -256, -65535, -65536, -65537, 65536, 65537, 65540, 1 << 17, 1 << 20, 1 << 24, 1 << 31, 1<<32 - 1, 1 << 32, 1<<32 + 1, 1<<32 + 25, 1 << 48, 1 << 62, -1 << 32, 1 - 1<<32, math.MaxInt - 1, math.MaxInt, math.MinInt, math.MinInt + 1}

func lines(all ...string) string { return strings.Join(all, "\n") }

// gives asks that a source has these words.
func gives(t *testing.T, base int, src string, words ...uint32) {
	t.Helper()
	got, line, e := Assemble(base, src)
	if !slices.Equal(got, words) || line != 0 || e != api.OK {
		t.Errorf("Assemble(%d, %q) = %#08x, %d, %v, want %#08x", base, src, got, line, e, words)
	}
}

// fails asks that a source has an error in a line.
func fails(t *testing.T, base int, src string, line int, e api.Errno) {
	t.Helper()
	words, at, err := Assemble(base, src)
	if len(words) != 0 || at != line || err != e {
		t.Errorf("Assemble(%d, %q) = %#08x, %d, %v, want none, %d, %v", base, src, words, at, err, line, e)
	}
}

func prints(t *testing.T, want string, words ...uint32) {
	t.Helper()
	if got := Print(words...); got != want {
		t.Errorf("Print(%#08x) = %q, want %q", words, got, want)
	}
}

func TestExamples(t *testing.T) {
	gives(t, 0, "movi r3, 500 ; x", 0x013001f4)
	gives(t, 64, lines("a: nop", "b: beq r1, r2, a", "jmp b"), 0x19000000, 0x0b120040, 0x0e000044)
	gives(t, 0, "ldr r1, [r2 + 8]", 0x07120008)
	prints(t, "ldr r1, [r2 + 8]\n", 0x07120008)
	for _, src := range []string{"movi r1, R", "movi r01, 0", "movi r1, 007"} {
		fails(t, 0, src, 1, api.ErrToken)
	}
	for _, src := range []string{"movi r1 0", "nop nop", "nop: nop", "x: y: nop"} {
		fails(t, 0, src, 1, api.ErrSyntax)
	}
	for _, src := range []string{"movi r16, 0", "movi r1, 65536", "word 4294967296"} {
		fails(t, 0, src, 1, api.ErrRange)
	}
	fails(t, 0, "jmp x", 1, api.ErrLabel)
	fails(t, 0, lines("x:", "x:"), 2, api.ErrLabel)
	prints(t, "word 0x00000000\nnop\n", 0, 0x19000000)
}

func TestA1Mnemonic(t *testing.T) {
	for k, x := range examples {
		if x.op != k {
			t.Fatalf("example %d: %+v", k, x)
		}
		want := x.mnemonic
		if k == 0 {
			want = ""
		}
		if got := Mnemonic(k); got != want {
			t.Errorf("Mnemonic(%d) = %q, want %q", k, got, want)
		}
	}
	for op := 26; op <= 3000; op++ {
		if Mnemonic(op) != "" || Mnemonic(25-op) != "" {
			t.Errorf("Mnemonic(%d) = %q, Mnemonic(%d) = %q, want none", op, Mnemonic(op), 25-op, Mnemonic(25-op))
		}
	}
	for _, op := range farNumbers {
		if got := Mnemonic(op); got != "" {
			t.Errorf("Mnemonic(%d) = %q, want none", op, got)
		}
	}
}

func TestA2EachOperation(t *testing.T) {
	var srcs []string
	var words []uint32
	for _, x := range examples {
		for _, base := range bases {
			gives(t, base, x.item, x.word)
			gives(t, base, "here: "+x.item, x.word)
		}
		srcs, words = append(srcs, x.item), append(words, x.word)
	}
	gives(t, 0, lines(srcs...), words...)
	gives(t, 65535, lines(srcs...), words...)
}

// kinds are what may stand where a pattern has one token.
var kinds = []string{":", ",", "[", "]", "+", "r0", "r15", "7", "0xa", "65535", "l", "nop", "word", "movi"}

// isOf tells whether a token of kinds may stand for one of a pattern.
func isOf(token, pattern string) bool {
	switch pattern {
	case "R":
		return token == "r0" || token == "r15"
	case "N":
		return token == "7" || token == "0xa" || token == "65535"
	case "V":
		return isOf(token, "N") || token == "l"
	}
	return token == pattern
}

// sample is a right item of a pattern.
func sample(x example) []string {
	tokens := []string{x.mnemonic}
	for _, p := range strings.Fields(x.operands) {
		tokens = append(tokens, map[string]string{"R": "r1", "N": "7", "V": "l"}[p])
		if tokens[len(tokens)-1] == "" {
			tokens[len(tokens)-1] = p
		}
	}
	return tokens
}

// TestA2EachToken puts each kind of token at each place of an item: it is right where the form says so, and nowhere else.
func TestA2EachToken(t *testing.T) {
	for _, x := range examples {
		pattern := strings.Fields(x.operands)
		for k := range pattern {
			for _, kind := range kinds {
				tokens := sample(x)
				tokens[k+1] = kind
				src := lines("l:", strings.Join(tokens, " "))
				_, line, e := Assemble(0, src)
				if isOf(kind, pattern[k]) != (e == api.OK) {
					t.Errorf("Assemble(0, %q) = %d, %v", src, line, e)
				}
				if e != api.OK && (e != api.ErrSyntax || line != 2) {
					t.Errorf("Assemble(0, %q) = %d, %v, want 2, ErrSyntax", src, line, e)
				}
			}
		}
	}
}

// TestA2TokensMoreAndLess takes a token from an item, puts one more into it, and exchanges two: none of that is an item.
func TestA2TokensMoreAndLess(t *testing.T) {
	for _, x := range examples {
		whole := sample(x)
		for k := range whole {
			if less := slices.Delete(slices.Clone(whole), k, k+1); len(less) > 0 {
				fails(t, 0, lines("l:", strings.Join(less, " ")), 2, api.ErrSyntax)
			}
			for _, kind := range kinds {
				more := slices.Insert(slices.Clone(whole), k+1, kind)
				fails(t, 0, lines("l:", strings.Join(more, " ")), 2, api.ErrSyntax)
				if k == 0 && kind != "l" {
					more = slices.Insert(slices.Clone(whole), 0, kind)
					fails(t, 0, lines("l:", strings.Join(more, " ")), 2, api.ErrSyntax)
				}
			}
			if k > 0 && whole[k] != whole[k-1] {
				swapped := slices.Clone(whole)
				swapped[k], swapped[k-1] = swapped[k-1], swapped[k]
				fails(t, 0, lines("l:", strings.Join(swapped, " ")), 2, api.ErrSyntax)
			}
		}
	}
}

// TestA2FormsAreNotMixed writes each operation with the operands of each other form.
func TestA2FormsAreNotMixed(t *testing.T) {
	for _, x := range examples {
		for _, y := range examples {
			operands := strings.Join(sample(y)[1:], " ")
			src := lines("l:", x.mnemonic+" "+operands)
			_, line, e := Assemble(0, src)
			if ok := x.operands == y.operands || x.operands == "V" && y.operands == "N"; ok != (e == api.OK) || !ok && (line != 2 || e != api.ErrSyntax) {
				t.Errorf("Assemble(0, %q) = %d, %v", src, line, e)
			}
		}
	}
}

func TestA2Base(t *testing.T) {
	for _, base := range bases {
		gives(t, base, "")
		gives(t, base, "l: jmp l", 0x0e000000+uint32(base))
	}
	for _, base := range farNumbers {
		fails(t, base, "", 0, api.ErrArg)
		fails(t, base, "nop", 0, api.ErrArg)
		fails(t, base, "?", 0, api.ErrArg)
		fails(t, base, "jmp x", 0, api.ErrArg)
		fails(t, base, strings.Repeat(" ", api.MaxSource+1), 0, api.ErrArg)
	}
}

func TestA2Length(t *testing.T) {
	for _, all := range []string{" ", "\n", ";", "nop\n", ";?\x80\xff"} {
		most := strings.Repeat(all, api.MaxSource)[:api.MaxSource]
		want := make([]uint32, strings.Count(most, "nop"))
		for k := range want {
			want[k] = 0x19000000
		}
		gives(t, 0, most, want...)
		fails(t, 0, most+" ", 0, api.ErrLong)
		fails(t, 0, most+"\n", 0, api.ErrLong)
		fails(t, 0, most+"nop", 0, api.ErrLong)
	}
	for _, all := range []string{"?", "\x00", "a", "9", "r9", "é", "nop nop\n", "jmp x\n", "x:\n"} {
		long := strings.Repeat(all, api.MaxSource+1)
		fails(t, 0, long, 0, api.ErrLong)
		fails(t, 65535, long[:api.MaxSource+1], 0, api.ErrLong)
		fails(t, 65536, long[:api.MaxSource+1], 0, api.ErrArg)
	}
	// What has bytes of more than one in a rune is measured by its bytes.
	fails(t, 0, ";"+strings.Repeat("é", api.MaxSource/2), 0, api.ErrLong)
	gives(t, 0, ";."+strings.Repeat("é", api.MaxSource/2-1))
	fails(t, 0, strings.Repeat("\n", api.MaxSource-1)+"?", api.MaxSource, api.ErrToken)
}

func TestA2NothingInIt(t *testing.T) {
	for _, src := range []string{"", " ", "    ", "\n", "\n\n\n", "  \n \n", ";", " ; ", ";;;", "; nop", "; ?! \x80\xff é\n;\n", ";\x00", "l:", "l :", " l : ; x", lines("a:", "b:", "", "c:;")} {
		gives(t, 0, src)
		gives(t, 65535, src)
	}
}

func TestA2LineEnds(t *testing.T) {
	gives(t, 0, "nop", 0x19000000)
	gives(t, 0, "nop\n", 0x19000000)
	gives(t, 0, "\nnop\n\n", 0x19000000)
	gives(t, 0, "nop\n\n  \n;x\nwfi", 0x19000000, 0x15000000)
	// A byte 10 ends a remark, and a word.
	gives(t, 0, "nop;wfi\nwfi", 0x19000000, 0x15000000)
	fails(t, 0, "no\np", 1, api.ErrSyntax)
	fails(t, 0, "jmp\n5", 1, api.ErrSyntax)
	gives(t, 0, "l:\nnop", 0x19000000)
	fails(t, 0, "l\n:nop", 1, api.ErrSyntax)
	for _, src := range []string{"nop\r\nnop", "nop\r", "\rnop", "nop\tnop", "nop\v", "nop\f", "nop\x85", "nop\u0085", "nop\u2028", "nop\u00a0"} {
		fails(t, 0, src, 1, api.ErrToken)
	}
}

// TestA2Blanks writes items with as few blanks as may be, and with many.
func TestA2Blanks(t *testing.T) {
	gives(t, 0, "movi r3,500;x", 0x013001f4)
	gives(t, 0, "   movi    r3  ,   500   ", 0x013001f4)
	gives(t, 0, "ldr r1,[r2+8]", 0x07120008)
	gives(t, 0, "ldr r1 , [ r2 + 8 ]", 0x07120008)
	gives(t, 0, "a:jmp a", 0x0e000000)
	gives(t, 0, "  a  :  jmp  a  ", 0x0e000000)
	fails(t, 0, "movir3,500", 1, api.ErrSyntax)
	fails(t, 0, "movi r 3,500", 1, api.ErrSyntax)
	fails(t, 0, "movi r3,5 00", 1, api.ErrToken)
	fails(t, 0, "movi r3,5 0", 1, api.ErrSyntax)
	fails(t, 0, "word 0 x1", 1, api.ErrSyntax)
	fails(t, 0, "mo vi r3,500", 1, api.ErrSyntax)
}

// TestA2EachByte puts each byte between two items' tokens, at either end, within a word, and into a remark.
func TestA2EachByte(t *testing.T) {
	for b := range 256 {
		c := string([]byte{byte(b)})
		gives(t, 0, "nop ; x"+strings.ReplaceAll(c, "\n", ";")+"x", 0x19000000)
		if strings.Contains("abcdefghijklmnopqrstuvwxyz0123456789_:,[]+ ;\n", c) {
			continue
		}
		for _, src := range []string{c, c + "nop", "nop" + c, "n" + c + "op", "movi r1" + c + ", 5", "movi r1, 5" + c, "movi r" + c + "1, 5", "movi r1, 0x" + c, "l" + c + ": nop", "nop " + c + ";", c + "; x"} {
			fails(t, 0, src, 1, api.ErrToken)
			fails(t, 0, lines("", "nop", src, "?"), 3, api.ErrToken)
		}
	}
	for _, c := range []string{"é", "ａ", "０", "²", "\u0660", "ſ", "K", "🙂", "\ufffd", "\ufeff", "\xc3", "\xe2\x82", "\xed\xa0\x80", "\xf4\x90\x80\x80", "\xc1\x81", "\xc0\xba"} {
		for _, src := range []string{c, c + "nop", "nop" + c, "n" + c + "op", "movi r1, " + c, "movi r" + c + ", 5", "movi r1" + c + " 5", c + ": nop"} {
			fails(t, 0, src, 1, api.ErrToken)
		}
		gives(t, 0, "nop;"+c+"\nnop", 0x19000000, 0x19000000)
		gives(t, 0, "nop;"+c+";"+c, 0x19000000)
		fails(t, 0, c+";nop", 1, api.ErrToken)
	}
}

func TestA2Capitals(t *testing.T) {
	for _, src := range []string{"NOP", "Nop", "L: nop", "movi R1, 5", "word 0XAB", "word 0xAB", "word 0xaB", "jmp A"} {
		fails(t, 0, src, 1, api.ErrToken)
	}
}

func TestA2Numbers(t *testing.T) {
	for src, word := range map[string]uint32{
		"0": 0, "1": 1, "9": 9, "10": 10, "65535": 65535, "65536": 65536, "2147483648": 1 << 31, "4294967294": 1<<32 - 2, "4294967295": 1<<32 - 1,
		"0x0": 0, "0x1": 1, "0xf": 15, "0x00": 0, "0x000000ff": 255, "0x00000000": 0, "0x1234567": 0x1234567, "0x89abcdef": 0x89abcdef, "0xffffffff": 1<<32 - 1, "0xffff": 65535, "0x7": 7,
	} {
		gives(t, 0, "word "+src, word)
		if word <= 65535 {
			gives(t, 0, "jmp "+src, 0x0e000000+word)
			gives(t, 0, "ldr r1, [r2 + "+src+"]", 0x07120000+word)
		} else {
			fails(t, 0, "jmp "+src, 1, api.ErrRange)
			fails(t, 0, "ldr r1, [r2 + "+src+"]", 1, api.ErrRange)
		}
	}
	for _, src := range []string{"4294967296", "4294967297", "9999999999", "10000000000", "42949672950", "18446744073709551615", "18446744073709551616", "18446744073709551617", "36893488147419103232", "1" + strings.Repeat("0", 3900), strings.Repeat("9", 3900)} {
		fails(t, 0, "word "+src, 1, api.ErrRange)
		fails(t, 0, "jmp "+src, 1, api.ErrRange)
	}
	for _, src := range []string{"00", "01", "000", "007", "0000000000", "00x1", "04294967296", "0x", "0x000000000", "0x100000000", "0x123456789", "0x" + strings.Repeat("0", 3000), "0xg", "0x1g", "0xx1", "0x0x1", "0x_1", "0b1", "0o7", "1x", "1a", "12ab", "1_000", "1_", "0_", "0a", "9z", "5r1", "4294967296a", "1e5"} {
		fails(t, 0, "word "+src, 1, api.ErrToken)
		fails(t, 0, "jmp "+src, 1, api.ErrToken)
		fails(t, 0, src+": nop", 1, api.ErrToken)
	}
	fails(t, 0, "word -1", 1, api.ErrToken)
	fails(t, 0, "word +1", 1, api.ErrSyntax)
}

func TestA2Values(t *testing.T) {
	for _, x := range examples {
		if !strings.Contains(x.operands, "V") {
			continue
		}
		tokens := sample(x)
		at := slices.Index(tokens, "l")
		words, _, _ := Assemble(0, lines("l:", strings.Join(tokens, " ")))
		low := words[0]
		for src, n := range map[string]uint32{"0": 0, "1": 1, "255": 255, "256": 256, "32768": 32768, "65534": 65534, "65535": 65535, "0xffff": 65535, "0x0000ffff": 65535} {
			tokens[at] = src
			gives(t, 0, strings.Join(tokens, " "), low+n)
		}
		for _, src := range []string{"65536", "65537", "131071", "0x10000", "0xffffffff", "4294967295", "4294967296", "99999999999999999999999"} {
			tokens[at] = src
			fails(t, 0, strings.Join(tokens, " "), 1, api.ErrRange)
		}
	}
}

// TestA2Registers tries all registers at each place that has one.
func TestA2Registers(t *testing.T) {
	for _, x := range examples {
		for k, p := range strings.Fields(x.operands) {
			if p != "R" {
				continue
			}
			tokens := sample(x)
			try := func(register string) string {
				tokens[k+1] = register
				return lines("l:", strings.Join(tokens, " "))
			}
			words, _, _ := Assemble(0, try("r0"))
			low := words[0]
			words, _, _ = Assemble(0, try("r1"))
			step := words[0] - low
			if step != 1 && step != 1<<16 && step != 1<<20 {
				t.Errorf("%s, operand %d: a register is worth %#x", x.mnemonic, k, step)
			}
			for n := range uint32(16) {
				gives(t, 0, try(fmt.Sprintf("r%d", n)), low+n*step)
			}
			for _, far := range []string{"r16", "r17", "r99", "r100", "r255", "r256", "r65536", "r4294967296", "r4294967297", "r18446744073709551616", "r18446744073709551617", "r1" + strings.Repeat("0", 3000)} {
				fails(t, 0, try(far), 2, api.ErrRange)
			}
			for _, wrong := range []string{"r00", "r01", "r015", "r016", "r0000000000000", "r0" + strings.Repeat("1", 3000)} {
				fails(t, 0, try(wrong), 2, api.ErrToken)
			}
			for _, other := range []string{"r", "r_1", "r1_", "r1a", "rr1", "rx", "x1", "r0x1", "1"} {
				fails(t, 0, try(other), 2, api.ErrSyntax)
			}
		}
	}
}

// TestA2RegistersAreNoNames has registers, also those that there are not, where a name is asked for.
func TestA2RegistersAreNoNames(t *testing.T) {
	for _, r := range []string{"r0", "r15", "r16", "r99999999999", "r999999999999", "r9999999999999", "r" + strings.Repeat("9", 3000)} {
		fails(t, 0, r+":", 1, api.ErrSyntax)
		fails(t, 0, r+": nop", 1, api.ErrSyntax)
		fails(t, 0, r, 1, api.ErrSyntax)
		fails(t, 0, "jmp "+r, 1, api.ErrSyntax)
	}
	for _, r := range []string{"r00", "r01", "r000000000001"} {
		fails(t, 0, r+": nop", 1, api.ErrToken)
		fails(t, 0, "jmp "+r, 1, api.ErrToken)
	}
}

func TestA2Names(t *testing.T) {
	for _, n := range []string{"a", "z", "_", "__", "r", "r_", "r1_", "r1a", "rr1", "a0", "a1_b2", "x", "words", "wor", "nop_", "nop1", "movie", "mov", "b", "j", "abcdefghijkl", "mnopqrstuvwx", "yz_0123456789"[:12], "____________", "r1234567890a", "r0x"} {
		gives(t, 4, lines(n+": nop", "jmp "+n), 0x19000000, 0x0e000004)
		gives(t, 4, lines("ldr r1, [r2 + "+n+"]", n+":"), 0x07120008)
		fails(t, 4, "jmp "+n, 1, api.ErrLabel)
		fails(t, 4, n, 1, api.ErrSyntax)
		fails(t, 4, n+" r1, 5", 1, api.ErrSyntax)
	}
	for _, n := range []string{"abcdefghijklm", "_____________", "r123456789012a", "r12345678901_", "wordwordwordword", strings.Repeat("a", 3000)} {
		fails(t, 4, n+":", 1, api.ErrToken)
		fails(t, 4, "jmp "+n, 1, api.ErrToken)
		fails(t, 4, n, 1, api.ErrToken)
		fails(t, 4, lines("nop", n+" r16"), 2, api.ErrToken)
		gives(t, 4, "nop ; "+n, 0x19000000)
	}
	// Names that begin alike are not the same one.
	gives(t, 0, lines("abcdefghijk: nop", "abcdefghijkl: nop", "jmp abcdefghijk", "jmp abcdefghijkl"), 0x19000000, 0x19000000, 0x0e000000, 0x0e000004)
}

func TestA2MnemonicsAreNoLabels(t *testing.T) {
	for _, x := range examples {
		fails(t, 0, x.mnemonic+":", 1, api.ErrSyntax)
		fails(t, 0, x.mnemonic+": nop", 1, api.ErrSyntax)
		fails(t, 0, x.mnemonic+": "+x.item, 1, api.ErrSyntax)
		fails(t, 0, "jmp "+x.mnemonic, 1, api.ErrSyntax)
		fails(t, 0, "movi r1, "+x.mnemonic, 1, api.ErrSyntax)
		fails(t, 0, "str r1, [r2 + "+x.mnemonic+"]", 1, api.ErrSyntax)
		fails(t, 0, "word "+x.mnemonic, 1, api.ErrSyntax)
	}
}

func TestA2NoLines(t *testing.T) {
	for _, src := range []string{":", "::", ": nop", "x::", "x: :", "x : : nop", "x: y:", "x: y: nop", "x y: nop", "x, : nop", "5: nop", "5", "0xa:", "[", "]", "+", ",", "nop,", ", nop", "nop:", "nop: x", "x: 5", "x: r1", "x: x", "x nop", "x: nop nop", "x: nop x:", "nop x:", "nop ; x\nnop 5", "ldr r1, r2, 8", "ldr r1, [r2]", "ldr r1, [8 + r2]", "ldr r1, [r2 + r3]", "ldr r1, [r2, 8]", "ldr r1, [r2 8]", "ldr r1, [r2 + 8", "ldr r1, r2 + 8]", "ldr r1 [r2 + 8]", "beq r1, [r2 + 8]", "beq r1, r2 + 8", "add r1, r2, 3", "add r1, r2, x", "add r1, r2", "movi r1, r2", "movi 5, r1", "movi r1,, 5", "jmp r1", "jr 5", "jr x", "iar 5", "hvc", "hvc 1, 2", "wfi 0", "word", "word x", "word r1", "word 1, 2", "word 1 2", "word: 1", "word [1]", "word 1 + 1"} {
		line := 1 + strings.Count(src, "\n")
		fails(t, 0, src, line, api.ErrSyntax)
		fails(t, 0, lines("nop", "", src, "?"), line+2, api.ErrSyntax)
	}
}

func TestA2LabelValues(t *testing.T) {
	// Ahead, behind, at the own item, behind the last one, and two of one item.
	gives(t, 8, lines("jmp c", "a: jmp a", "b:", "", "c: jmp b", "jmp d", "; x", "d:"), 0x0e000010, 0x0e00000c, 0x0e000010, 0x0e000018)
	gives(t, 100, lines("x:", "y:", "z: nop", "movi r1, x", "movi r2, y", "movi r3, z"), 0x19000000, 0x01100064, 0x01200064, 0x01300064)
	gives(t, 0, lines("jmp end", "end:"), 0x0e000004)
	gives(t, 0, lines("jmp end", "end:", "last:"), 0x0e000004)
	gives(t, 0, lines("jmp last", "end:", "last:"), 0x0e000004)
	gives(t, 0, lines("a:", "jmp a"), 0x0e000000)
	// A plain word is an item as others are, and lines without one count nothing.
	gives(t, 3, lines("word 5", "", "word 6", "l: ; here", " ", "beq r0, r0, l"), 5, 6, 0x0b00000b)
	// Each operation whose form has a value takes a name.
	for _, x := range examples {
		if !strings.Contains(x.operands, "V") {
			continue
		}
		item := strings.Join(sample(x), " ")
		first, _, _ := Assemble(0, lines("l:", item))
		gives(t, 4660, lines("l:", item), first[0]+4660)
		gives(t, 4660, lines(item, "l:"), first[0]+4664)
	}
}

func TestA2LabelTwice(t *testing.T) {
	fails(t, 0, lines("x:", "x:"), 2, api.ErrLabel)
	fails(t, 0, lines("x: nop", "y: nop", "", "x: nop", "y:", "x:"), 4, api.ErrLabel)
	fails(t, 0, lines("x: nop", "y: nop", "y: nop", "x: nop"), 3, api.ErrLabel)
	fails(t, 0, lines("x:", "nop", "x: jmp x"), 3, api.ErrLabel)
	// Where it stands twice goes ahead of what is no label, in whichever order they stand.
	fails(t, 0, lines("jmp y", "x:", "x:"), 3, api.ErrLabel)
	fails(t, 0, lines("x:", "jmp y", "x: jmp z", "jmp z"), 3, api.ErrLabel)
	fails(t, 0, lines("x:", "x:", "jmp y"), 2, api.ErrLabel)
	fails(t, 65535, lines("nop", "a: jmp a", "b:", "b:"), 4, api.ErrLabel)
}

func TestA2NoLabel(t *testing.T) {
	fails(t, 0, "jmp x", 1, api.ErrLabel)
	fails(t, 0, lines("x: nop", "jmp x", "jmp y", "jmp z"), 3, api.ErrLabel)
	fails(t, 0, lines("", ";", "movi r1, l ; l:", "l1:"), 3, api.ErrLabel)
	for _, x := range examples {
		if strings.Contains(x.operands, "V") {
			fails(t, 0, lines("k:", strings.Join(sample(x), " ")), 2, api.ErrLabel)
		}
	}
}

func TestA2LabelTooFar(t *testing.T) {
	gives(t, 65535, "a: jmp a", 0x0e00ffff)
	gives(t, 65531, lines("jmp a", "a:"), 0x0e00ffff)
	gives(t, 65527, lines("nop", "jmp a", "a: nop"), 0x19000000, 0x0e00ffff, 0x19000000)
	fails(t, 65532, lines("jmp a", "a:"), 1, api.ErrLabel)
	fails(t, 65533, lines("jmp a", "a: nop"), 1, api.ErrLabel)
	fails(t, 65535, lines("nop", "a: jmp a"), 2, api.ErrLabel)
	fails(t, 65535, lines("b: jmp b", "a: jmp a", "jmp b"), 2, api.ErrLabel)
	// One that no line names is not asked, and neither is one that a remark, a label or another item has.
	gives(t, 65535, lines("nop", "a: nop", "b: jmp 5 ; a"), 0x19000000, 0x19000000, 0x0e000005)
	gives(t, 65535, lines("b: nop", "a: jmp b"), 0x19000000, 0x0e00ffff)
	// The first of both kinds of names that cannot be.
	fails(t, 65535, lines("a: nop", "jmp a", "jmp x", "b: jmp b"), 3, api.ErrLabel)
	fails(t, 65535, lines("a: nop", "jmp a", "b: jmp b", "jmp x"), 3, api.ErrLabel)
	// Far beyond, as many items as a source can have.
	many := strings.Repeat("nop\n", 990)
	fails(t, 65000, many+"a:jmp a", 991, api.ErrLabel)
	gives(t, 0, lines(strings.Repeat("word 0\n", 500)+"a:jmp a"), append(make([]uint32, 500), 0x0e0007d0)...)
}

// faults are of each kind that a line itself can have, in the order in which they are told.
var faults = []struct {
	line string
	e    api.Errno
}{
	{"jmp ?", api.ErrToken},
	{"jmp 00", api.ErrToken},
	{"jmp r00", api.ErrToken},
	{"jmp abcdefghijklm", api.ErrToken},
	{"jmp jmp", api.ErrSyntax},
	{"jmp r16", api.ErrSyntax},
	{"movi r16, 5", api.ErrRange},
	{"jmp 65536", api.ErrRange},
	{"word 4294967296", api.ErrRange},
}

// TestA2FirstLine has a fault of each kind ahead of one of each: the first line's is told, with labels' faults behind all of them.
func TestA2FirstLine(t *testing.T) {
	for _, x := range faults {
		fails(t, 0, x.line, 1, x.e)
		for _, y := range faults {
			fails(t, 0, lines(x.line, y.line), 1, x.e)
			fails(t, 0, lines("nop", "", x.line, ";", y.line, x.line), 3, x.e)
		}
		fails(t, 0, lines("x:", "x:", "jmp y", x.line), 4, x.e)
		fails(t, 65535, lines("nop", "a: jmp a", "", "jmp y", "x: nop", "x:", x.line, "?"), 7, x.e)
	}
}

// TestA2FirstInALine has several faults in one line, in either order of places.
func TestA2FirstInALine(t *testing.T) {
	for _, src := range []string{"nop nop ?", "? nop nop", "movi r16, 00", "movi r00, 65536", "r16 00", "movi r16 abcdefghijklm", "word 4294967296 ?", "word ? 4294967296", "nop: movi r01, 99999", "jmp 65536 0x", "add r16, r16, r016", "x: y: 01"} {
		fails(t, 0, src, 1, api.ErrToken)
	}
	for _, src := range []string{"nop r16", "movi r16", "movi r16 5", "movi 65536, r16", "word 4294967296 4294967296", "word r16", "jmp r16", "add r16, r16, 65536", "nop: movi r16, 0", "x: y: jmp 65536", "65536", "4294967296: nop", "movi r16, nop", "ldr r16, [r1 + 65536", "movi r16, r16"} {
		fails(t, 0, src, 1, api.ErrSyntax)
	}
	for _, src := range []string{"movi r16, x", "x: movi r16, y", "movi r16, 65536", "ldr r1, [r16 + y]", "beq r1, r99, y", "add r1, r2, r16", "add r16, r2, r1", "add r1, r16, r1"} {
		fails(t, 0, src, 1, api.ErrRange)
		fails(t, 0, lines("x:", "jmp y", src), 3, api.ErrRange)
	}
}

func TestA3EachOperation(t *testing.T) {
	all, text := []uint32{}, ""
	for _, x := range examples {
		prints(t, x.item+"\n", x.word)
		all, text = append(all, x.word), text+x.item+"\n"
	}
	prints(t, text, all...)
	prints(t, "")
	if got := Print([]uint32(nil)...); got != "" {
		t.Errorf("Print of nil = %q", got)
	}
}

// shown is what Print is to write of a word, by the document's table of patterns alone.
func shown(w uint32) string {
	none := fmt.Sprintf("word 0x%08x\n", w)
	op, a, b, low := w>>24, w>>20&15, w>>16&15, w&65535
	if op < 1 || op > 25 {
		return none
	}
	name := examples[op].mnemonic
	switch op {
	case 1, 15, 19:
		if b == 0 {
			return fmt.Sprintf("%s r%d, %d\n", name, a, low)
		}
	case 2, 3, 4, 5, 6:
		if low < 16 {
			return fmt.Sprintf("%s r%d, r%d, r%d\n", name, a, b, low)
		}
	case 7, 8, 9, 10:
		return fmt.Sprintf("%s r%d, [r%d + %d]\n", name, a, b, low)
	case 11, 12, 13:
		return fmt.Sprintf("%s r%d, r%d, %d\n", name, a, b, low)
	case 14, 17, 18:
		if a == 0 && b == 0 {
			return fmt.Sprintf("%s %d\n", name, low)
		}
	case 16, 23:
		if a == 0 && low == 0 {
			return fmt.Sprintf("%s r%d\n", name, b)
		}
	case 20:
		if a == 0 {
			return fmt.Sprintf("%s r%d, %d\n", name, b, low)
		}
	case 22:
		if b == 0 && low == 0 {
			return fmt.Sprintf("%s r%d\n", name, a)
		}
	case 21, 24, 25:
		if w&0xffffff == 0 {
			return name + "\n"
		}
	}
	return none
}

// someWords are of all operations and beside them, with all registers, and lower halves at their edges.
func someWords() []uint32 {
	var all []uint32
	for op := range uint32(27) {
		for registers := range uint32(256) {
			for _, low := range []uint32{0, 1, 9, 10, 15, 16, 99, 100, 255, 256, 4096, 9999, 10000, 32768, 65535} {
				all = append(all, op<<24|registers<<16|low)
			}
		}
	}
	for op := range uint32(256) {
		all = append(all, op<<24, op<<24|1, op<<24|0xffffff)
	}
	for bit := range 32 {
		all = append(all, 1<<bit, 1<<bit-1, ^uint32(1<<bit))
	}
	return all
}

func TestA3EachWord(t *testing.T) {
	for _, w := range someWords() {
		prints(t, shown(w), w)
	}
	for low := range uint32(1 << 16) {
		prints(t, shown(0x01300000|low), 0x01300000|low)
		prints(t, shown(low), low)
	}
}

func TestA3NoInstructions(t *testing.T) {
	for w, text := range map[uint32]string{0: "word 0x00000000\n", 1: "word 0x00000001\n", 0xabcdef: "word 0x00abcdef\n", 0xffffffff: "word 0xffffffff\n", 0x02120010: "word 0x02120010\n", 0x19000001: "word 0x19000001\n", 0x1a000000: "word 0x1a000000\n", 0xdeadbeef: "word 0xdeadbeef\n", 0x0e100000: "word 0x0e100000\n"} {
		prints(t, text, w)
	}
}

// source tells numbers that look like none: the same ones each time.
type source uint64

func newSource(seed uint64) *source { s := source(seed); return &s }

func (s *source) below(n int) int {
	high := func() uint64 {
		*s = *s*6364136223846793005 + 1442695040888963407
		return uint64(*s) >> 32
	}
	return int((high()<<31 ^ high()) % uint64(n))
}

// TestA4AssembleOfPrint goes over many words, as many at once as a source can hold.
func TestA4AssembleOfPrint(t *testing.T) {
	for k, some := range slices.Collect(slices.Chunk(someWords(), 150)) {
		for _, base := range []int{0, 65535, bases[k%len(bases)]} {
			gives(t, base, Print(some...), some...)
		}
	}
	gives(t, 0, Print())
	r := newSource(1)
	for range 2000 {
		some := make([]uint32, r.below(150))
		for k := range some {
			some[k] = uint32(r.below(1<<32)) >> r.below(32)
			if r.below(2) == 0 {
				some[k] = uint32(r.below(26))<<24 | some[k]&0x00ffffff
			}
		}
		gives(t, r.below(65536), Print(some...), some...)
	}
}

// TestA4BlanksAndRemarks writes sources in several ways: with other blanks, remarks, and lines of these alone.
func TestA4BlanksAndRemarks(t *testing.T) {
	r := newSource(2)
	for range 4000 {
		base, src := bases[r.below(len(bases))], randomSource(r)
		words, line, e := Assemble(base, src)
		text, where := respaced(r, src)
		if len(text) > api.MaxSource || len(src) > api.MaxSource {
			continue
		}
		again, at, err := Assemble(base, text)
		if line > 0 {
			line = where[line-1]
		}
		if !slices.Equal(words, again) || at != line || err != e {
			t.Fatalf("Assemble(%d, %q) = %#08x, %d, %v; of %q: %#08x, want line %d, %v", base, text, again, at, err, src, words, line, e)
		}
	}
}

// respaced is a source with other blanks and remarks, and where each of its lines is now.
func respaced(r *source, src string) (string, []int) {
	var out []string
	var where []int
	blanks := func() string { return strings.Repeat(" ", r.below(3)) }
	for _, line := range strings.Split(src, "\n") {
		for range r.below(2) {
			out = append(out, []string{"", "  ", "; nop ?", " ;;", ";\x80\xff é"}[r.below(5)])
		}
		line, _, _ = strings.Cut(line, ";")
		text := blanks()
		for _, token := range regexp.MustCompile(`[a-z0-9_]+|[ ]+|(?s:.)`).FindAllString(line, -1) {
			if strings.TrimLeft(token, " ") == "" {
				text += " "
			}
			if token = strings.TrimLeft(token, " "); len(token) == 1 && strings.Contains(":,[]+", token) {
				token = blanks() + token + blanks()
			}
			text += token
		}
		out = append(out, text+blanks()+[]string{"", ";", "; x", ";é\xff: nop"}[r.below(4)])
		where = append(where, len(out))
	}
	return strings.Join(out, "\n"), where
}

// pieces are what random sources are made of beside right items.
var pieces = []string{":", ",", "[", "]", "+", " ", "  ", ";", "\n", "r0", "r7", "r15", "r16", "r01", "r99999999999999999999", "0", "1", "4", "65535", "65536", "0x", "0x1f", "0xffff", "0x10000", "0xffffffff", "0x000000000", "007", "4294967295", "4294967296", "99999999999999999999", "a", "b", "loop", "r", "r1x", "_", "abcdefghijkl", "abcdefghijklm", "nop", "word", "movi", "ldr", "beq", "jmp", "A", "?", "\t", "\r", "é", "\x80", "\xff", "-", "1a"}

func randomOperand(r *source, p string) string {
	pick := func(all ...string) string { return all[r.below(len(all))] }
	switch p {
	case "R":
		if r.below(30) == 0 {
			return pick("r16", "r01", "x", "5")
		}
		return fmt.Sprintf("r%d", r.below(16))
	case "N":
		return pick("0", "1", "65536", "0xdeadbeef", "4294967295", "0x0000000f")
	case "V":
		if r.below(30) == 0 {
			return pick("65536", "nop", "r1", "nowhere")
		}
		return pick("0", "7", "65535", "0xff", "a", "b", "c", "d", "e")
	}
	return p
}

// randomSource is of lines that are right for the most part.
func randomSource(r *source) string {
	var out []string
	wrong := r.below(3) == 0
	for range r.below(12) {
		line := ""
		if r.below(3) == 0 {
			line = string(rune('a'+r.below(5+r.below(20)))) + " : "
		}
		if r.below(6) > 0 {
			x := examples[r.below(len(examples))]
			line += x.mnemonic + " "
			for _, p := range strings.Fields(x.operands) {
				line += randomOperand(r, p) + " "
			}
		}
		if wrong && r.below(6) == 0 {
			at := r.below(len(line) + 1)
			line = line[:at] + pieces[r.below(len(pieces))] + line[at:]
		}
		out = append(out, line)
	}
	return strings.Join(out, "\n")
}

var (
	tokenShape  = regexp.MustCompile(`[a-z0-9_]+|[:,\[\]+]`)
	numberShape = regexp.MustCompile(`^(0|[1-9][0-9]*|0x[0-9a-f]{1,8})$`)
	digitAhead  = regexp.MustCompile(`^[0-9]`)
	someDigits  = regexp.MustCompile(`^r[0-9]+$`)
	rightDigits = regexp.MustCompile(`^r(0|[1-9][0-9]*)$`)
	labelShape  = regexp.MustCompile(`^([a-z_][a-z0-9_]*) :( |$)`)
	itemShapes  = makeItemShapes()
)

// makeItemShapes makes a pattern of each operation's item, its tokens being parted by one blank.
func makeItemShapes() []*regexp.Regexp {
	var all []*regexp.Regexp
	for _, x := range examples {
		p := x.mnemonic
		for _, o := range strings.Fields(x.operands) {
			switch o {
			case "R":
				p += ` (r[0-9]+)`
			case "N":
				p += ` ([0-9]\w*)`
			case "V":
				p += ` (\w+)`
			default:
				p += " " + regexp.QuoteMeta(o)
			}
		}
		all = append(all, regexp.MustCompile("^"+p+"$"))
	}
	return all
}

func isMnemonic(n string) bool {
	return slices.ContainsFunc(examples, func(x example) bool { return x.mnemonic == n })
}

func isName(w string) bool {
	return !digitAhead.MatchString(w) && !someDigits.MatchString(w) && !isMnemonic(w)
}

// modelLine is a line as the model reads it: a label, which operation's item, and the texts of its operands.
type modelLine struct {
	label    string
	item     bool
	op       int
	operands []string
}

// modelTokens tells a line's tokens with one blank between two.
func modelTokens(text string) (string, bool) {
	if at := strings.Index(text, ";"); at >= 0 {
		text = text[:at]
	}
	if strings.Trim(tokenShape.ReplaceAllString(text, ""), " ") != "" {
		return "", false
	}
	tokens := tokenShape.FindAllString(text, -1)
	for _, w := range tokens {
		switch {
		case digitAhead.MatchString(w) && !numberShape.MatchString(w),
			someDigits.MatchString(w) && !rightDigits.MatchString(w),
			!digitAhead.MatchString(w) && !someDigits.MatchString(w) && len(w) > 12:
			return "", false
		}
	}
	return strings.Join(tokens, " "), true
}

func modelParse(text string) (modelLine, api.Errno) {
	text, ok := modelTokens(text)
	if !ok {
		return modelLine{}, api.ErrToken
	}
	var l modelLine
	if m := labelShape.FindStringSubmatch(text); m != nil && isName(m[1]) {
		l.label, text = m[1], text[len(m[0]):]
	}
	if text == "" {
		return l, api.OK
	}
	for op, shape := range itemShapes {
		if m := shape.FindStringSubmatch(text); m != nil {
			l.item, l.op, l.operands = true, op, m[1:]
		}
	}
	if !l.item {
		return modelLine{}, api.ErrSyntax
	}
	kinds := strings.Fields(strings.NewReplacer(",", "", "[", "", "]", "", "+", "").Replace(examples[l.op].operands))
	tooGreat := false
	for k, o := range l.operands {
		limit := map[string]int64{"R": 15, "N": 1<<32 - 1, "V": 65535}[kinds[k]]
		if kinds[k] == "V" && isName(o) {
			continue
		}
		if kinds[k] == "V" && !digitAhead.MatchString(o) {
			return modelLine{}, api.ErrSyntax
		}
		n, _ := new(big.Int).SetString(strings.TrimPrefix(o, "r"), 0)
		tooGreat = tooGreat || n.Cmp(big.NewInt(limit)) > 0
	}
	if tooGreat {
		return modelLine{}, api.ErrRange
	}
	return l, api.OK
}

// modelWord lays an item's operands, as numbers, into a word.
func modelWord(op int, n []uint32) uint32 {
	w := uint32(op) << 24
	switch op {
	case 0:
		return n[0]
	case 1, 15, 19:
		return w + n[0]<<20 + n[1]
	case 14, 17, 18:
		return w + n[0]
	case 16, 23:
		return w + n[0]<<16
	case 20:
		return w + n[0]<<16 + n[1]
	case 22:
		return w + n[0]<<20
	case 21, 24, 25:
		return w
	}
	return w + n[0]<<20 + n[1]<<16 + n[2]
}

// model is what Assemble is to answer.
func model(base int, src string) ([]uint32, int, api.Errno) {
	if base < 0 || base > 65535 {
		return nil, 0, api.ErrArg
	}
	if len(src) > 4000 {
		return nil, 0, api.ErrLong
	}
	var all []modelLine
	for k, text := range strings.Split(src, "\n") {
		l, e := modelParse(text)
		if e != api.OK {
			return nil, k + 1, e
		}
		all = append(all, l)
	}
	labels := map[string]int{}
	for k, l := range all {
		if _, ok := labels[l.label]; ok && l.label != "" {
			return nil, k + 1, api.ErrLabel
		}
		ahead := 0
		for _, x := range all[:k] {
			if x.item {
				ahead++
			}
		}
		labels[l.label] = base + 4*ahead
	}
	var words []uint32
	for k, l := range all {
		if !l.item {
			continue
		}
		var numbers []uint32
		for _, o := range l.operands {
			if isName(o) {
				at, ok := labels[o]
				if !ok || at > 65535 {
					return nil, k + 1, api.ErrLabel
				}
				numbers = append(numbers, uint32(at))
				continue
			}
			n, _ := new(big.Int).SetString(strings.TrimPrefix(o, "r"), 0)
			numbers = append(numbers, uint32(n.Uint64()))
		}
		words = append(words, modelWord(l.op, numbers))
	}
	return words, 0, api.OK
}

func holdsAgainstModel(t *testing.T, base int, src string) api.Errno {
	t.Helper()
	want, line, err := model(base, src)
	words, at, e := Assemble(base, src)
	if !slices.Equal(words, want) || at != line || e != err {
		t.Fatalf("Assemble(%d, %q) = %#08x, %d, %v, want %#08x, %d, %v", base, src, words, at, e, want, line, err)
	}
	return e
}

// TestA2AgainstModel holds many sources against the model: right ones, such with a few faults, and heaps of pieces.
func TestA2AgainstModel(t *testing.T) {
	r := newSource(3)
	seen := map[api.Errno]int{}
	for range 8000 {
		seen[holdsAgainstModel(t, bases[r.below(len(bases))], randomSource(r))]++
	}
	for _, e := range []api.Errno{api.OK, api.ErrToken, api.ErrSyntax, api.ErrLabel, api.ErrRange} {
		if seen[e] < 100 {
			t.Errorf("%v was answered %d times only", e, seen[e])
		}
	}
	for range 8000 {
		src := ""
		for range r.below(10) {
			src += pieces[r.below(len(pieces))]
			if r.below(2) == 0 {
				src += " "
			}
		}
		holdsAgainstModel(t, bases[r.below(len(bases))], src)
	}
}

// FuzzA2AgainstModel does so with sources that the fuzzer finds.
func FuzzA2AgainstModel(f *testing.F) {
	for _, x := range examples {
		f.Add(0, x.item)
	}
	f.Add(65535, "a: nop\nb: beq r1, r2, a ; x\njmp b")
	f.Add(-1, "x:\nx:\xff")
	f.Fuzz(func(t *testing.T, base int, src string) { holdsAgainstModel(t, base, src) })
}

// TestR1NoPanics hands over what is no source at all, cut at each byte.
func TestR1NoPanics(t *testing.T) {
	whole := "a: nop ; x\n\nb : beq r1, [r2 + 0xff]\nldr r15, [r0 + b]\n\xff\xc3é: word 4294967296,\n:::[]+r16 r00"
	for k := range len(whole) + 1 {
		holdsAgainstModel(t, 0, whole[:k])
		holdsAgainstModel(t, 0, whole[k:])
	}
	for _, base := range farNumbers {
		holdsAgainstModel(t, base, whole)
	}
}

// TestR5NothingIsShared changes what was told, and looks at what was handed over.
func TestR5NothingIsShared(t *testing.T) {
	src := lines("a: nop", "word 7", "jmp a")
	want := []uint32{0x19000000, 7, 0x0e000008}
	for range 3 {
		words, _, _ := Assemble(8, src)
		if !slices.Equal(words, want) {
			t.Fatalf("Assemble(8, %q) = %#08x, want %#08x", src, words, want)
		}
		clear(words)
		words = append(words[:1], 5, 6, 7, 8, 9)
		clear(words[:cap(words)])
	}
	handed := []uint32{0, 0x19000000, 0x07120008, 0xffffffff}
	kept := slices.Clone(handed)
	text := Print(handed[:3]...)
	if !slices.Equal(handed, kept) {
		t.Errorf("Print changed what it was handed: %#08x", handed)
	}
	clear(handed)
	if want := "word 0x00000000\nnop\nldr r1, [r2 + 8]\n"; text != want {
		t.Errorf("Print told %q, want %q", text, want)
	}
}

// TestR6SameAnswers asks again, with other questions between.
func TestR6SameAnswers(t *testing.T) {
	r := newSource(4)
	type asked struct {
		base int
		src  string
	}
	var all []asked
	for range 300 {
		all = append(all, asked{bases[r.below(len(bases))], randomSource(r)})
	}
	first := make([]string, len(all))
	for round := range 3 {
		for k, x := range all {
			words, line, e := Assemble(x.base, x.src)
			told := fmt.Sprint(words, line, int(e), Print(words...), Mnemonic(k%30))
			if round == 0 {
				first[k] = told
			} else if told != first[k] {
				t.Errorf("Assemble(%d, %q): %s, and before %s", x.base, x.src, told, first[k])
			}
		}
	}
}
