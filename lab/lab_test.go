package lab

import (
	"errors"
	"slices"
	"strconv"
	"strings"
	"testing"

	"viceroy/api"
)

// lines makes a script of lines that are parted as the document parts them.
func lines(text string) string { return strings.ReplaceAll(text, "/", lineEnd) }

// saying fails, if a script of such lines says anything else.
func saying(t *testing.T, script, want string) {
	t.Helper()
	if want != "" {
		want += "/"
	}
	got, line, e := Run(lines(script))
	if got != lines(want) || line != 0 || e != api.OK {
		t.Errorf("%s: %q, %d, %v, not %q", script, got, line, e, lines(want))
	}
}

// wrongAt fails, if a script is not wrong in that line.
func wrongAt(t *testing.T, script string, want int) {
	t.Helper()
	if got, line, e := Run(lines(script)); got != "" || line != want || e != api.ErrScript {
		t.Errorf("%q: %q, %d, %v, not ErrScript, %d", script, got, line, e, want)
	}
}

// one is a program of a thread that does what stands in source; its things lie from 1 on: its thread, its node, its root, its table, its code, its data.
func one(source string) string {
	return "boot 64 1 1 1/prog 5 0 0 0 1/" + coded(source) + "start/"
}

// coded makes lines of a program.
func coded(source string) string {
	script := ""
	for _, line := range strings.Split(source, ",, ") {
		script += "code " + line + "/"
	}
	return script
}

func TestExamples(t *testing.T) {
	saying(t, "boot 64 1 1 0/prog 5 0 0 0 0/share 4 0 3 0/code movi r0, 1/code svc 4/start/steps 2/who/state 1/sound", "ok/6 0/-1/3 6 on/0")
	saying(t, "boot 64 1 0 0/prog 5 0 0 0 0/code nop x/start/step", "error 61 at 1 of 0/error 194")
	saying(t, "start/who/share 1 0 0 0", "error 192/error 194/error 192")
	for _, line := range []string{"boot 1", " tick", "irq 01", "code"} {
		wrongAt(t, line, 1)
	}
}

// words are all that the table has, each with how many numbers it wants.
func words() map[string]int {
	return map[string]int{"boot": 4, "turn": 2, "piece": 1, "prog": 5, "share": 4, "start": 0, "step": 0, "steps": 1, "tick": 0, "irq": 1, "evict": 1, "read": 2, "write": 3, "who": 0, "sum": 0, "sound": 0, "reg": 2, "state": 1, "word": 1, "slot": 2}
}

func TestArguments(t *testing.T) {
	for word, many := range words() {
		for n := range 8 {
			line := word + strings.Repeat(" 1", n)
			if n != many {
				wrongAt(t, line, 1)
				continue
			}
			if _, _, e := Run(line); e != api.OK {
				t.Error(line, e)
			}
			for _, wrong := range []string{line + " ", " " + line, line + "\t", line + "\r", line + ",", line + "x", strings.ToUpper(line), line + " #", line[1:]} {
				wrongAt(t, wrong, 1)
			}
			if many == 0 {
				continue
			}
			for _, wrong := range []string{"", " 1", "-1", "+1", "01", "00", "1a", "a", "0x1", "1.", "1_0", "１", "1000000000", "0000000001", "1\x00"} {
				wrongAt(t, strings.TrimSuffix(line, "1")+wrong, 1)
				wrongAt(t, word+" "+wrong+strings.Repeat(" 1", many-1), 1)
			}
			for _, right := range []string{"0", "9", "10", "100000000", "999999999"} {
				if _, _, e := Run(strings.TrimSuffix(line, "1") + right); e != api.OK {
					t.Error(line, right, e)
				}
			}
		}
	}
}

func TestOtherLines(t *testing.T) {
	saying(t, "", "")
	saying(t, "//#/# tick 1/#boot/", "")
	for _, line := range []string{" ", "\t", "\r", "\x00", " #", " # x", "x", "codex", "code", "Code x", "code\tx", " code x", "no such word", "é", "\xff", "boot  64 1 1 1", "boot 64 1 1  1", "boot,64", "sounds", "step 1"} {
		wrongAt(t, line, 1)
	}
	for _, text := range []string{"", " ", "x", " #", "code", "\xff\x00", "; é", "1 2 3"} {
		saying(t, "code "+text, "error 192")
	}
	wrongAt(t, "tick//# x/nothing", 4)
	wrongAt(t, "////x/y", 5)
	wrongAt(t, one("nop")+"step/tick /x", 6)
	// No line is played, if one is wrong; and the last one is one without an end.
	wrongAt(t, "start/who/who/x", 4)
	wrongAt(t, "start/x/", 2)
}

func TestLimits(t *testing.T) {
	long := func(script string) {
		t.Helper()
		if got, line, e := Run(script); got != "" || line != 0 || e != api.ErrLong {
			t.Errorf("%d bytes: %q, %d, %v", len(script), got, line, e)
		}
	}
	remarks := strings.Repeat("#", api.MaxScript)
	saying(t, remarks, "")
	long(remarks + "#")
	long(remarks + "\n")
	long(strings.Repeat("x", api.MaxScript+1))
	saying(t, strings.Repeat("/", api.MaxLines), "")
	long(strings.Repeat("\n", api.MaxLines+1))
	long(strings.Repeat("\n", api.MaxLines) + "x")
	saying(t, strings.Repeat("who/", api.MaxLines), strings.Repeat("error 194/", api.MaxLines-1)+"error 194")
	saying(t, strings.Repeat("who/", api.MaxLines-1)+"who", strings.Repeat("error 194/", api.MaxLines-1)+"error 194")
	long(strings.Repeat("who\n", api.MaxLines) + "who")
	long(strings.Repeat("x\n", api.MaxLines+1))
	wrongAt(t, strings.Repeat("/", api.MaxLines-1)+"x", api.MaxLines)
	wrongAt(t, remarks[:api.MaxScript-2]+"/x", 2)
}

// TestDescriptor: what each line writes is seen of the machine.
func TestDescriptor(t *testing.T) {
	// Frames: all things lie below 8; word 508 is the last one.
	saying(t, "boot 8 1 1 1/prog 5 0 0 0 0/code nop/start/word 508/word 512/boot 8 1 1 2/prog 5 0 0 0 0/code nop/start/boot 9 1 1 2/prog 5 0 0 0 0/code nop/start", "ok/0/error 10/error 192/ok")
	// Lrs are 1 to 16.
	saying(t, "boot 64 0 1 1/prog 5 0 0 0 0/code nop/start/boot 64 16 0 0/prog 5 0 0 0 0/code nop/start/boot 64 17 0 0/prog 5 0 0 0 0/code nop/start", "error 192/ok/error 192")
	// Endpoints, Notes: in this order behind a program's five things.
	saying(t, "boot 64 1 2 1/prog 5 0 0 0 0/share 4 1 3 9/share 5 0 2 8/share 1 0 0 0/piece 4/piece 1/start/slot 2 1/slot 2 2/slot 2 3/slot 2 4/slot 2 0/slot 2 16/slot 3 0", "ok/4 7 3 9/5 8 2 8/1 12 0 0/0 0 0 0/0 0 0 0/error 1/error 120")
	saying(t, "boot 64 1 1 0/prog 5 0 0 0 0/share 4 1 3 0/start", "error 192")
	saying(t, "boot 64 1 0 0/piece 3/prog 5 0 0 0 0/start", "error 192")
	// The most urgent one runs; a program's things are nine with a guest's and three of data.
	saying(t, "boot 64 1 0 0/prog 5 0 0 1 3/prog 6 0 0 0 0/start/who/state 10/boot 64 1 0 0/prog 6 0 0 7 2/prog 5 0 0 0 0/start/who/state 9/reg 1 23", "ok/10/0 -1 on/ok/1/0 -1 on/8")
	// Domains take turns.
	saying(t, "boot 64 1 0 0/turn 1 2/turn 0 1/prog 5 0 0 0 0/prog 5 1 0 0 0/start/who/tick/who/tick/who/tick/who", "ok/6/0 0/6/0 0/1/0 0/6")
	saying(t, "boot 64 1 0 0/turn 4 1/prog 5 0 0 0 0/start", "error 192")
	// The handler's address is where the endpoint is: in the slot 1 of the first one, that is in none of the second one's.
	saying(t, "boot 64 1 1 0/prog 5 0 1 0 0/share 4 0 10 3/code hvc 9/start/step/state 1", "ok/8 101/2 6 on")
	saying(t, "boot 64 1 1 0/prog 5 0 2 0 0/share 4 0 10 3/code hvc 9/start/step/state 1", "ok/8 101/0 -1 off")
	// A share is the last program's.
	saying(t, "boot 64 1 1 0/prog 5 0 0 0 0/share 4 0 1 0/prog 5 0 0 0 0/share 4 0 2 7/start/slot 2 1/slot 7 1/slot 2 2", "ok/4 11 1 0/4 11 2 7/0 0 0 0")
	// Shares that may not be, and things that do not fit.
	saying(t, "boot 64 1 1 0/prog 5 0 0 0 0/share 4 0 4 0/start", "error 192")
	saying(t, "boot 64 1 0 0/prog 64 0 0 0 0/start/boot 64 1 0 0/prog 5 4 0 0 0/start/boot 64 1 0 0/prog 5 0 65536 0 0/start/boot 64 1 0 0/prog 5 0 0 0 5/start", "error 192/error 192/error 192/error 192")
	saying(t, "boot 999999999 999999999 999999999 999999999/turn 999999999 999999999/piece 999999999/prog 999999999 999999999 999999999 999999999 999999999/share 999999999 999999999 999999999 999999999/start", "error 192")
}

// TestAnew: boot takes away all that was written, and nothing that was started.
func TestAnew(t *testing.T) {
	saying(t, "prog 64 0 0 0 0/turn 9 9/piece 3/boot 64 1 0 0/prog 5 0 0 0 0/start", "ok")
	saying(t, "prog 5 0 0 0 0/code x y/boot 64 1 0 0/prog 5 0 0 0 0/code nop/start", "ok")
	saying(t, "prog 5 0 0 0 0/boot 64 1 0 0/share 4 0 3 0/code nop/start", "error 192/error 192/error 192")
	saying(t, one("movi r1, 7")+"step/boot 64 1 0 0/who/reg 1 1/sound/share 4 0 3 0/step/reg 1 16", "ok/0 0/1/7/0/error 192/8 101/4")
	saying(t, "share 4 0 3 0/code nop/prog 5 0 0 0 0/share 4 0 3 0/code nop/start/who", "error 192/error 192/error 192/error 194")
}

func TestStart(t *testing.T) {
	// The first program with an error is told, and its first line.
	saying(t, "boot 64 1 0 0/prog 5 0 0 0 0/code nop/prog 5 0 0 0 0/code nop/code /code movi r1/code x:x:/prog 5 0 0 0 0/code $/start", "error 61 at 3 of 1")
	saying(t, "prog 5 0 0 0 0/code jmp x/start/code x:/start", "error 62 at 1 of 0/error 192")
	saying(t, "prog 5 0 0 0 0/code movi r16, 0/start", "error 63 at 1 of 0")
	saying(t, "boot 64 1 0 0/prog 5 0 0 0 0/code #/start", "error 60 at 1 of 0")
	// A source's lines are one behind the other, each with its end: 4000 bytes are the most.
	text := "code " + strings.Repeat(" ", api.MaxSource/2-1) + "/"
	saying(t, "boot 64 1 0 0/prog 5 0 0 0 0/"+text+text+"start", "ok")
	saying(t, "boot 64 1 0 0/prog 5 0 0 0 0/"+text+text+"code /start", "error 2 at 0 of 0")
	// Labels' addresses begin at 0; what stands between lines' blanks is the text's.
	saying(t, "boot 64 1 0 0/prog 5 0 0 0 0/code nop/code a: movi  r1 , a;b/code   movi r2, 9/start/steps 3/reg 1 1/reg 1 2", "ok/0 0/4/9")
	// 16 words are the most.
	full := strings.Repeat("code nop/", 16)
	saying(t, "boot 64 1 0 0/prog 5 0 0 0 0/"+full+"start/code nop/start/step", "ok/error 192/error 194")
	// No code at all; a fetch finds noughts, which are no instruction.
	saying(t, "boot 64 1 0 0/prog 5 0 0 0 0/start/step/state 1", "ok/8 101/0 -1 off")
	// Each start is of a machine anew, and what stands behind it is of the next one.
	saying(t, one("movi r1, 7")+"step/reg 1 1/prog 6 0 0 0 0/code movi r2, 8/who/reg 7 2/start/reg 1 1/who/step/reg 7 2", "ok/0 0/7/1/error 150/ok/0/7/0 0/8")
	// At an error there is no machine.
	saying(t, one("nop")+"who/code x y/start/who/step", "ok/1/error 61 at 2 of 0/error 194/error 194")
	saying(t, one("nop")+"who/turn 9 9/start/who/step", "ok/1/error 192/error 194/error 194")
}

func TestNoMachine(t *testing.T) {
	for word, many := range words() {
		if slices.Contains([]string{"boot", "turn", "piece", "prog", "share", "start"}, word) {
			continue
		}
		saying(t, word+strings.Repeat(" 999999999", many), "error 194")
		saying(t, word+strings.Repeat(" 0", many), "error 194")
	}
}

func TestEvents(t *testing.T) {
	saying(t, one("movi r1, 7,, svc 99,, str r1, [r1 + 1],, svc 8")+"step/step/step/step/step", "ok/0 0/6 190/3 101/0 194/0 194")
	saying(t, one("nop")+"tick/irq 0/irq 15/irq 16/irq 999999999/evict 0/evict 7/evict 8", "ok/0 0/0 0/0 0/0 193/0 193/0 0/0 0/0 193")
	saying(t, one("nop")+"read 0 0/read 15 65535/read 16 0/read 0 65536/write 15 65535 255/write 16 0 0/write 0 65536 0/write 0 0 256/write 0 0 999999999", "ok/0 101/0 101/0 193/0 193/0 101/0 193/0 193/0 193/0 193")
}

// attaches lets the stream 3 have the thread's space.
const attaches = "boot 64 1 0 0/prog 5 0 0 0 1/share 9 3 0 0/share 7 0 0 0/code movi r0, 1/code movi r1, 320/code movi r6, 2/code svc 2/start/steps 4/"

func TestDevices(t *testing.T) {
	saying(t, attaches+"reg 1 15/write 3 65 9/read 3 65/read 3 64/word 384/write 4 65 8/read 2 65/write 3 0 1/read 3 0/word 384", "ok/6 0/0/9 0/9 0/0 0/2304/0 101/0 101/0 101/1 0/2304")
}

func TestSteps(t *testing.T) {
	const counts = "movi r2, 1,, a: add r1, r1, r2,, jmp a"
	saying(t, one(counts)+"steps 0/reg 1 16/steps 1/reg 1 1/steps 5/reg 1 1", "ok/0 0/0/0 0/0/0 0/3")
	// 200 at most: one, and 199 of the loop of two.
	for _, many := range []string{"200", "201", "999999999"} {
		saying(t, one(counts)+"steps "+many+"/reg 1 1/reg 1 16", "ok/0 0/100/8")
	}
	saying(t, one(counts)+"steps 199/reg 1 1/reg 1 16/steps 200/reg 1 1", "ok/0 0/99/4/0 0/199")
	// They go on behind any other error, and the last one's is told.
	saying(t, one("svc 99,, svc 98,, nop,, svc 97,, hvc 1")+"steps 2/steps 1/steps 1/steps 1/steps 9", "ok/6 190/0 0/6 190/8 101/0 194")
	saying(t, one("svc 99,, nop")+"steps 2/steps 200/who", "ok/0 0/0 194/-1")
	// What stands behind is played, though they ended early.
	saying(t, one("hvc 1")+"steps 200/tick/state 1", "ok/0 194/0 0/0 -1 off")
}

// everyRegister is of a guest that sets some of its registers, and of its system registers.
const everyRegister = "movi r15, 77,, movi r2, 1,, sub r0, r0, r2,, movi r1, 65535,, msr r1, 2,, msr r1, 4,, msr r15, 1"

func TestRegisters(t *testing.T) {
	guest := "boot 64 1 1 1/prog 5 0 0 1 0/" + coded(everyRegister) + "start/steps 7/"
	want := []string{"4294967295", "65535", "1", "0", "0", "0", "0", "0", "0", "0", "0", "0", "0", "0", "0", "77", "28"}
	system := []string{"0", "77", "65535", "0", "65535", "0", "6", "0"}
	script, said := guest, "ok/0 0"
	for n, w := range append(want, system...) {
		script += "reg 1 " + list(n) + "/"
		said += "/" + w
	}
	saying(t, script, said)
	// A thread that is no guest has no system registers; there are 25 numbers, and a thread first.
	saying(t, one("nop")+"reg 1 17/reg 1 24/reg 1 25/reg 1 999999999/reg 2 0/reg 2 25/reg 0 0/reg 999999999 999999999", "ok/0/0/error 1/error 1/error 150/error 150/error 150/error 150")
}

func TestStates(t *testing.T) {
	saying(t, one("hvc 1")+"state 1/step/state 1/state 2/state 999999999", "ok/0 -1 on/8 101/0 -1 off/0 -1 on/0 -1 on")
	saying(t, "boot 64 1 1 0/prog 5 0 0 0 0/share 4 0 3 0/code movi r0, 1/code svc 2/start/steps 2/state 1", "ok/6 0/2 6 on")
	saying(t, "boot 64 1 0 1/prog 5 0 0 0 0/share 5 0 1 0/code movi r0, 1/code svc 4/start/steps 2/state 1", "ok/6 0/5 6 on")
}

func TestMemory(t *testing.T) {
	saying(t, one("word 4294967295,, word 17")+"word 320/word 324/word 321/word 4092/word 4096/word 999999996/word 999999999", "ok/4294967295/17/error 11/0/error 10/error 10/error 11")
	// Two words that change places are another sum; and sums are of 32 bits.
	for _, source := range []string{"word 1,, word 0", "word 0,, word 1", "word 4294967295,, word 4294967295", "word 2147483648,, word 3"} {
		script := "boot 8 1 0 0/prog 5 0 0 0 0/" + coded(source) + "start/"
		saying(t, script+"sum/sum", "ok/"+summed(t, script)+"/"+summed(t, script))
	}
}

// summed tells the sum of the memory of a machine of eight frames, as its words tell it.
func summed(t *testing.T, script string) string {
	t.Helper()
	for n := range 8 * 16 {
		script += "word " + strconv.Itoa(4*n) + "/"
	}
	text, _, e := Run(lines(script))
	said := strings.Split(text, lineEnd)
	if e != api.OK || len(said) != 1+8*16+1 {
		t.Fatal(said, e)
	}
	var sum uint64
	for n, w := range said[1 : 1+8*16] {
		word, err := strconv.ParseUint(w, 10, 32)
		if err != nil {
			t.Fatal(err)
		}
		sum = (sum + word*uint64(n+1)) % (1 << 32)
	}
	return strconv.FormatUint(sum, 10)
}

func TestSound(t *testing.T) {
	saying(t, one("nop")+"sound/step/sound/tick/sound", "ok/0/0 0/0/0 0/0")
	// It is asked of the descriptor as it was at the start: of the later ones the data would be nobody's.
	saying(t, "boot 64 1 0 0/prog 5 0 0 0 2/start/sound/boot 64 1 0 0/prog 5 0 0 0 0/sound/code nop/sound/start/sound", "ok/0/0/0/ok/0")
}

// TestWrongLine: what is wrong with a line is an error of its own, that wraps the number of all layers.
func TestWrongLine(t *testing.T) {
	orders, err := read("tick\n\nx")
	var wrong wrongLine
	if orders != nil || !errors.As(err, &wrong) || wrong.number != 3 || !errors.Is(err, api.ErrScript) {
		t.Error(orders, err)
	}
	if err.Error() != "viceroy: line 3 of the script is none of the table" {
		t.Error(err)
	}
	_, err = read(strings.Repeat("\n", api.MaxLines+1))
	if errors.As(err, &wrong) || err != api.ErrLong {
		t.Error(err)
	}
}
