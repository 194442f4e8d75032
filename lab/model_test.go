package lab

import (
	"fmt"
	"regexp"
	"slices"
	"strings"
	"testing"

	"viceroy/api"
	"viceroy/asm"
	"viceroy/confine"
	"viceroy/kernel"
)

// model plays scripts as the chapter's table stands there, line by line, and keeps the descriptor as the lines that wrote it.
type model struct {
	written []entry
	k       *kernel.Kernel
	started api.Boot
}

// entry is a line of the descriptor.
type entry struct {
	word    string
	numbers []int
	text    string
}

// modelForms are the lines of the table, each as it is written.
func modelForms() map[string]*regexp.Regexp {
	forms := map[string]*regexp.Regexp{"code": regexp.MustCompile(`(?s)\Acode (.*)\z`)}
	for word, many := range words() {
		forms[word] = regexp.MustCompile(`\A` + word + strings.Repeat(` (0|[1-9][0-9]{0,8})`, many) + `\z`)
	}
	return forms
}

// modelRead reads a line; false, if it is none of the table.
func modelRead(forms map[string]*regexp.Regexp, line string) (entry, bool) {
	for word, form := range forms {
		found := form.FindStringSubmatch(line)
		if found == nil {
			continue
		}
		if word == "code" {
			return entry{word: word, text: found[1]}, true
		}
		e := entry{word: word}
		for _, s := range found[1:] {
			var n int
			fmt.Sscan(s, &n)
			e.numbers = append(e.numbers, n)
		}
		return e, true
	}
	return entry{}, false
}

func modelRun(forms map[string]*regexp.Regexp, script string) (string, int, api.Errno) {
	text := regexp.MustCompile(`(?s)[^\n]*\n|[^\n]+\z`).FindAllString(script, -1)
	if len(script) > 12000 || len(text) > 240 {
		return "", 0, api.ErrLong
	}
	var entries []entry
	for k, line := range text {
		line = strings.TrimSuffix(line, "\n")
		if line == "" || line[0] == '#' {
			continue
		}
		e, ok := modelRead(forms, line)
		if !ok {
			return "", k + 1, api.ErrScript
		}
		entries = append(entries, e)
	}
	var m model
	told := ""
	for _, e := range entries {
		told += m.play(e)
	}
	return told, 0, api.OK
}

// play tells what a line says, with its end.
func (m *model) play(e entry) string {
	switch e.word {
	case "boot":
		m.written = nil
		fallthrough
	case "turn", "piece", "prog":
		m.written = append(m.written, e)
		return ""
	case "share", "code":
		if !slices.ContainsFunc(m.written, func(e entry) bool { return e.word == "prog" }) {
			return "error 192\n"
		}
		m.written = append(m.written, e)
		return ""
	case "start":
		return m.start() + "\n"
	}
	if m.k == nil {
		return "error 194\n"
	}
	return m.ask(e) + "\n"
}

// start goes through what was written from its beginning on.
func (m *model) start() string {
	m.k = nil
	var b api.Boot
	var sources []string
	for _, e := range m.written {
		n := e.numbers
		last := len(b.Progs) - 1
		switch e.word {
		case "boot":
			b = api.Boot{Frames: n[0], Lrs: n[1], Endpoints: n[2], Notes: n[3]}
		case "turn":
			b.Table = append(b.Table, api.Turn{Domain: n[0], Ticks: n[1]})
		case "piece":
			b.Pieces = append(b.Pieces, n[0])
		case "prog":
			b.Progs = append(b.Progs, api.Prog{Priority: n[0], Domain: n[1], Handler: n[2], Guest: n[3] != 0, Data: n[4]})
			sources = append(sources, "")
		case "share":
			b.Progs[last].Shares = append(b.Progs[last].Shares, api.Share{Kind: n[0], N: n[1], Rights: n[2], Badge: n[3]})
		case "code":
			sources[last] += e.text + "\n"
		}
	}
	for p, source := range sources {
		words, line, e := asm.Assemble(0, source)
		if e != api.OK {
			return fmt.Sprintf("error %d at %d of %d", int(e), line, p)
		}
		b.Progs[p].Code = words
	}
	k, e := kernel.New(b)
	if e != api.OK {
		return "error 192"
	}
	m.k, m.started = k, b
	return "ok"
}

// ask does an event, or answers a question.
func (m *model) ask(e entry) string {
	n := append(e.numbers, 0, 0, 0)
	orError := func(e api.Errno, told string) string {
		if e != api.OK {
			return fmt.Sprintf("error %d", int(e))
		}
		return told
	}
	switch e.word {
	case "steps":
		told := "0 0"
		for i := 0; i < n[0] && i < 200 && told != "0 194"; i++ {
			told = m.event(api.Event{Kind: 1})
		}
		return told
	case "who":
		return fmt.Sprint(m.k.Current())
	case "sum":
		sum := 0
		for i := 0; i < 16*m.k.Frames(); i++ {
			w, _ := m.k.Load(4*i, 4)
			sum = (sum + int(w)*(i+1)) % (1 << 32)
		}
		return fmt.Sprint(sum)
	case "sound":
		return fmt.Sprint(confine.Check(m.started, confine.See(m.k)))
	case "reg":
		c, err := m.k.Cpu(n[0])
		all := append(append(slices.Clone(c.Regs[:]), uint32(c.Pc)), c.Sys[:]...)
		if err == api.OK && n[1] >= len(all) {
			return "error 1"
		}
		return orError(err, fmt.Sprint(all[min(n[1], 24)]))
	case "state":
		state, on, off := m.k.State(n[0])
		return fmt.Sprintf("%d %d %s", state, on, map[bool]string{true: "off", false: "on"}[off])
	case "word":
		w, err := m.k.Load(n[0], 4)
		return orError(err, fmt.Sprint(w))
	case "slot":
		c, err := m.k.Slot(api.Ref{Node: n[0], Index: n[1]})
		return orError(err, fmt.Sprint(c.Kind, c.Obj, c.Rights, c.Badge))
	}
	kinds := map[string]int{"step": 1, "tick": 2, "irq": 3, "read": 4, "write": 4, "evict": 5}
	return m.event(api.Event{Kind: kinds[e.word], N: n[0], At: n[1], Write: e.word == "write", Value: uint32(n[2])})
}

func (m *model) event(e api.Event) string {
	n, err := m.k.Event(e)
	return fmt.Sprintf("%d %d", n, int(err))
}

// dice throw the same numbers each time.
type dice struct{ x uint64 }

func (d *dice) throw(n int) int {
	d.x = d.x*6364136223846793005 + 1442695040888963407
	return int(d.x>>33) % n
}

func (d *dice) pick(l ...string) string { return l[d.throw(len(l))] }

func (d *dice) pickNumber(l ...int) int { return l[d.throw(len(l))] }

// near is a number that is about a bound.
func (d *dice) near(n int) int { return max(n+d.throw(3)-1, 0) }

// code is a program's lines.
func (d *dice) code() []string {
	var all []string
	for range 1 + d.throw(5) {
		switch d.throw(3) {
		case 0:
			all = append(all, d.instruction(), d.instruction())
		case 1:
			all = append(all, fmt.Sprintf("movi r0, %d", d.throw(5)), d.pick("svc 1", "svc 2", "svc 4", "svc 4"))
		default:
			all = append(all, fmt.Sprintf("movi r0, %d", d.throw(5)), fmt.Sprintf("movi r1, %d", 16*(1+d.throw(23))+d.throw(5)), "svc 2")
		}
	}
	if len(all) < 16 {
		all = append(all, d.pick("wfi", "jmp 0", "hvc 3", "svc 8", "nop"))
	}
	if d.throw(12) == 0 {
		all[d.throw(len(all))] = d.pick("a: nop", "movi r1, a", "movi r16, 0", "nop nop", "nop $")
	}
	return all
}

// instruction is one that makes sense often enough.
func (d *dice) instruction() string {
	switch d.throw(8) {
	case 0, 1, 2:
		return fmt.Sprintf("movi r%d, %d", d.throw(9), d.pickNumber(d.throw(8), d.throw(64), 64, 128, d.throw(65536)))
	case 3:
		return fmt.Sprintf("%s r%d, [r%d + %d]", d.pick("ldr", "str", "ldrb", "strb"), d.throw(9), d.throw(9), d.pickNumber(0, 4, 64, 68, d.throw(200)))
	case 4:
		return fmt.Sprintf("%s r%d, r%d, r%d", d.pick("add", "sub", "and", "xor", "shl"), d.throw(9), d.throw(9), d.throw(9))
	case 5:
		return fmt.Sprintf("%s r%d, r%d, %d", d.pick("beq", "bne", "blt"), d.throw(9), d.throw(9), 4*d.throw(16))
	case 6:
		return fmt.Sprintf("%s r%d, %d", d.pick("mrs", "msr"), d.throw(9), d.throw(9))
	}
	return d.pick("wfi", "tlbi", "nop", "jmp 0", "hvc 3", "iar r1", "eoi r1", "jr r0", "jal r3, 8", "svc 8", "svc 9", "word 0", "; a remark", "", "word 2147483648")
}

// share is a line of one for one of some programs, that may be often enough; those things that may be shared once alone are told by once.
func (d *dice) share(programs int, once map[string]bool) string {
	switch d.throw(24) {
	case 0:
		return fmt.Sprintf("share %d %d %d %d", d.throw(13), d.throw(18), d.throw(17), d.throw(3))
	case 1, 2, 3, 4, 5, 6, 7, 8:
		return fmt.Sprintf("share 4 %d %d %d", d.throw(2), d.pickNumber(1, 2, 3, 10, 11), d.throw(9))
	case 9, 10, 11:
		return fmt.Sprintf("share 5 0 %d %d", 1+d.throw(3), d.throw(9))
	case 12, 13, 14:
		return fmt.Sprintf("share 3 %d 0 0", d.throw(programs))
	case 15:
		return fmt.Sprintf("share 2 %d 0 0", programs-1)
	}
	line := fmt.Sprintf("share %s %d 0 0", d.pick("1", "7", "9", "10"), d.throw(2))
	if once[line] {
		return ""
	}
	once[line] = true
	return line
}

// descriptor is lines that write one, mostly one that may be.
func (d *dice) descriptor() []string {
	script := []string{fmt.Sprintf("boot %d %d 2 1", d.pickNumber(64, 64, 64, 64, d.near(20), d.near(1024)), d.pickNumber(1, 1, 4, d.near(16)))}
	for range d.throw(3) {
		script = append(script, fmt.Sprintf("turn %d %d", d.throw(2), 1+d.throw(4)))
	}
	script = append(script, "piece 4", fmt.Sprintf("piece %d", d.pickNumber(1, 4, 8, 16, 16, 16, 16, d.throw(20))))
	once := map[string]bool{}
	programs := 1 + d.throw(3)
	for range programs {
		script = append(script, fmt.Sprintf("prog %d %d %d %d %d", d.pickNumber(5, 5, 5, 5, 5, 6, d.near(63)), d.pickNumber(0, 0, 0, 1), d.throw(3), d.throw(2), d.pickNumber(0, 1, 2, 4)))
		for range d.throw(4) {
			script = append(script, d.share(programs, once))
		}
		for _, line := range d.code() {
			script = append(script, "code "+line)
		}
	}
	return script
}

func (d *dice) question() string {
	switch d.throw(8) {
	case 0:
		return "who"
	case 1:
		return "sum"
	case 2:
		return "sound"
	case 3:
		return fmt.Sprintf("reg %d %d", d.pickNumber(1, 1, 6, 7, d.throw(20)), d.throw(27))
	case 4:
		return fmt.Sprintf("state %d", d.pickNumber(1, 1, 6, 7, d.throw(20)))
	case 5:
		return fmt.Sprintf("word %d", d.pickNumber(320, 324, 4*d.throw(1024), d.near(4096)))
	}
	return fmt.Sprintf("slot %d %d", d.pickNumber(2, 2, 7, 8, d.throw(20)), d.throw(17))
}

func (d *dice) happening() string {
	switch d.throw(8) {
	case 0:
		return "tick"
	case 1:
		return fmt.Sprintf("irq %d", d.throw(18))
	case 2:
		return fmt.Sprintf("read %d %d", d.throw(3), d.pickNumber(d.throw(65), 64, 65536))
	case 3:
		return fmt.Sprintf("write %d %d %d", d.throw(17), d.throw(130), d.throw(260))
	case 4:
		return fmt.Sprintf("evict %d", d.throw(9))
	case 5:
		return fmt.Sprintf("steps %d", d.pickNumber(0, d.throw(20), d.near(200), 999999999))
	}
	return "step"
}

func (d *dice) nothing() string { return d.pick("", "#", "# tick", "#x y z", "") }

// script is of one or two machines.
func (d *dice) script() []string {
	var script []string
	if d.throw(4) == 0 {
		script = append(script, d.happening(), d.question(), "share 4 0 3 0", "code nop")
	}
	for range 1 + d.throw(2) {
		script = append(script, d.descriptor()...)
		script = append(script, "start")
		for range d.throw(20) {
			switch d.throw(16) {
			case 0:
				script = append(script, d.nothing())
			case 1:
				script = append(script, "share 4 0 3 0", "piece 1", "code nop")
			case 2, 3, 4, 5:
				script = append(script, d.question())
			default:
				script = append(script, d.happening())
			}
		}
	}
	return script
}

// spoil exchanges, adds or takes away some bytes.
func (d *dice) spoil(script string) string {
	b := []byte(script)
	for range 1 + d.throw(2) {
		at := d.throw(len(b) + 1)
		sign := []byte(d.pick(" ", "\n", "0", "1", "#", "x", "\t", "-", "\xff", "9"))
		switch {
		case d.throw(3) == 0:
			b = slices.Insert(b, at, sign...)
		case at == len(b):
		case d.throw(2) == 0:
			b[at] = sign[0]
		default:
			b = slices.Delete(b, at, at+1)
		}
	}
	return string(b)
}

func TestThrown(t *testing.T) {
	d := &dice{}
	forms := modelForms()
	seen := map[string]int{}
	for range 4000 {
		script := strings.Join(d.script(), "\n") + d.pick("", "\n", "\n\n")
		if d.throw(3) == 0 {
			script = d.spoil(script)
		}
		got, line, e := Run(script)
		want, wantLine, wantE := modelRun(forms, script)
		if got != want || line != wantLine || e != wantE {
			t.Fatalf("%q: %q, %d, %v, not %q, %d, %v", script, got, line, e, want, wantLine, wantE)
		}
		seen[e.Error()]++
		seen[fmt.Sprint(strings.Contains(got, "ok\n"))]++
		for _, said := range strings.Split(got, "\n") {
			seen[said]++
		}
	}
	for _, said := range []string{"ok", "error 192", "error 194", "error 150", "error 10", "error 11", "error 1", "error 120", "error 60 at 1 of 0", "0 0", "0 194", "0 193", "0 101", "6 0", "6 190", "3 101", "5 101", "9 0", api.ErrScript.Error()} {
		if seen[said] < 3 {
			t.Errorf("%q was said %d times", said, seen[said])
		}
	}
}

// TestNothing: empty lines, remarks and questions change nothing of what others say; what a line says hangs on those ahead of it alone; and all is sound.
func TestNothing(t *testing.T) {
	d := &dice{x: 7}
	for range 150 {
		script := d.script()
		script = script[:min(len(script), 120)]
		ahead, bare := "", ""
		told, bareTold := "", ""
		for _, line := range script {
			ahead, bare = ahead+line+"\n", bare+line+"\n"
			next, _, e := Run(ahead)
			bareNext, _, bareE := Run(bare)
			if e != api.OK || bareE != api.OK || !strings.HasPrefix(next, told) || !strings.HasPrefix(bareNext, bareTold) {
				t.Fatalf("%q: %q, %v, behind %q", ahead, next, e, told)
			}
			if next[len(told):] != bareNext[len(bareTold):] {
				t.Fatalf("%q: %q, but %q without %q", bare, bareNext, next, ahead)
			}
			told, bareTold = next, bareNext
			for range d.throw(2) {
				without := d.pick(d.nothing(), d.question(), "sound")
				ahead += without + "\n"
				told = testNothing(t, ahead, told, without)
			}
		}
	}
}

// testNothing tells a script's transcript, of which it fails, if the last line, that says nothing or answers a question, has said more or less than that, or that something is not sound.
func testNothing(t *testing.T, script, told, last string) string {
	t.Helper()
	next, _, e := Run(script)
	if e != api.OK || !strings.HasPrefix(next, told) {
		t.Fatalf("%q: %q, %v, behind %q", script, next, e, told)
	}
	said := next[len(told):]
	isNothing := last == "" || last[0] == '#'
	if strings.Count(said, "\n") > 1 || isNothing != (said == "") {
		t.Fatalf("%q: %q says %q", script, last, said)
	}
	if last == "sound" && said != "0\n" && said != "error 194\n" {
		t.Fatalf("%q: %q", script, said)
	}
	return next
}
