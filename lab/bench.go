package lab

import (
	"slices"
	"strconv"
	"strings"

	"viceroy/api"
	"viceroy/asm"
	"viceroy/kernel"
)

const (
	// codeBase is the address of a program's first word.
	codeBase = 0
	nothing  = ""
	done     = "ok"
)

// bench is what a script has made: the descriptor that it writes, its programs' sources beside it, and the machine that was started last, with what that was started of.
type bench struct {
	boot    api.Boot
	sources []string
	machine *kernel.Kernel
	started api.Boot
}

// failure is how an error is said.
func failure(e api.Errno) string { return "error " + strconv.Itoa(int(e)) }

// list is how numbers are said.
func list(numbers ...int) string {
	var all []string
	for _, n := range numbers {
		all = append(all, strconv.Itoa(n))
	}
	return strings.Join(all, blank)
}

func (b *bench) begin(o order) string {
	n := o.numbers
	b.boot = api.Boot{Frames: n[0], Lrs: n[1], Endpoints: n[2], Notes: n[3]}
	b.sources = nil
	return nothing
}

func (b *bench) addTurn(o order) string {
	b.boot.Table = append(b.boot.Table, api.Turn{Domain: o.numbers[0], Ticks: o.numbers[1]})
	return nothing
}

func (b *bench) addPiece(o order) string {
	b.boot.Pieces = append(b.boot.Pieces, o.numbers[0])
	return nothing
}

func (b *bench) addProgram(o order) string {
	n := o.numbers
	b.boot.Progs = append(b.boot.Progs, api.Prog{Priority: n[0], Domain: n[1], Handler: n[2], Guest: n[3] != 0, Data: n[4]})
	b.sources = append(b.sources, "")
	return nothing
}

// last is the number of the program that was added last; below 0, if there is none.
func (b *bench) last() int { return len(b.sources) - 1 }

func (b *bench) addShare(o order) string {
	if b.last() < 0 {
		return failure(api.ErrBoot)
	}
	n := o.numbers
	p := &b.boot.Progs[b.last()]
	p.Shares = append(p.Shares, api.Share{Kind: n[0], N: n[1], Rights: n[2], Badge: n[3]})
	return nothing
}

func (b *bench) addCode(o order) string {
	if b.last() < 0 {
		return failure(api.ErrBoot)
	}
	b.sources[b.last()] += o.text + lineEnd
	return nothing
}

// start makes a machine of the descriptor; what there was before is gone, whether or not there is a new one.
func (b *bench) start(order) string {
	b.machine = nil
	boot := b.descriptor()
	for i, source := range b.sources {
		words, line, e := asm.Assemble(codeBase, source)
		if e != api.OK {
			return failure(e) + " at " + strconv.Itoa(line) + " of " + strconv.Itoa(i)
		}
		boot.Progs[i].Code = words
	}
	k, e := kernel.New(boot)
	if e != api.OK {
		return failure(e)
	}
	b.machine, b.started = k, boot
	return done
}

// descriptor is what was written, for a start: lines behind it go on writing. Lists only grow, but a program that is there gets shares: so programs are copied.
func (b *bench) descriptor() api.Boot {
	boot := b.boot
	boot.Progs = slices.Clone(boot.Progs)
	return boot
}
