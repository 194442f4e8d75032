package lab

import (
	"strconv"
	"strings"

	"viceroy/api"
)

const (
	blank = " "
	// remark begins a line that does nothing.
	remark = "#"
	// codeAhead begins a line whose argument is no number.
	codeAhead = "code" + blank
	// mostDigits is how many a number has at most.
	mostDigits = 9
)

// wrongLine is why a script cannot be played: the number of a line that nobody knows.
type wrongLine struct{ number int }

func (w wrongLine) Error() string {
	return "viceroy: line " + strconv.Itoa(w.number) + " of the script is none of the table"
}

// Unwrap tells it as an error that all layers know.
func (w wrongLine) Unwrap() error { return api.ErrScript }

// action is what a word does; it tells what its line says.
type action func(*bench, order) string

// order is a line that was read: what it does, with which numbers, or with which text.
type order struct {
	do      action
	numbers []int
	text    string
}

// read reads a script's lines. All of them are held against the table before one is played.
func read(script string) ([]order, error) {
	if len(script) > api.MaxScript {
		return nil, api.ErrLong
	}
	lines := split(script)
	if len(lines) > api.MaxLines {
		return nil, api.ErrLong
	}
	var orders []order
	for k, line := range lines {
		if line == "" || strings.HasPrefix(line, remark) {
			continue
		}
		o, ok := parse(line)
		if !ok {
			return nil, wrongLine{k + 1}
		}
		orders = append(orders, o)
	}
	return orders, nil
}

// split parts a script. What stands behind its last end of a line is one only if it is not empty.
func split(script string) []string {
	lines := strings.Split(script, lineEnd)
	if last := len(lines) - 1; lines[last] == "" {
		return lines[:last]
	}
	return lines
}

// parse reads a line; false, if it is none of the table.
func parse(line string) (order, bool) {
	if text, is := strings.CutPrefix(line, codeAhead); is {
		return order{do: (*bench).addCode, text: text}, true
	}
	parts := strings.Split(line, blank)
	do, many := meaning(parts[0])
	if do == nil || len(parts) != 1+many {
		return order{}, false
	}
	o := order{do: do}
	for _, part := range parts[1:] {
		n, ok := number(part)
		if !ok {
			return order{}, false
		}
		o.numbers = append(o.numbers, n)
	}
	return o, true
}

// meaning tells what a word does, and how many numbers it wants; nil, if there is no such word.
func meaning(word string) (do action, many int) {
	switch word {
	case "boot":
		return (*bench).begin, 4
	case "turn":
		return (*bench).addTurn, 2
	case "piece":
		return (*bench).addPiece, 1
	case "prog":
		return (*bench).addProgram, 5
	case "share":
		return (*bench).addShare, 4
	case "start":
		return (*bench).start, 0
	case "step":
		return asked((*bench).step), 0
	case "steps":
		return asked((*bench).steps), 1
	case "tick":
		return asked((*bench).tick), 0
	case "irq":
		return asked((*bench).raise), 1
	case "evict":
		return asked((*bench).evict), 1
	case "read":
		return asked((*bench).read), 2
	case "write":
		return asked((*bench).write), 3
	case "who":
		return asked((*bench).who), 0
	case "sum":
		return asked((*bench).sum), 0
	case "sound":
		return asked((*bench).sound), 0
	case "state":
		return asked((*bench).state), 1
	case "word":
		return asked((*bench).word), 1
	case "reg":
		return asked((*bench).register), 2
	case "slot":
		return asked((*bench).slot), 2
	}
	return nil, 0
}

// number reads one: digits alone, without noughts ahead.
func number(text string) (int, bool) {
	if text == "" || len(text) > mostDigits || text[0] == '0' && len(text) > 1 {
		return 0, false
	}
	n := 0
	for _, r := range text {
		if r < '0' || r > '9' {
			return 0, false
		}
		n = 10*n + int(r-'0')
	}
	return n, true
}
