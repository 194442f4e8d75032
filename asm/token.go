package asm

import (
	"strings"

	"viceroy/api"
)

// token is what a line is made of, an operand among others: a sign, a register, a number or a name.
type token interface {
	// beyond tells whether it is more than what may stand at a place of a layout that it fits.
	beyond(place rune) bool
}

type (
	sign     rune
	register int
	number   int
	name     string
)

const (
	signs  = ":,[]+"
	blank  = " "
	remark = ";"
	// digits are those of all bases, by what each is worth.
	digits    = "0123456789abcdef"
	hexAhead  = "0x"
	hexDigits = 8
	// registerAhead is ahead of a register's number.
	registerAhead = "r"
)

const (
	mostValue = 1<<16 - 1
	mostWord  = 1<<32 - 1
)

func (s sign) beyond(rune) bool { return false }

func (r register) beyond(rune) bool { return r >= api.Registers }

func (n number) beyond(place rune) bool {
	if place == placeWord {
		return n > mostWord
	}
	return n > mostValue
}

// What a name comes to is not known till all lines are read.
func (n name) beyond(rune) bool { return false }

// read tells a line's tokens; false, if something in it is none.
func read(line string) ([]token, bool) {
	text, _, _ := strings.Cut(line, remark)
	var tokens []token
	begin := 0
	// The blank behind it ends a word that the line ends with.
	for k, c := range text + blank {
		if inWord(c) {
			continue
		}
		if begin < k {
			t, ok := wordToken(text[begin:k])
			if !ok {
				return nil, false
			}
			tokens = append(tokens, t)
		}
		switch {
		case strings.ContainsRune(signs, c):
			tokens = append(tokens, sign(c))
		case !strings.ContainsRune(blank, c):
			return nil, false
		}
		begin = k + 1
	}
	return tokens, true
}

func inWord(c rune) bool {
	return c >= 'a' && c <= 'z' || isDigit(c) || c == '_'
}

func isDigit(c rune) bool { return c >= '0' && c <= '9' }

// wordToken tells what a word is; false, if it is not written as that is.
func wordToken(word string) (token, bool) {
	if isDigit(rune(word[0])) {
		n, ok := written(word)
		return number(n), ok
	}
	if behind, ok := strings.CutPrefix(word, registerAhead); ok && allDigits(behind) {
		n, ok := decimal(behind)
		return register(n), ok
	}
	return name(word), len(word) <= api.MaxName
}

func allDigits(text string) bool {
	for _, c := range text {
		if !isDigit(c) {
			return false
		}
	}
	return text != ""
}

// written reads a number in either of its ways.
func written(word string) (int, bool) {
	behind, hex := strings.CutPrefix(word, hexAhead)
	if !hex {
		return decimal(word)
	}
	n, ok := worth(behind, 16)
	return n, ok && len(behind) <= hexDigits
}

func decimal(word string) (int, bool) {
	if len(word) > 1 && strings.HasPrefix(word, "0") {
		return 0, false
	}
	return worth(word, 10)
}

// worth is what digits of a base come to; false, if there are none, or not of them alone.
func worth(text string, base int) (int, bool) {
	n := 0
	for _, c := range text {
		d := strings.IndexRune(digits[:base], c)
		if d < 0 {
			return 0, false
		}
		// However many digits there are: what is above all that may be stays so, and does not wrap round.
		n = min(n*base+d, mostWord+1)
	}
	return n, text != ""
}
