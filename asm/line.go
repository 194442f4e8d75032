package asm

import (
	"slices"
	"strings"

	"viceroy/api"
	"viceroy/isa"
)

// mnemonics are those of the operations in order, each at its number; that of a plain word is at 0, which is no operation.
const mnemonics = "word " +
	"movi add sub and xor shl " +
	"ldr str ldrb strb beq bne blt " +
	"jmp jal jr hvc svc " +
	"mrs msr wfi iar eoi tlbi nop"

const (
	opWord = 0
	// noItem is where an operation would stand of a line that has no item.
	noItem = -1
)

// What a layout's letters stand for; its other signs stand for themselves.
const (
	placeA     = 'a'
	placeB     = 'b'
	placeC     = 'c'
	placeValue = 'i'
	placeWord  = 'w'
)

const (
	formNone     = "-"
	layoutWord   = "w"
	layoutMemory = "a,[b+i]"
)

// statement is what a line says.
type statement struct {
	label    string // empty: there is none
	op       int    // noItem: there is none
	operands []token
}

// operation is that of a mnemonic; noItem, if a token is none.
func operation(t token) int {
	n, ok := t.(name)
	if !ok {
		return noItem
	}
	return slices.Index(strings.Fields(mnemonics), string(n))
}

// layout is how operands are written: a letter or sign for each token.
func layout(op int) string {
	switch op {
	case opWord:
		return layoutWord
	case api.OpLdr, api.OpStr, api.OpLdrb, api.OpStrb:
		return layoutMemory
	}
	form := isa.Kind(op)
	if form == formNone {
		return ""
	}
	return strings.Join(strings.Split(form, ""), ",")
}

// fits tells whether a token is of the kind that a place of a layout asks for.
func fits(t token, place rune) bool {
	switch t := t.(type) {
	case sign:
		return rune(t) == place
	case register:
		return place == placeA || place == placeB || place == placeC
	case number:
		return place == placeValue || place == placeWord
	case name:
		return place == placeValue && operation(t) == noItem
	}
	return false
}

// parse reads a line, and tells the first that is wrong with it.
func parse(line string) (statement, api.Errno) {
	tokens, ok := read(line)
	if !ok {
		return statement{}, api.ErrToken
	}
	s := statement{op: noItem}
	s.label, tokens = cutLabel(tokens)
	if len(tokens) == 0 {
		return s, api.OK
	}
	s.op, s.operands = operation(tokens[0]), tokens[1:]
	if !s.isItem() {
		return statement{}, api.ErrSyntax
	}
	for k, place := range layout(s.op) {
		if s.operands[k].beyond(place) {
			return statement{}, api.ErrRange
		}
	}
	return s, api.OK
}

// cutLabel takes a label from a line's beginning. What is none stays: it cannot begin an item either.
func cutLabel(tokens []token) (label string, rest []token) {
	if len(tokens) < 2 || !fits(tokens[1], ':') {
		return "", tokens
	}
	n, ok := tokens[0].(name)
	if !ok || operation(n) != noItem {
		return "", tokens
	}
	return string(n), tokens[2:]
}

// isItem tells whether there is a mnemonic, with operands of the kinds that it asks for.
func (s statement) isItem() bool {
	places := layout(s.op)
	if s.op == noItem || len(s.operands) != len(places) {
		return false
	}
	for k, place := range places {
		if !fits(s.operands[k], place) {
			return false
		}
	}
	return true
}
