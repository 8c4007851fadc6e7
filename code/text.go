package code

import (
	"strconv"
	"strings"

	"tnumward/api"
)

// place is a word's place in a line: which field stands there, and how.
type place int

const (
	dst    place = iota // a register
	src                 // a register
	source              // a register, or the step's own number
	imm                 // a number
	off                 // a number, with its sign
)

// opsByName has the operations' names.
func opsByName() map[string]int {
	return map[string]int{
		"mov":   api.Mov,
		"add":   api.Add,
		"sub":   api.Sub,
		"mul":   api.Mul,
		"and":   api.And,
		"or":    api.Or,
		"xor":   api.Xor,
		"shl":   api.Shl,
		"shr":   api.Shr,
		"load":  api.Load,
		"store": api.Store,
		"jump":  api.Jump,
		"ifeq":  api.IfEq,
		"iflt":  api.IfLt,
		"exit":  api.Exit,
	}
}

// namesByOp is opsByName the other way round.
func namesByOp() [api.Exit + 1]string {
	var names [api.Exit + 1]string
	for name, op := range opsByName() {
		names[op] = name
	}
	return names
}

// placesOf answers what stands behind the name of an operation.
func placesOf(op int) []place {
	switch op {
	case api.Load:
		return []place{imm, dst, src, off}
	case api.Store:
		return []place{imm, dst, off, src}
	case api.Jump:
		return []place{off}
	case api.IfEq, api.IfLt:
		return []place{dst, source, off}
	case api.Exit:
		return nil
	}
	return []place{dst, source}
}

// wordAt answers the word of i at that place.
func wordAt(p place, i api.Instr) string {
	switch {
	case p == dst:
		return "r" + strconv.Itoa(i.Dst)
	case p == src, p == source && i.Src != api.Const:
		return "r" + strconv.Itoa(i.Src)
	case p == off:
		return strconv.Itoa(i.Off)
	}
	return strconv.FormatUint(i.Imm, 10)
}

// readLines answers the steps of the lines of s, or false, if one is none; whether they are a program, it leaves open.
func readLines(s string) (l []api.Instr, ok bool) {
	defer func() {
		if recover() != nil {
			l, ok = nil, false
		}
	}()
	ops := opsByName()
	for _, line := range strings.Split(strings.TrimSuffix(s, "\n"), "\n") {
		l = append(l, readLine(ops, line))
	}
	return l, true
}

// readLine answers the step of a line, and panics, if it is none.
func readLine(ops map[string]int, line string) api.Instr {
	words := strings.Split(line, " ")
	op, ok := ops[words[0]]
	places := placesOf(op)
	must(ok && len(words) == 1+len(places))
	i := api.Instr{Op: op}
	for n, p := range places {
		i = withWord(i, p, words[1+n])
	}
	return i
}

// withWord answers i with what the word tells of that place.
func withWord(i api.Instr, p place, word string) api.Instr {
	switch {
	case p == dst:
		i.Dst = readReg(word)
	case p == src, p == source && strings.HasPrefix(word, "r"):
		i.Src = readReg(word)
	case p == source:
		i.Src, i.Imm = api.Const, readNumber(word)
	case p == imm:
		i.Imm = readNumber(word)
	case p == off:
		i.Off = readSigned(word)
	}
	return i
}

func readReg(word string) int {
	digits, ok := strings.CutPrefix(word, "r")
	must(ok)
	return readSigned(digits)
}

func readNumber(word string) uint64 {
	n, err := strconv.ParseUint(word, 10, 64)
	must(err == nil)
	return n
}

func readSigned(word string) int {
	n, err := strconv.Atoi(word)
	must(err == nil)
	return n
}

// must leaves a line that is not as it must be; readLines comes back from there.
func must(ok bool) {
	if !ok {
		panic(api.ErrForm)
	}
}
