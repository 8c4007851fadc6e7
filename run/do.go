package run

import (
	"tnumward/api"
	"tnumward/use"
)

// do answers the machine, which runs, behind the step i, which is where it is at.
func do(i api.Instr, m api.Machine) api.Machine {
	for r, used := range use.Of(i) {
		if used && !m.Set[r] {
			return ended(m, api.TrapReg)
		}
	}
	switch i.Op {
	case api.Load, api.Store:
		return reach(i, m)
	case api.Jump:
		return onward(m, i.Off)
	case api.IfEq:
		return branch(i, m, m.Regs[i.Dst] == source(i, m))
	case api.IfLt:
		return branch(i, m, m.Regs[i.Dst] < source(i, m))
	case api.Exit:
		return ended(m, api.Stopped)
	}
	return onward(with(m, i.Dst, two(i.Op, m.Regs[i.Dst], source(i, m))), 0)
}

// ended answers the machine with that End, and else as it was.
func ended(m api.Machine, end int) api.Machine {
	m.End = end
	return m
}

// onward answers the machine off steps further than behind the one where it is at.
func onward(m api.Machine, off int) api.Machine {
	m.At += 1 + off
	return m
}

func branch(i api.Instr, m api.Machine, jumps bool) api.Machine {
	if jumps {
		return onward(m, i.Off)
	}
	return onward(m, 0)
}

// with answers the machine with that number put into register r.
func with(m api.Machine, r int, number uint64) api.Machine {
	m.Regs[r], m.Set[r] = number, true
	return m
}

// source answers the number that Src stands for.
func source(i api.Instr, m api.Machine) uint64 {
	if i.Src == api.Const {
		return i.Imm
	}
	return m.Regs[i.Src]
}

// two answers y for Mov, else x op y.
func two(op int, x, y uint64) uint64 {
	switch op {
	case api.Add:
		return x + y
	case api.Sub:
		return x - y
	case api.Mul:
		return x * y
	case api.And:
		return x & y
	case api.Or:
		return x | y
	case api.Xor:
		return x ^ y
	case api.Shl:
		return x << (y & 63)
	case api.Shr:
		return x >> (y & 63)
	}
	return y
}

// reach does a Load or a Store.
func reach(i api.Instr, m api.Machine) api.Machine {
	base := i.Src
	if i.Op == api.Store {
		base = i.Dst
	}
	from := m.Regs[base] + uint64(i.Off)
	// Held against the last place where they all are, as from and their number together could go round.
	if from > api.MemSize-i.Imm {
		return ended(m, api.TrapMem)
	}
	if i.Op == api.Load {
		m = with(m, i.Dst, load(m.Mem[from:from+i.Imm]))
	} else {
		m.Mem = m.Mem[:from] + store(m.Regs[i.Src], i.Imm) + m.Mem[from+i.Imm:]
	}
	return onward(m, 0)
}

// load answers the number that these bytes are, the lowest first.
func load(bytes string) uint64 {
	var number uint64
	for n := range len(bytes) {
		number |= uint64(bytes[n]) << (8 * n)
	}
	return number
}

// store answers so many bytes of the number, the lowest first.
func store(number, size uint64) string {
	bytes := make([]byte, size)
	for n := range bytes {
		bytes[n] = byte(number >> (8 * n))
	}
	return string(bytes)
}
