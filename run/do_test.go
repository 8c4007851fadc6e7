package run

import (
	"math"
	"math/big"
	"slices"
	"strings"
	"testing"

	"tnumward/api"
)

// checkStep holds a step, with two Exits behind it, against what it must come to.
func checkStep(t *testing.T, i api.Instr, m, want api.Machine) {
	t.Helper()
	if n, e := Step([]api.Instr{i, exit, exit}, m); n != want || e != api.OK {
		t.Fatalf("%v of %v is %v %d, and must be %v", i, m, n, e, want)
	}
}

// wide answers the number itself, without going round, and moved by whole bits.
func wide(op int, x, y uint64) *big.Int {
	a, b := new(big.Int).SetUint64(x), new(big.Int).SetUint64(y)
	by := uint(new(big.Int).Mod(b, big.NewInt(64)).Uint64())
	switch op {
	case api.Mov:
		return b
	case api.Add:
		return a.Add(a, b)
	case api.Sub:
		return a.Sub(a, b)
	case api.Mul:
		return a.Mul(a, b)
	case api.And:
		return a.And(a, b)
	case api.Or:
		return a.Or(a, b)
	case api.Xor:
		return a.Xor(a, b)
	case api.Shl:
		return a.Lsh(a, by)
	}
	return a.Rsh(a, by)
}

func numbers() []uint64 {
	return []uint64{0, 1, 2, 3, 5, 31, 32, 60, 62, 63, 64, 65, 127, 128, 255, 256, 1<<31 - 1, 1 << 31, 1<<32 - 1, 1 << 32, 1<<63 - 1, 1 << 63, 1<<63 + 1, top - 64, top - 63, top - 1, top, 0x0123456789abcdef}
}

func TestReckoning(t *testing.T) {
	round := new(big.Int).Lsh(big.NewInt(1), 64)
	for op := api.Mov; op <= api.Shr; op++ {
		for _, x := range numbers() {
			for _, y := range numbers() {
				got := func(a, b uint64) uint64 { return new(big.Int).Mod(wide(op, a, b), round).Uint64() }
				m := machine(10, x, y, 13, 14, 15)
				m.Set[3], m.Regs[3] = false, 0
				want := m
				want.At, want.Regs[1] = 1, got(x, y)
				checkStep(t, api.Instr{Op: op, Dst: 1, Src: 2}, m, want)
				checkStep(t, api.Instr{Op: op, Dst: 1, Src: api.Const, Imm: y}, m, want)
				want.Regs[1] = got(x, x)
				checkStep(t, api.Instr{Op: op, Dst: 1, Src: 1}, m, want)
			}
		}
	}
}

// TestReckoningWritten: answers written out.
func TestReckoningWritten(t *testing.T) {
	for _, c := range []struct {
		op         int
		x, y, want uint64
	}{
		{api.Mov, 6, 7, 7}, {api.Add, 6, 7, 13}, {api.Add, top, 2, 1}, {api.Sub, 6, 7, top}, {api.Sub, 7, 6, 1}, {api.Mul, 6, 7, 42}, {api.Mul, 1 << 63, 2, 0}, {api.Mul, top, top, 1},
		{api.And, 6, 3, 2}, {api.Or, 6, 3, 7}, {api.Xor, 6, 3, 5}, {api.Shl, 3, 63, 1 << 63}, {api.Shl, 3, 64, 3}, {api.Shl, 3, 65, 6}, {api.Shl, 3, top, 1 << 63},
		{api.Shr, top, 63, 1}, {api.Shr, top, 64, top}, {api.Shr, top, 1, 1<<63 - 1}, {api.Shr, 6, top - 62, 3},
	} {
		m := machine(c.x, c.y)
		want := m
		want.At, want.Regs[0] = 1, c.want
		checkStep(t, api.Instr{Op: c.op, Src: 1}, m, want)
	}
}

// TestSets: Mov and Load set a register that was not.
func TestSets(t *testing.T) {
	want := machine(7, 0, 0, 7)
	want.Set[1], want.Set[2], want.At = false, false, 1
	from := want
	from.At, from.Set[3], from.Regs[3] = 0, false, 0
	checkStep(t, api.Instr{Op: api.Mov, Dst: 3}, from, want)
	checkStep(t, api.Instr{Op: api.Mov, Dst: 3, Src: api.Const, Imm: 7}, from, want)
	want.Regs[3] = 0x0b0a
	checkStep(t, api.Instr{Op: api.Load, Dst: 3, Imm: 2, Off: 2}, from, want)
	checkStep(t, api.Instr{Op: api.Load, Imm: 2}, machine(7), machineAt(1, machine(0x0908)))
}

func machineAt(at int, m api.Machine) api.Machine {
	m.At = at
	return m
}

// usedOf answers, by the chapter's words, what a step uses.
func usedOf(i api.Instr) []int {
	var out []int
	if i.Op != api.Jump && i.Op != api.Exit && i.Src != api.Const {
		out = append(out, i.Src)
	}
	if i.Op >= api.Add && i.Op <= api.Shr || slices.Contains([]int{api.Store, api.IfEq, api.IfLt}, i.Op) {
		out = append(out, i.Dst)
	}
	if i.Op == api.Exit {
		out = append(out, 0)
	}
	return out
}

// allSteps answers steps of all kinds and registers.
func allSteps() []api.Instr {
	out := []api.Instr{exit, {Op: api.Jump}, {Op: api.Jump, Off: 1}}
	for op := api.Mov; op <= api.IfLt; op++ {
		for dst := range api.Regs {
			for src := api.Const; src < api.Regs; src++ {
				i := api.Instr{Op: op, Dst: dst, Src: src}
				switch {
				case op == api.Jump, src == api.Const && (op == api.Load || op == api.Store):
					continue
				case op == api.Load || op == api.Store:
					i.Imm = 4
				case src == api.Const:
					i.Imm = 9
				}
				out = append(out, i)
			}
		}
	}
	return out
}

// TestUsed: of all registers that may be set or not, just those that are used trap, and nothing else changes then, wherever the address is.
func TestUsed(t *testing.T) {
	for _, i := range allSteps() {
		for set := range 1 << api.Regs {
			for _, x := range []uint64{3, 1 << 40} {
				m := api.Machine{Mem: rising()}
				for r := range api.Regs {
					if set>>r&1 == 1 {
						m.Set[r], m.Regs[r] = true, x
					}
				}
				traps := slices.ContainsFunc(usedOf(i), func(r int) bool { return !m.Set[r] })
				n, e := Step([]api.Instr{i, exit, exit}, m)
				want := m
				want.End = api.TrapReg
				if e != api.OK || traps && n != want || !traps && n.End == api.TrapReg {
					t.Fatalf("%v of %v is %v %d", i, m, n, e)
				}
			}
		}
	}
}

func TestBranch(t *testing.T) {
	for _, x := range numbers() {
		for _, y := range numbers() {
			m := machine(0, x, y)
			for op, jumps := range map[int]bool{api.IfEq: x == y, api.IfLt: x < y} {
				for off := range 2 {
					want := machineAt(1, m)
					if jumps {
						want.At += off
					}
					checkStep(t, api.Instr{Op: op, Dst: 1, Src: 2, Off: off}, m, want)
					checkStep(t, api.Instr{Op: op, Dst: 1, Src: api.Const, Imm: y, Off: off}, m, want)
				}
			}
			checkStep(t, api.Instr{Op: api.IfEq, Dst: 1, Src: 1, Off: 1}, m, machineAt(2, m))
			checkStep(t, api.Instr{Op: api.IfLt, Dst: 1, Src: 1, Off: 1}, m, machineAt(1, m))
			checkStep(t, api.Instr{Op: api.Jump, Off: 1}, m, machineAt(2, m))
			checkStep(t, api.Instr{Op: api.Jump}, m, machineAt(1, m))
		}
	}
}

func TestExit(t *testing.T) {
	m := machine(5)
	want := m
	want.End = api.Stopped
	checkStep(t, exit, m, want)
}

// places answers where the bytes are, or false, if one is not there.
func places(base uint64, off int, size uint64) ([]int, bool) {
	var out []int
	round := new(big.Int).Lsh(big.NewInt(1), 64)
	from := new(big.Int).SetUint64(base)
	from.Mod(from.Add(from, big.NewInt(int64(off))), round)
	for k := range size {
		at := new(big.Int).Add(from, new(big.Int).SetUint64(k))
		if at.Cmp(big.NewInt(63)) > 0 {
			return nil, false
		}
		out = append(out, int(at.Int64()))
	}
	return out, true
}

func bases() []uint64 {
	out := []uint64{1 << 32, 1<<32 + 5, 1 << 63, 1<<63 - 1, math.MaxInt64 - 3}
	for x := range uint64(140) {
		out = append(out, x, top-x)
	}
	return out
}

// TestReach: each byte from the lowest on is where it must be, or there is a trap, and nothing else changes.
func TestReach(t *testing.T) {
	const number = uint64(0xf1e2d3c4b5a69788)
	for _, base := range bases() {
		m := machine(number, base)
		trapped := m
		trapped.End = api.TrapMem
		for off := -api.MaxOff; off <= api.MaxOff; off++ {
			for _, size := range []uint64{1, 2, 4, 8} {
				loaded, stored := machineAt(1, m), machineAt(1, m)
				loaded.Regs[2], loaded.Set[2] = 0, true
				bytes := []byte(m.Mem)
				at, there := places(base, off, size)
				for k, p := range at {
					loaded.Regs[2] += uint64(m.Mem[p]) * (1 << (8 * k))
					bytes[p] = byte(number / (1 << (8 * k)) % 256)
				}
				stored.Mem = string(bytes)
				if !there {
					loaded, stored = trapped, trapped
				}
				checkStep(t, api.Instr{Op: api.Load, Dst: 2, Src: 1, Imm: size, Off: off}, m, loaded)
				checkStep(t, api.Instr{Op: api.Store, Dst: 1, Src: 0, Imm: size, Off: off}, m, stored)
			}
		}
	}
}

// TestReachWritten: answers written out.
func TestReachWritten(t *testing.T) {
	m := machine(0, 7)
	want := machineAt(1, m)
	want.Regs[0] = 0x0807060504030201
	checkStep(t, api.Instr{Op: api.Load, Src: 1, Imm: 8, Off: -7}, m, want)
	want.Regs[0] = 0x0c0b
	checkStep(t, api.Instr{Op: api.Load, Src: 1, Imm: 2, Off: 3}, m, want)
	m.Regs[2], m.Set[2] = 0x11223344, true
	want = machineAt(1, m)
	want.Mem = rising()[:56] + "\x44\x33\x22\x11\x00\x00\x00\x00"
	checkStep(t, api.Instr{Op: api.Store, Dst: 1, Src: 2, Imm: 8, Off: 49}, m, want)
	want.Mem = "\x44" + rising()[1:]
	checkStep(t, api.Instr{Op: api.Store, Dst: 1, Src: 2, Imm: 1, Off: -7}, m, want)
	m.Regs[1], m.Mem = top, strings.Repeat("\xff", 64)
	want = machineAt(1, m)
	want.Regs[0] = top
	checkStep(t, api.Instr{Op: api.Load, Src: 1, Imm: 8, Off: 1}, m, want)
	want = m
	want.End = api.TrapMem
	checkStep(t, api.Instr{Op: api.Load, Src: 1, Imm: 2}, m, want)
}
