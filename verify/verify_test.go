package verify

import (
	"slices"
	"strings"
	"testing"

	"tnumward/api"
	"tnumward/code"
	"tnumward/flow"
	"tnumward/run"
	"tnumward/val"
)

const top = uint64(api.Top)

var exit = api.Instr{Op: api.Exit}

func read(t *testing.T, lines ...string) []api.Instr {
	t.Helper()
	l, e := code.Read(strings.Join(lines, "\n") + "\n")
	if e != api.OK {
		t.Fatalf("%q is no program", lines)
	}
	return l
}

// same tells whether both reports are the same, and all of it.
func same(x, y api.Report) bool {
	return x.Trap == y.Trap && x.At == y.At && slices.Equal(x.States, y.States)
}

func TestErrors(t *testing.T) {
	for _, c := range []struct {
		l    []api.Instr
		want api.Errno
	}{
		{nil, api.ErrMany}, {[]api.Instr{}, api.ErrMany}, {slices.Repeat([]api.Instr{exit}, 65), api.ErrMany}, {make([]api.Instr, 65), api.ErrMany},
		{[]api.Instr{{Op: 16}, exit}, api.ErrKind}, {[]api.Instr{{}}, api.ErrKind}, {[]api.Instr{{Op: api.Jump, Off: 1}, {Op: -1}}, api.ErrKind},
		{[]api.Instr{{Op: api.Jump, Off: 1}, exit}, api.ErrRange}, {[]api.Instr{{Op: api.Mov, Dst: 6}, exit}, api.ErrRange}, {[]api.Instr{{Op: api.Jump, Off: -1}, exit}, api.ErrRange},
		{[]api.Instr{exit, {Op: api.Mov}}, api.ErrForm}, {[]api.Instr{{Op: api.Exit, Imm: 1}}, api.ErrForm}, {[]api.Instr{{Op: api.Mov, Src: 1, Imm: 1}, exit}, api.ErrForm},
	} {
		if x, e := Verify(c.l); !same(x, api.Report{}) || e != c.want {
			t.Errorf("Verify(%v) = %v %d, and must be %d", c.l, x, e, c.want)
		}
	}
}

// TestTraps: the first trap, where it is, and as many states as there are up to it; or all of them.
func TestTraps(t *testing.T) {
	for _, c := range []struct {
		trap, at int
		lines    []string
	}{
		{api.TrapReg, 0, []string{"exit"}},
		{api.TrapMem, 0, []string{"load 1 r0 r1 0", "exit"}},                                                // example 6
		{api.NoTrap, 0, []string{"mov r0 0", "iflt r1 64 1", "exit", "load 1 r0 r1 0", "add r0 1", "exit"}}, // example 7
		{api.TrapMem, 3, []string{"mov r0 0", "iflt r1 65 1", "exit", "load 1 r0 r1 0", "add r0 1", "exit"}},
		{api.TrapMem, 3, []string{"mov r0 0", "iflt r1 64 1", "exit", "load 2 r0 r1 0", "add r0 1", "exit"}},
		{api.TrapMem, 2, []string{"mov r0 0", "iflt r1 64 1", "load 1 r0 r1 0", "add r0 1", "exit"}},
		{api.NoTrap, 0, []string{"mov r0 r1", "exit"}},
		{api.TrapReg, 1, []string{"mov r0 r1", "add r2 r1", "store 8 r1 0 r1", "exit"}},
		{api.TrapMem, 1, []string{"mov r0 r1", "store 8 r1 0 r1", "add r2 r1", "exit"}},
		{api.NoTrap, 0, []string{"mov r0 0", "jump 1", "load 1 r0 r1 0", "exit"}},
		{api.NoTrap, 0, []string{"mov r0 0", "exit", "mov r0 r5", "exit"}},
		{api.TrapReg, 2, []string{"iflt r1 5 1", "mov r2 0", "mov r0 r2", "exit"}},
		{api.NoTrap, 0, []string{"mov r2 1", "iflt r1 5 1", "mov r2 0", "mov r0 r2", "exit"}},
		{api.NoTrap, 0, []string{"and r1 3", "iflt r1 5 1", "exit", "mov r0 0", "exit"}},
		{api.TrapReg, 2, []string{"and r1 7", "iflt r1 5 1", "exit", "mov r0 0", "exit"}},
		{api.NoTrap, 0, []string{"mov r2 r1", "and r2 56", "store 8 r2 0 r1", "load 8 r0 r2 0", "exit"}},
		{api.TrapMem, 2, []string{"mov r2 r1", "and r2 57", "store 8 r2 0 r1", "load 8 r0 r2 0", "exit"}},
	} {
		l := read(t, c.lines...)
		many := len(l)
		if c.trap != api.NoTrap {
			many = c.at + 1
		}
		if x, e := Verify(l); x.Trap != c.trap || x.At != c.at || len(x.States) != many || e != api.OK {
			t.Errorf("Verify(%q) = %v %d, and must be %d %d", c.lines, x, e, c.trap, c.at)
		}
	}
}

// live answers a state with these registers set to these.
func live(regs map[int]api.Val) api.State {
	s := api.State{Live: true}
	for r, v := range regs {
		s.Set[r], s.Regs[r] = true, v
	}
	return s
}

// span answers the right Val of all numbers from low to high.
func span(low, high uint64) api.Val {
	v, _, _ := val.Norm(api.Val{Bits: api.Bits{Mask: top}, Low: low, High: high})
	return v
}

// TestStates: answers written out.
func TestStates(t *testing.T) {
	l := read(t, "mov r0 1", "iflt r1 64 3", "mov r0 5", "mov r2 7", "jump 1", "load 1 r2 r1 0", "exit", "exit")
	want := api.Report{States: []api.State{
		flow.Begin(),
		live(map[int]api.Val{0: val.Of(1), 1: val.Any()}),
		live(map[int]api.Val{0: val.Of(1), 1: span(64, top)}),
		live(map[int]api.Val{0: val.Of(5), 1: span(64, top)}),
		live(map[int]api.Val{0: val.Of(5), 1: span(64, top), 2: val.Of(7)}),
		live(map[int]api.Val{0: val.Of(1), 1: span(0, 63)}),
		live(map[int]api.Val{0: {Bits: api.Bits{Value: 1, Mask: 4}, Low: 1, High: 5}, 1: val.Any(), 2: span(0, 255)}),
		{},
	}}
	if x, e := Verify(l); !same(x, want) || e != api.OK {
		t.Errorf("Verify = %v %d, and must be %v", x, e, want)
	}
	l[5].Off = 1
	want = api.Report{Trap: api.TrapMem, At: 5, States: want.States[:6]}
	if x, e := Verify(l); !same(x, want) || e != api.OK {
		t.Errorf("Verify = %v %d, and must be %v", x, e, want)
	}
	// What comes over both ways to the same step.
	l = read(t, "mov r0 1", "ifeq r1 3 0", "exit")
	want = api.Report{States: []api.State{flow.Begin(), live(map[int]api.Val{0: val.Of(1), 1: val.Any()}), live(map[int]api.Val{0: val.Of(1), 1: val.Any()})}}
	if x, e := Verify(l); !same(x, want) || e != api.OK {
		t.Errorf("Verify = %v %d, and must be %v", x, e, want)
	}
}

// TestLong: as many steps as there may be, and the longest jump.
func TestLong(t *testing.T) {
	l := slices.Repeat([]api.Instr{{Op: api.Add, Dst: 0, Src: api.Const, Imm: 1}}, api.MaxCode)
	l[0], l[63] = api.Instr{Op: api.Mov, Src: api.Const}, exit
	x, e := Verify(l)
	if x.Trap != api.NoTrap || len(x.States) != 64 || e != api.OK || x.States[63].Regs[0] != val.Of(62) {
		t.Errorf("Verify = %v %d", x, e)
	}
	l[1] = api.Instr{Op: api.IfLt, Dst: 1, Src: api.Const, Imm: 9, Off: 61}
	x, e = Verify(l)
	if x.Trap != api.NoTrap || len(x.States) != 64 || e != api.OK || (x.States[63].Regs[0] != api.Val{Bits: api.Bits{Mask: 61}, High: 61}) {
		t.Errorf("Verify = %v %d", x, e)
	}
	l[0] = api.Instr{Op: api.Jump, Off: 62}
	x, e = Verify(l)
	if x.Trap != api.TrapReg || x.At != 63 || len(x.States) != 64 || e != api.OK || x.States[63] != flow.Begin() || x.States[1].Live {
		t.Errorf("Verify = %v %d", x, e)
	}
}

// draw: numbers that are the same each time.
type draw uint64

func (d *draw) n(n int) int {
	*d = *d*6364136223846793005 + 1442695040888963407
	return int(uint64(*d) >> 33 % uint64(n))
}

// program answers one of n steps, of all kinds, many of which do not trap.
func (d *draw) program(n int) []api.Instr {
	l := []api.Instr{{Op: api.Mov, Src: api.Const, Imm: uint64(d.n(9))}, {Op: api.Mov, Dst: 2, Src: 1}, {Op: api.And, Dst: 2, Src: api.Const, Imm: 31}}
	for len(l) < n-1 {
		i := api.Instr{Op: 1 + d.n(15), Dst: d.n(3), Src: d.n(4) - 1}
		further := d.n(n - 1 - len(l))
		switch i.Op {
		case api.Load:
			i.Dst, i.Src, i.Imm, i.Off = d.n(4), 2*d.n(2), 1<<d.n(4), d.n(20)
		case api.Store:
			i.Dst, i.Src, i.Imm, i.Off = 2*d.n(2), d.n(3), 1<<d.n(4), d.n(20)
		case api.Mov:
			i.Dst = d.n(6)
		case api.Jump:
			i = api.Instr{Op: api.Jump, Off: min(further, d.n(4))}
		case api.IfEq, api.IfLt:
			i.Off = further
		case api.Exit:
			i = api.Instr{Op: api.IfLt, Dst: 1 + d.n(2), Src: api.Const, Off: further}
		}
		if i.Src == api.Const {
			i.Imm = uint64(d.n(70))
		}
		if d.n(30) == 0 {
			i = exit
		}
		l = append(l, i)
	}
	return append(l, exit)
}

// statesOf answers, each by what is told of it alone, the states ahead of all steps, and the first trap.
func statesOf(l []api.Instr) api.Report {
	x := api.Report{}
	for at := range l {
		s := api.State{}
		if at == 0 {
			s = flow.Begin()
		}
		for from, i := range l[:at] {
			behind, there, _, _ := flow.Step(i, x.States[from])
			if from+1 == at {
				s, _ = flow.Join(s, behind)
			}
			if i.Op >= api.Jump && i.Op <= api.IfLt && from+1+i.Off == at {
				s, _ = flow.Join(s, there)
			}
		}
		x.States = append(x.States, s)
		if _, _, trap, _ := flow.Step(l[at], s); trap != api.NoTrap {
			x.Trap, x.At = trap, at
			return x
		}
	}
	return x
}

// checkRun goes through a run: each machine is in the state of where it is; it stops, and not with a trap, unless the program has one, and that no earlier.
func checkRun(t *testing.T, l []api.Instr, x api.Report, mem string, arg uint64) {
	t.Helper()
	m, _ := run.Start(mem, arg)
	steps := 0
	for ; m.End == api.NoTrap; steps++ {
		if x.Trap != api.NoTrap && m.At >= x.At {
			return
		}
		if !flow.Has(x.States[m.At], m) {
			t.Fatalf("%v: %v has not %v", l, x.States[m.At], m)
		}
		m, _ = run.Step(l, m)
	}
	if m.End != api.Stopped || steps > len(l) {
		t.Fatalf("%v, said to be safe, comes to %v after %d steps, if it is handed %d", l, m, steps, arg)
	}
}

// TestDrawn: Verify tells what the chapter does, and it is so in runs.
func TestDrawn(t *testing.T) {
	safe, trapped := 0, 0
	for seed := range uint64(6000) {
		d := draw(seed)
		l := d.program(5 + d.n(20))
		x, e := Verify(l)
		if want := statesOf(l); !same(x, want) || e != api.OK {
			t.Fatalf("Verify(%v) = %v %d, and must be %v", l, x, e, want)
		}
		if x.Trap == api.NoTrap {
			safe++
		} else {
			trapped++
		}
		mem := make([]byte, api.MemSize)
		for n := range mem {
			mem[n] = byte(d.n(256) * d.n(2))
		}
		for _, arg := range []uint64{0, 1, 7, 31, 32, 63, 64, uint64(d.n(70)), 1 << 63, top - 7, top} {
			checkRun(t, l, x, string(mem), arg)
		}
	}
	if safe < 1000 || trapped < 1000 {
		t.Errorf("%d programs are safe, %d trap: too few were tried", safe, trapped)
	}
}

// TestKept: what is handed in is as it was, the room behind it too, and an answer is another's each time.
func TestKept(t *testing.T) {
	for seed := range uint64(300) {
		d := draw(seed)
		drawn := d.program(5 + d.n(20))
		room := append(slices.Clone(drawn), api.Instr{Op: 77}, api.Instr{Op: 78})
		kept := slices.Clone(room)
		l := room[:len(drawn)]
		x, _ := Verify(l)
		if !slices.Equal(room, kept) {
			t.Fatalf("%v was changed to %v", kept, room)
		}
		want := api.Report{Trap: x.Trap, At: x.At, States: slices.Clone(x.States)}
		clear(x.States)
		if y, e := Verify(l); !same(y, want) || e != api.OK {
			t.Fatalf("Verify(%v) again = %v %d", l, y, e)
		}
	}
}
