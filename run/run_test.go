package run

import (
	"math"
	"slices"
	"strings"
	"testing"

	"tnumward/api"
	"tnumward/code"
)

const top = uint64(api.Top)

var exit = api.Instr{Op: api.Exit}

// rising answers memory whose bytes rise from 1 on.
func rising() string {
	b := make([]byte, api.MemSize)
	for n := range b {
		b[n] = byte(n + 1)
	}
	return string(b)
}

// machine answers one at the first step, with all registers set to these.
func machine(regs ...uint64) api.Machine {
	m := api.Machine{Mem: rising()}
	for r, x := range regs {
		m.Regs[r], m.Set[r] = x, true
	}
	return m
}

// wrongMachines answers machines that are not right.
func wrongMachines() []api.Machine {
	var out []api.Machine
	turn := func(f func(m *api.Machine)) {
		m := machine(1, 2, 3)
		f(&m)
		out = append(out, m)
	}
	for _, mem := range []string{"", "x", rising()[1:], rising() + "x", strings.Repeat("x", 128)} {
		turn(func(m *api.Machine) { m.Mem = mem })
	}
	for _, end := range []int{math.MinInt, -1, 4, math.MaxInt} {
		turn(func(m *api.Machine) { m.End = end })
	}
	for _, at := range []int{math.MinInt, -1, 64, math.MaxInt} {
		turn(func(m *api.Machine) { m.At = at })
	}
	for r := range api.Regs {
		turn(func(m *api.Machine) { m.Set[r], m.Regs[r] = false, 1 })
		turn(func(m *api.Machine) { m.Set[r], m.Regs[r] = false, top })
	}
	return append(out, api.Machine{})
}

func TestCheck(t *testing.T) {
	for _, at := range []int{0, 1, 63} {
		for end := api.NoTrap; end <= api.Stopped; end++ {
			for _, m := range []api.Machine{machine(), machine(0), machine(1, 2, 3, 4, 5, top), {Mem: strings.Repeat("\xff", 64)}} {
				m.At, m.End = at, end
				if e := Check(m); e != api.OK {
					t.Errorf("%v: %d", m, e)
				}
			}
		}
	}
	for _, m := range wrongMachines() {
		if e := Check(m); e != api.ErrForm {
			t.Errorf("%v: %d", m, e)
		}
	}
}

func TestStart(t *testing.T) {
	for _, arg := range []uint64{0, 1, 7, 1 << 63, top} {
		want := api.Machine{Mem: rising()}
		want.Regs[1], want.Set[1] = arg, true
		if m, e := Start(rising(), arg); m != want || e != api.OK || Check(m) != api.OK {
			t.Errorf("Start with %d = %v %d", arg, m, e)
		}
	}
	for _, mem := range []string{"", "x", rising()[1:], rising() + "x", strings.Repeat("x", 1<<20)} {
		if m, e := Start(mem, 7); (m != api.Machine{}) || e != api.ErrForm {
			t.Errorf("Start of %d bytes = %v %d", len(mem), m, e)
		}
	}
}

// wrongPrograms answers one for each error of code.Check.
func wrongPrograms() map[api.Errno][]api.Instr {
	return map[api.Errno][]api.Instr{
		api.ErrMany:  nil,
		api.ErrKind:  {{Op: 16}, exit},
		api.ErrRange: {{Op: api.Jump, Off: 1}, exit},
		api.ErrForm:  {exit, {Op: api.Mov}},
	}
}

func TestStepErrors(t *testing.T) {
	check := func(l []api.Instr, m api.Machine, want api.Errno) {
		t.Helper()
		if n, e := Step(l, m); (n != api.Machine{}) || e != want {
			t.Errorf("Step(%v, %v) = %v %d, and must be %d", l, m, n, e, want)
		}
	}
	for want, l := range wrongPrograms() {
		check(l, machine(1), want)
		for _, m := range wrongMachines() {
			check(l, m, want)
		}
	}
	for _, m := range wrongMachines() {
		check([]api.Instr{exit}, m, api.ErrForm)
		if m.At == 0 {
			m.At = 1
			check([]api.Instr{exit}, m, api.ErrForm)
		}
	}
	for _, at := range []int{1, 2, 63} {
		for end := api.NoTrap; end <= api.Stopped; end++ {
			m := machine(1)
			m.At, m.End = at, end
			check([]api.Instr{exit}, m, api.ErrRange)
		}
	}
}

func TestStepEnded(t *testing.T) {
	for end := api.TrapReg; end <= api.Stopped; end++ {
		for at := range 3 {
			m := machine(1, 2, 3)
			m.At, m.End = at, end
			if n, e := Step([]api.Instr{{Op: api.Add, Dst: 1, Src: 1}, {Op: api.Store, Dst: 1, Src: 1, Imm: 1}, exit}, m); n != m || e != api.OK {
				t.Errorf("Step of one that ended = %v %d", n, e)
			}
		}
	}
}

func TestRunErrors(t *testing.T) {
	check := func(l []api.Instr, mem string, want api.Errno) {
		t.Helper()
		if x, e := Run(l, mem, 7); (x != api.Result{}) || e != want {
			t.Errorf("Run(%v, %q) = %v %d, and must be %d", l, mem, x, e, want)
		}
	}
	for want, l := range wrongPrograms() {
		check(l, rising(), want)
		check(l, "", want)
	}
	check([]api.Instr{exit}, "", api.ErrForm)
	check([]api.Instr{exit}, rising()+"x", api.ErrForm)
}

func read(t *testing.T, lines ...string) []api.Instr {
	t.Helper()
	l, e := code.Read(strings.Join(lines, "\n") + "\n")
	if e != api.OK {
		t.Fatalf("%q is no program", lines)
	}
	return l
}

func TestRun(t *testing.T) {
	guarded := []string{"mov r0 0", "iflt r1 64 1", "exit", "load 1 r0 r1 0", "add r0 1", "exit"}
	stored := rising()[:8] + "\xfe\xff" + rising()[10:]
	for _, c := range []struct {
		lines []string
		arg   uint64
		want  api.Result
	}{
		{guarded, 7, api.Result{End: api.Stopped, At: 5, Steps: 5, Ret: 9, Mem: rising()}},
		{guarded, 63, api.Result{End: api.Stopped, At: 5, Steps: 5, Ret: 65, Mem: rising()}},
		{guarded, 64, api.Result{End: api.Stopped, At: 2, Steps: 3, Mem: rising()}},
		{[]string{"load 1 r0 r1 0", "exit"}, 64, api.Result{End: api.TrapMem, Steps: 1, Mem: rising()}},
		{[]string{"exit"}, 7, api.Result{End: api.TrapReg, Steps: 1, Mem: rising()}},
		{[]string{"mov r0 r1", "exit"}, top, api.Result{End: api.Stopped, At: 1, Steps: 2, Ret: top, Mem: rising()}},
		{[]string{"jump 1", "exit", "mov r0 9", "exit", "exit"}, 0, api.Result{End: api.Stopped, At: 3, Steps: 3, Ret: 9, Mem: rising()}},
		{[]string{"mov r0 5", "mov r2 r3", "exit"}, 0, api.Result{End: api.TrapReg, At: 1, Steps: 2, Mem: rising()}},
		{[]string{"mov r0 3", "mov r2 65534", "store 2 r1 1 r2", "store 1 r2 0 r2", "exit"}, 7, api.Result{End: api.TrapMem, At: 3, Steps: 4, Mem: stored}},
		{[]string{"mov r0 3", "mov r2 65534", "store 2 r1 1 r2", "exit"}, 7, api.Result{End: api.Stopped, At: 3, Steps: 4, Ret: 3, Mem: stored}},
	} {
		if x, e := Run(read(t, c.lines...), rising(), c.arg); x != c.want || e != api.OK {
			t.Errorf("Run(%q, %d) = %v %d, and must be %v", c.lines, c.arg, x, e, c.want)
		}
	}
}

// TestRunLong: as many steps as there may be.
func TestRunLong(t *testing.T) {
	l := slices.Repeat([]api.Instr{{Op: api.Add, Dst: 1, Src: api.Const, Imm: 1}}, api.MaxCode)
	l[62], l[63] = api.Instr{Op: api.Mov, Src: 1}, exit
	want := api.Result{End: api.Stopped, At: 63, Steps: 64, Ret: 61, Mem: rising()}
	if x, e := Run(l, rising(), top); x != want || e != api.OK {
		t.Errorf("Run = %v %d, and must be %v", x, e, want)
	}
}

// TestRunSteps: a run is what Step does, one after the other, and no more of them than there are.
func TestRunSteps(t *testing.T) {
	for seed := range uint64(3000) {
		d := draw(seed)
		l := d.program(2 + d.n(30))
		kept := slices.Clone(l)
		for _, arg := range []uint64{0, 7, 63, 64, top, top - 7} {
			m, _ := Start(rising(), arg)
			steps := 0
			for m.End == api.NoTrap && steps <= len(l) {
				n, e := Step(l, m)
				if again, f := Step(l, m); n != again || e != api.OK || f != api.OK || Check(n) != api.OK {
					t.Fatalf("Step(%v, %v) = %v %d, and then %v %d", l, m, n, e, again, f)
				}
				m = n
				steps++
			}
			want := api.Result{End: m.End, At: m.At, Steps: steps, Mem: m.Mem}
			if m.End == api.Stopped {
				want.Ret = m.Regs[0]
			}
			if x, e := Run(l, rising(), arg); x != want || e != api.OK || steps > len(l) {
				t.Fatalf("Run(%v, %d) = %v %d, and must be %v", l, arg, x, e, want)
			}
		}
		if !slices.Equal(l, kept) {
			t.Fatalf("%v was changed to %v", kept, l)
		}
	}
}

// draw: numbers that are the same each time.
type draw uint64

func (d *draw) n(n int) int {
	*d = *d*6364136223846793005 + 1442695040888963407
	return int(uint64(*d) >> 33 % uint64(n))
}

// program answers one of n steps, right, of all kinds.
func (d *draw) program(n int) []api.Instr {
	l := []api.Instr{{Op: api.Mov, Dst: d.n(3), Src: api.Const, Imm: uint64(d.n(70))}}
	for len(l) < n-1 {
		i := api.Instr{Op: 1 + d.n(15), Dst: d.n(3), Src: d.n(4) - 1}
		further := d.n(n - 1 - len(l))
		switch i.Op {
		case api.Load, api.Store:
			i.Src, i.Imm, i.Off = d.n(3), 1<<d.n(4), d.n(129)-64
		case api.Jump:
			i.Dst, i.Src, i.Off = 0, 0, further
		case api.IfEq, api.IfLt:
			i.Off = further
		case api.Exit:
			i.Dst, i.Src = 0, 0
		}
		if i.Src == api.Const {
			i.Imm = uint64(d.n(70))
		}
		l = append(l, i)
	}
	return append(l, exit)
}
