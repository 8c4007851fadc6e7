package fold

import (
	"slices"
	"testing"

	"tnumward/api"
	"tnumward/code"
	"tnumward/flow"
	"tnumward/run"
	"tnumward/verify"
)

// draw: numbers that are the same each time.
type draw uint64

func (d *draw) n(n int) int {
	*d = *d*6364136223846793005 + 1442695040888963407
	return int(uint64(*d) >> 33 % uint64(n))
}

// program answers one of n steps, of all kinds, many of which do not trap.
func (d *draw) program(n int) []api.Instr {
	l := []api.Instr{{Op: api.Mov, Src: api.Const, Imm: uint64(d.n(9))}, {Op: api.Mov, Dst: 2, Src: 1}, {Op: api.And, Dst: 2, Src: api.Const, Imm: 31}}
	for len(l) < n-1 {
		i := api.Instr{Op: 1 + d.n(15), Dst: d.n(3), Src: d.n(4) - 1}
		further := d.n(n - 1 - len(l))
		switch i.Op {
		case api.Load:
			i.Dst, i.Src, i.Imm, i.Off = d.n(4), 2*d.n(2), 1<<d.n(4), d.n(20)
		case api.Store:
			i.Dst, i.Src, i.Imm, i.Off = 2*d.n(2), d.n(3), 1<<d.n(4), d.n(20)
		case api.Mov:
			i.Dst = d.n(6)
		case api.Jump:
			i = api.Instr{Op: api.Jump, Off: min(further, d.n(4))}
		case api.IfEq, api.IfLt:
			i.Off = further
		case api.Exit:
			i = api.Instr{Op: api.IfLt, Dst: 1 + d.n(2), Src: api.Const, Off: further}
		}
		if i.Src == api.Const {
			i.Imm = uint64(d.n(70))
		}
		if d.n(30) == 0 {
			i = exit
		}
		l = append(l, i)
	}
	return append(l, exit)
}

// mem answers bytes of memory.
func (d *draw) mem() string {
	mem := make([]byte, api.MemSize)
	for n := range mem {
		mem[n] = byte(d.n(256) * d.n(2))
	}
	return string(mem)
}

// becomes answers, by the words of H1, what the step at becomes.
func becomes(l []api.Instr, at int, s api.State) api.Instr {
	i := l[at]
	behind, there, _, _ := flow.Step(i, s)
	switch {
	case at == len(l)-1:
		return i
	case !s.Live:
		return idle
	case i.Op >= api.Mov && i.Op <= api.Shr && behind.Regs[i.Dst].Bits.Mask == 0:
		return api.Instr{Op: api.Mov, Dst: i.Dst, Src: api.Const, Imm: behind.Regs[i.Dst].Bits.Value}
	case (i.Op == api.IfEq || i.Op == api.IfLt) && !there.Live:
		return idle
	case (i.Op == api.IfEq || i.Op == api.IfLt) && !behind.Live:
		return api.Instr{Op: api.Jump, Off: i.Off}
	}
	return i
}

// nexts answers where the program may go on from the step at.
func nexts(l []api.Instr, at int) []int {
	switch i := l[at]; i.Op {
	case api.Exit:
		return nil
	case api.Jump:
		return []int{at + 1 + i.Off}
	case api.IfEq, api.IfLt:
		return []int{at + 1, at + 1 + i.Off}
	}
	return []int{at + 1}
}

func setting(i api.Instr) bool { return i.Op >= api.Mov && i.Op <= api.Load }

// uses tells, by the words of chapter 5, whether i uses r.
func uses(i api.Instr, r int) bool {
	switch {
	case i.Op == api.Exit:
		return r == 0
	case i.Op == api.Jump:
		return false
	case i.Src == r:
		return true
	}
	return i.Dst == r && i.Op != api.Mov && i.Op != api.Load
}

// isLive tells whether there is a way from the step at to a use of r, with no step on it that sets r.
func isLive(l []api.Instr, at, r int) bool {
	todo, seen := []int{at}, make([]bool, len(l))
	for len(todo) > 0 {
		at := todo[0]
		todo = todo[1:]
		if seen[at] {
			continue
		}
		seen[at] = true
		if uses(l[at], r) {
			return true
		}
		if !(setting(l[at]) && l[at].Dst == r) {
			todo = append(todo, nexts(l, at)...)
		}
	}
	return false
}

// without answers, by the words of H2, the program rid of what is dead.
func without(l []api.Instr) []api.Instr {
	l = slices.Clone(l)
	for at := len(l) - 1; at >= 0; at-- {
		live := slices.ContainsFunc(nexts(l, at), func(n int) bool { return isLive(l, n, l[at].Dst) })
		if setting(l[at]) && !live {
			l[at] = idle
		}
	}
	return l
}

// checkSame holds what runs of both come to against each other.
func checkSame(t *testing.T, l, changed []api.Instr, mem string) {
	t.Helper()
	if x, e := verify.Verify(changed); x.Trap != api.NoTrap || e != api.OK {
		t.Fatalf("%v, of %v, traps: %d", changed, l, e)
	}
	for _, arg := range []uint64{0, 1, 7, 31, 32, 63, 64, 1 << 63, top - 7, top} {
		want, _ := run.Run(l, mem, arg)
		if x, e := run.Run(changed, mem, arg); x != want || want.End != api.Stopped || e != api.OK {
			t.Fatalf("%v, of %v, comes to %v %d, and must to %v", changed, l, x, e, want)
		}
	}
}

// TestDrawn: Fold and Dead answer what the chapter tells, and what they answer does what it did.
func TestDrawn(t *testing.T) {
	safe, trapped := 0, 0
	for seed := range uint64(6000) {
		d := draw(seed)
		l := d.program(5 + d.n(20))
		report, _ := verify.Verify(l)
		fold, dead := slices.Clone(l), slices.Clone(l)
		if report.Trap == api.NoTrap {
			for at := range l {
				fold[at] = becomes(l, at, report.States[at])
			}
			dead = without(l)
		}
		a, e := Fold(l)
		b, f := Dead(l)
		if !slices.Equal(a, fold) || e != api.OK || !slices.Equal(b, dead) || f != api.OK {
			t.Fatalf("Fold(%v) = %v %d, and must be %v; Dead %v %d, and must be %v", l, a, e, fold, b, f, dead)
		}
		if report.Trap != api.NoTrap {
			trapped++
			continue
		}
		safe++
		mem := d.mem()
		both, _ := Dead(a)
		turned, _ := Fold(b)
		for _, changed := range [][]api.Instr{a, b, both, turned} {
			checkSame(t, l, changed, mem)
		}
	}
	if safe < 1000 || trapped < 1000 {
		t.Errorf("%d programs are safe, %d trap: too few were tried", safe, trapped)
	}
}

// TestKept: what is handed in is as it was, the room behind it too, and an answer is another's each time.
func TestKept(t *testing.T) {
	for seed := range uint64(300) {
		d := draw(seed)
		drawn := d.program(5 + d.n(20))
		room := append(slices.Clone(drawn), api.Instr{Op: 77}, api.Instr{Op: 78})
		kept := slices.Clone(room)
		l := room[:len(drawn)]
		for _, f := range []call{Fold, Dead} {
			got, _ := f(l)
			want := slices.Clone(got)
			clear(got[:cap(got)])
			if !slices.Equal(room, kept) {
				t.Fatalf("%v was changed to %v", kept, room)
			}
			if again, e := f(l); !slices.Equal(again, want) || e != api.OK || code.Check(again) != api.OK {
				t.Fatalf("of %v comes again %v %d, and must %v", l, again, e, want)
			}
		}
	}
}
