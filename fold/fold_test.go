package fold

import (
	"slices"
	"strings"
	"testing"

	"tnumward/api"
	"tnumward/code"
	"tnumward/verify"
)

const top = uint64(api.Top)

var (
	exit = api.Instr{Op: api.Exit}
	idle = api.Instr{Op: api.Jump}
)

type call func(l []api.Instr) ([]api.Instr, api.Errno)

// lines answers the program of these, which are parted by commas.
func lines(t *testing.T, text string) []api.Instr {
	t.Helper()
	l, e := code.Read(strings.ReplaceAll(text, ", ", "\n") + "\n")
	if e != api.OK {
		t.Fatalf("%q is no program", text)
	}
	return l
}

// checkAll holds what c makes of each program against what stands behind it.
func checkAll(t *testing.T, c call, cases [][2]string) {
	t.Helper()
	for _, k := range cases {
		if l, e := c(lines(t, k[0])); !slices.Equal(l, lines(t, k[1])) || e != api.OK {
			shown, _ := code.Show(l)
			t.Errorf("of %q comes %q %d, and must %q", k[0], shown, e, k[1])
		}
	}
}

func TestFold(t *testing.T) {
	checkAll(t, Fold, [][2]string{
		// Example 8.
		{"and r1 3, iflt r1 5 1, exit, mov r0 0, exit", "and r1 3, jump 1, jump 0, mov r0 0, exit"},
		{"mov r0 0, and r1 3, iflt r1 0 1, mov r0 1, exit", "mov r0 0, and r1 3, jump 0, mov r0 1, exit"},
		{"mov r0 0, and r1 3, iflt r1 r1 1, mov r0 r1, exit", "mov r0 0, and r1 3, iflt r1 r1 1, mov r0 r1, exit"},
		{"mov r0 0, iflt r0 r0 1, mov r0 r1, exit", "mov r0 0, jump 0, mov r0 r1, exit"},
		{"mov r0 4, ifeq r0 4 1, mov r0 r1, exit", "mov r0 4, jump 1, jump 0, exit"},
		{"mov r0 4, ifeq r0 5 1, mov r0 r1, exit", "mov r0 4, jump 0, mov r0 r1, exit"},
		{"mov r0 4, ifeq r0 r0 0, mov r0 r1, exit", "mov r0 4, jump 0, mov r0 r1, exit"},
		{"mov r0 4, ifeq r0 r1 1, mov r0 r1, exit", "mov r0 4, ifeq r0 r1 1, mov r0 r1, exit"},
		{"mov r0 4, ifeq r1 7 0, mov r2 r1, exit", "mov r0 4, ifeq r1 7 0, mov r2 r1, exit"},
		{"mov r0 4, ifeq r1 7 1, exit, mov r0 r1, exit", "mov r0 4, ifeq r1 7 1, exit, mov r0 7, exit"},
		{"mov r0 0, iflt r1 1 1, exit, mov r0 r1, exit", "mov r0 0, iflt r1 1 1, exit, mov r0 0, exit"},
		// Each operation, of numbers that are known.
		{"mov r0 6, mov r2 r0, exit", "mov r0 6, mov r2 6, exit"},
		{"mov r0 6, add r0 r0, exit", "mov r0 6, mov r0 12, exit"},
		{"mov r0 6, sub r0 7, exit", "mov r0 6, mov r0 18446744073709551615, exit"},
		{"mov r0 6, mul r0 7, exit", "mov r0 6, mov r0 42, exit"},
		{"mov r0 6, and r0 3, exit", "mov r0 6, mov r0 2, exit"},
		{"mov r0 6, or r0 3, exit", "mov r0 6, mov r0 7, exit"},
		{"mov r0 6, xor r0 3, exit", "mov r0 6, mov r0 5, exit"},
		{"mov r0 6, shl r0 62, exit", "mov r0 6, mov r0 9223372036854775808, exit"},
		{"mov r0 6, shr r0 1, exit", "mov r0 6, mov r0 3, exit"},
		// One alone, of what is not known.
		{"and r1 0, mov r0 r1, exit", "mov r1 0, mov r0 0, exit"},
		{"and r1 1, or r1 1, mov r0 r1, exit", "and r1 1, mov r1 1, mov r0 1, exit"},
		{"shr r1 63, shl r1 63, shl r1 1, mov r0 r1, exit", "shr r1 63, shl r1 63, mov r1 0, mov r0 0, exit"},
		// Not one alone, though it is 0 whatever is handed in.
		{"mov r0 r1, sub r0 r0, exit", "mov r0 r1, sub r0 r0, exit"},
		{"mov r0 r1, xor r0 r1, exit", "mov r0 r1, xor r0 r1, exit"},
		{"mov r0 5, iflt r1 9 1, mov r0 7, mov r2 r0, exit", "mov r0 5, iflt r1 9 1, mov r0 7, mov r2 r0, exit"},
		{"mov r0 5, iflt r1 9 1, mov r0 5, mov r2 r0, exit", "mov r0 5, iflt r1 9 1, mov r0 5, mov r2 5, exit"},
		// Steps that stay as they are.
		{"mov r0 1, load 8 r2 r0 0, store 1 r0 -1 r0, mov r3 r2, exit", "mov r0 1, load 8 r2 r0 0, store 1 r0 -1 r0, mov r3 r2, exit"},
		{"mov r0 1, jump 0, jump 1, mov r0 2, exit", "mov r0 1, jump 0, jump 1, jump 0, exit"},
		// What is not come to, but the last one.
		{"mov r0 1, exit, load 1 r0 r5 0, store 8 r1 0 r1, iflt r1 3 1, exit, jump 1, mov r0 r3, exit", "mov r0 1, exit, jump 0, jump 0, jump 0, jump 0, jump 0, jump 0, exit"},
		{"mov r0 1, exit, exit", "mov r0 1, exit, exit"},
	})
}

func TestDead(t *testing.T) {
	checkAll(t, Dead, [][2]string{
		{"mov r0 1, mov r0 2, exit", "jump 0, mov r0 2, exit"},
		{"mov r0 1, mov r0 r0, exit", "mov r0 1, mov r0 r0, exit"},
		{"mov r0 1, add r0 r0, exit", "mov r0 1, add r0 r0, exit"},
		{"mov r2 1, mov r0 r2, mov r2 3, exit", "mov r2 1, mov r0 r2, jump 0, exit"},
		// Used by what is dead itself.
		{"mov r2 1, mov r3 r2, add r3 r2, mov r0 0, exit", "jump 0, jump 0, jump 0, mov r0 0, exit"},
		{"mov r2 7, load 1 r3 r2 0, mov r0 0, exit", "jump 0, jump 0, mov r0 0, exit"},
		{"mov r2 7, load 1 r2 r2 0, mov r0 r2, exit", "mov r2 7, load 1 r2 r2 0, mov r0 r2, exit"},
		{"mov r0 7, load 1 r0 r0 0, mov r0 1, exit", "jump 0, jump 0, mov r0 1, exit"},
		// Each operation.
		{"mov r0 0, add r1 1, sub r1 1, mul r1 1, and r1 1, or r1 1, xor r1 1, shl r1 1, shr r1 1, exit", "mov r0 0, jump 0, jump 0, jump 0, jump 0, jump 0, jump 0, jump 0, jump 0, exit"},
		{"mov r0 0, shl r1 1, shr r1 1, ifeq r1 3 0, exit", "mov r0 0, shl r1 1, shr r1 1, ifeq r1 3 0, exit"},
		// A store, and what it uses, stays.
		{"mov r0 1, mov r2 2, mov r3 3, store 1 r2 0 r3, exit", "mov r0 1, mov r2 2, mov r3 3, store 1 r2 0 r3, exit"},
		{"mov r0 1, mov r2 2, store 1 r2 0 r0, mov r2 3, exit", "mov r0 1, mov r2 2, store 1 r2 0 r0, jump 0, exit"},
		// A branch goes on in both ways, and uses both.
		{"mov r0 0, mov r2 1, ifeq r1 3 1, mov r0 r2, exit", "mov r0 0, mov r2 1, ifeq r1 3 1, mov r0 r2, exit"},
		{"mov r0 0, mov r2 1, ifeq r1 3 1, exit, mov r0 r2, exit", "mov r0 0, mov r2 1, ifeq r1 3 1, exit, mov r0 r2, exit"},
		{"mov r0 0, mov r2 1, iflt r1 r2 0, exit", "mov r0 0, mov r2 1, iflt r1 r2 0, exit"},
		{"mov r0 0, mov r2 1, iflt r2 r1 1, mov r2 2, exit", "mov r0 0, mov r2 1, iflt r2 r1 1, jump 0, exit"},
		{"mov r0 0, iflt r1 5 1, mov r0 1, mov r0 2, exit", "jump 0, iflt r1 5 1, jump 0, mov r0 2, exit"},
		// A jump goes on in one way: what it leaves out uses nothing; but it is not looked at whether that is come to.
		{"mov r0 0, mov r2 1, jump 1, mov r0 r2, exit", "mov r0 0, jump 0, jump 1, mov r0 r2, exit"},
		{"mov r0 0, mov r2 1, jump 1, exit, mov r0 r2, exit", "jump 0, mov r2 1, jump 1, exit, mov r0 r2, exit"},
		// Behind an Exit nothing is live.
		{"mov r0 0, mov r2 1, exit, mov r0 r2, exit", "mov r0 0, jump 0, exit, mov r0 r2, exit"},
	})
}

// TestTrapped: a program that has a trap is as it is, whatever could be folded, or is dead, ahead of it or behind it.
func TestTrapped(t *testing.T) {
	for _, text := range []string{"exit", "and r1 0, mov r2 3, mov r2 4, exit", "mov r0 0, mov r0 1, ifeq r0 1 1, exit, load 1 r0 r1 0, exit, mov r0 r5, exit", "mov r0 r2, mov r0 1, add r0 1, mov r2 0, exit", "mov r2 r1, load 1 r3 r2 0, mov r0 0, exit"} {
		if x, _ := verify.Verify(lines(t, text)); x.Trap == api.NoTrap {
			t.Errorf("%q has no trap", text)
		}
		checkAll(t, Fold, [][2]string{{text, text}})
		checkAll(t, Dead, [][2]string{{text, text}})
	}
}

func TestErrors(t *testing.T) {
	for _, c := range []struct {
		l    []api.Instr
		want api.Errno
	}{
		{nil, api.ErrMany}, {[]api.Instr{}, api.ErrMany}, {slices.Repeat([]api.Instr{exit}, 65), api.ErrMany},
		{[]api.Instr{{Op: 16}, exit}, api.ErrKind}, {[]api.Instr{{}}, api.ErrKind},
		{[]api.Instr{{Op: api.Jump, Off: 1}, exit}, api.ErrRange}, {[]api.Instr{{Op: api.Load, Imm: 3}, exit}, api.ErrRange},
		{[]api.Instr{exit, {Op: api.Mov}}, api.ErrForm}, {[]api.Instr{{Op: api.Exit, Off: 1}}, api.ErrForm},
	} {
		for _, f := range []call{Fold, Dead} {
			if l, e := f(c.l); len(l) != 0 || e != c.want {
				t.Errorf("of %v comes %v %d, and must %d", c.l, l, e, c.want)
			}
		}
	}
}

// TestLong: as many steps as there may be.
func TestLong(t *testing.T) {
	l := slices.Repeat([]api.Instr{{Op: api.Add, Src: api.Const, Imm: 1}}, api.MaxCode)
	l[0], l[63] = api.Instr{Op: api.Mov, Src: api.Const}, exit
	folded := slices.Clone(l)
	for at := range 63 {
		folded[at] = api.Instr{Op: api.Mov, Src: api.Const, Imm: uint64(at)}
	}
	if got, e := Fold(l); !slices.Equal(got, folded) || e != api.OK {
		t.Errorf("Fold = %v %d", got, e)
	}
	if got, e := Dead(l); !slices.Equal(got, l) || e != api.OK {
		t.Errorf("Dead = %v %d", got, e)
	}
	want := slices.Repeat([]api.Instr{idle}, api.MaxCode)
	want[62], want[63] = folded[62], exit
	if got, e := Dead(folded); !slices.Equal(got, want) || e != api.OK {
		t.Errorf("Dead of Fold = %v %d", got, e)
	}
}

// TestFromBehind: it goes from the last to the first, and ends where it is left.
func TestFromBehind(t *testing.T) {
	if got := slices.Collect(fromBehind(4)); !slices.Equal(got, []int{3, 2, 1, 0}) {
		t.Errorf("fromBehind(4) goes %v", got)
	}
	if got := slices.Collect(fromBehind(0)); len(got) != 0 {
		t.Errorf("fromBehind(0) goes %v", got)
	}
	var got []int
	for at := range fromBehind(4) {
		if got = append(got, at); at == 2 {
			break
		}
	}
	if !slices.Equal(got, []int{3, 2}) {
		t.Errorf("fromBehind(4), left at 2, goes %v", got)
	}
}
