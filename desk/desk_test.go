package desk

import (
	"strings"
	"testing"

	"tnumward/api"
	"tnumward/code"
	"tnumward/fold"
	"tnumward/verify"
)

// text answers the lines, which are parted by commas, with a line feed behind each.
func text(lines string) string {
	return strings.ReplaceAll(lines, ", ", "\n") + "\n"
}

func TestJudge(t *testing.T) {
	for _, c := range [][2]string{
		{"exit", "trap 1 0"},
		{"load 1 r0 r1 0, exit", "trap 2 0"},
		{"mov r0 0, iflt r1 65 1, exit, load 1 r0 r1 0, add r0 1, exit", "trap 2 3"},
		{"mov r0 0, jump 0, jump 0, jump 0, jump 0, jump 0, jump 0, jump 0, jump 0, jump 0, mov r0 r5, exit", "trap 1 10"},
		{"mov r0 0, iflt r1 64 1, exit, load 1 r0 r1 0, add r0 1, exit", "safe, mov r0 0, iflt r1 64 1, exit, load 1 r0 r1 0, add r0 1, exit"},
		{"and r1 3, iflt r1 5 1, exit, mov r0 0, exit", "safe, jump 0, jump 1, jump 0, mov r0 0, exit"},
		{"mov r0 6, mul r0 7, exit", "safe, jump 0, mov r0 42, exit"},
		{"mov r2 63, load 1 r0 r2 0, store 1 r2 -63 r0, mov r3 r2, exit", "safe, mov r2 63, load 1 r0 r2 0, store 1 r2 -63 r0, jump 0, exit"},
		// Folded first: what it used is dead then.
		{"mov r2 6, mov r0 r2, exit", "safe, jump 0, mov r0 6, exit"},
		{"mov r0 18446744073709551615, exit", "safe, mov r0 18446744073709551615, exit"},
	} {
		if s, e := Judge(text(c[0])); s != text(c[1]) || e != api.OK {
			t.Errorf("Judge(%q) = %q %d, and must be %q", c[0], s, e, c[1])
		}
	}
}

func TestErrors(t *testing.T) {
	for _, s := range []string{"", "\n", "exit", "exit\n\n", "\nexit\n", "exit \n", " exit\n", "Exit\n", "mov r0 0\n", "mov r6 0\nexit\n", "mov r0 00\nexit\n", "mov r0 -1\nexit\n", "mov r0 18446744073709551616\nexit\n", "jump 1\nexit\n", "load 3 r0 r1 0\nexit\n", "safe\nmov r0 0\nexit\n", "mov r0 0\r\nexit\r\n", "\x00\xff", strings.Repeat("exit\n", 65), strings.Repeat("x", api.MaxText+1), strings.Repeat("exit\n", 1000)} {
		if got, e := Judge(s); got != "" || e != api.ErrForm {
			t.Errorf("Judge(%q) = %q %d", s, got, e)
		}
	}
}

// steps answers lines of which programs are put together.
func steps() []string {
	return []string{"mov r0 0", "mov r0 r1", "mov r2 9", "and r1 63", "and r1 0", "add r0 r1", "shl r0 1", "load 1 r0 r1 0", "store 1 r1 0 r1", "jump 0", "jump 1", "ifeq r1 0 0", "ifeq r1 5 1", "iflt r1 64 1", "iflt r0 r2 1", "exit"}
}

// judged answers what the chapter tells, by the calls that it names.
func judged(l []api.Instr) string {
	x, _ := verify.Verify(l)
	if x.Trap != api.NoTrap {
		return strings.Join([]string{"trap", digits(x.Trap), digits(x.At)}, " ") + "\n"
	}
	l, _ = fold.Fold(l)
	l, _ = fold.Dead(l)
	shown, _ := code.Show(l)
	return "safe\n" + shown
}

// digits answers a number below 10.
func digits(n int) string { return "0123456789"[n : n+1] }

// texts answers all of n of these steps, and two Exits, so that each jump has where to go.
func texts(n int) []string {
	if n == 0 {
		return []string{"exit\nexit\n"}
	}
	var out []string
	for _, rest := range texts(n - 1) {
		for _, step := range steps() {
			out = append(out, step+"\n"+rest)
		}
	}
	return out
}

// TestAll: what is said of each, asked twice, is what the chapter tells.
func TestAll(t *testing.T) {
	safe, trapped := 0, 0
	for _, s := range texts(4) {
		l, e := code.Read(s)
		if e != api.OK {
			t.Fatalf("%q is no program", s)
		}
		want := judged(l)
		if strings.HasPrefix(want, "safe\n") {
			safe++
		} else {
			trapped++
		}
		for range 2 {
			if got, e := Judge(s); got != want || e != api.OK {
				t.Fatalf("Judge(%q) = %q %d, and must be %q", s, got, e, want)
			}
		}
	}
	if safe < 1000 || trapped < 1000 {
		t.Errorf("%d programs are safe, %d trap: too few were tried", safe, trapped)
	}
}
