package code

import (
	"math/big"
	"regexp"
	"slices"
	"strings"
	"testing"

	"tnumward/api"
)

func TestRead(t *testing.T) {
	for _, c := range shown() {
		if l, e := Read(c.text); !slices.Equal(l, c.l) || e != api.OK {
			t.Errorf("Read(%q) = %v %d, and must be %v", c.text, l, e, c.l)
		}
	}
}

func checkNone(t *testing.T, s string) {
	t.Helper()
	if l, e := Read(s); len(l) != 0 || e != api.ErrForm {
		t.Errorf("Read(%.80q) = %v %d", s, l, e)
	}
}

func TestReadWrong(t *testing.T) {
	for _, s := range []string{
		"", "\n", " ", "exit", "exit\n\n", "\nexit\n", "exit\r\n", "exit \n", " exit\n", "exit 0\n", "Exit\n", "exit\x00\n", "exit\nexit", "\xff\n",
		"exit\nmov r0 1\n", "jump 0\n", "quit\n", "exit\nquit\nexit\n",
	} {
		checkNone(t, s)
	}
	for _, line := range []string{
		"mov", "mov ", "mov r0", "mov r0 ", "mov  r0 1", "mov r0  1", "mov r0 1 ", "mov r0 1 2", "mov\tr0 1", "mov r0,1", "mov r0 r1 r2", "nop r0 1", "MOV r0 1",
		"mov r6 1", "mov r-1 1", "mov r+1 1", "mov r00 1", "mov r 1", "mov 0 1", "mov R0 1", "mov rr0 1", "mov r99999999999999999999 1", "mov 1 r0", "mov r0 r6", "mov r0 r", "mov r0 r01", "mov r0 r-1",
		"mov r0 00", "mov r0 01", "mov r0 -1", "mov r0 -0", "mov r0 +1", "mov r0 1_0", "mov r0 0x1", "mov r0 1e1", "mov r0 1.0", "mov r0 18446744073709551616", "mov r0 99999999999999999999999",
		"load r0 r1 0", "load 3 r0 r1 0", "load 0 r0 r1 0", "load 16 r0 r1 0", "load 01 r0 r1 0", "load 8 r0 r1", "load 8 r0 r1 65", "load 8 r0 r1 -65", "load 8 r0 r1 -0", "load 8 r0 r1 00", "load 8 r0 r1 +1", "load 8 r0 r1 - 1", "load 8 r0 1 0", "load 8 0 r1 0", "load 8 r0 r6 0", "load 8 r6 r0 0", "load 8 r0 0 r1", "load 8 r0 r1 r2",
		"store 2 r1 63 5", "store 2 r1 r0 63", "store 2 r1 65 r0", "store 2 r1 -65 r0", "store 3 r1 0 r0", "store 2 1 0 r0", "store 2 r1 0 r6",
		"jump", "jump 1", "jump -1", "jump -0", "jump 00", "jump r0", "jump 0 0", "jump 9223372036854775807", "jump 9223372036854775808", "jump 18446744073709551615",
		"ifeq r1 7", "ifeq r1 7 1", "ifeq r1 7 -1", "ifeq r1 7 0 0", "ifeq 1 7 0", "ifeq r1 -7 0", "iflt r1 r6 0", "iflt r6 r1 0", "iflt r1 r1 r1", "iflt r1 07 0",
		"",
	} {
		checkNone(t, line+"\nexit\n")
	}
}

// TestReadMany: steps and bytes at their bounds, and beyond them.
func TestReadMany(t *testing.T) {
	for n := 1; n <= 64; n++ {
		if l, e := Read(strings.Repeat("exit\n", n)); len(l) != n || e != api.OK {
			t.Errorf("%d steps: %d %d", n, len(l), e)
		}
	}
	widest := "iflt r5 18446744073709551615 0\n"
	if l, e := Read(strings.Repeat(widest, 63) + "exit\n"); len(l) != 64 || e != api.OK {
		t.Errorf("the widest: %d steps %d", len(l), e)
	}
	for _, s := range []string{
		strings.Repeat("exit\n", 65),
		strings.Repeat("exit\n", 819),
		strings.Repeat("exit\n", 820),
		"mov r0 " + strings.Repeat("0", 4090-7) + "\nexit\n",
		"mov r0 " + strings.Repeat("1", 5000) + "\nexit\n",
		strings.Repeat("\n", 4096), strings.Repeat("\n", 4097), strings.Repeat(" ", 4097),
		strings.Repeat("exit\n", 1<<20),
	} {
		checkNone(t, s)
	}
}

const (
	numberForm = `0|[1-9][0-9]*`
	signedForm = `0|-?[1-9][0-9]*`
)

// lineForm is the form of a line, by the table of the chapter; its groups are the numbers that have bounds.
var lineForm = regexp.MustCompile(`^(?:` +
	`(?:mov|add|sub|mul|and|or|xor|shl|shr) r[0-5] (?:r[0-5]|(?P<imm1>` + numberForm + `))|` +
	`load [1248] r[0-5] r[0-5] (?P<off1>` + signedForm + `)|` +
	`store [1248] r[0-5] (?P<off2>` + signedForm + `) r[0-5]|` +
	`jump (?P<far1>` + numberForm + `)|` +
	`(?:ifeq|iflt) r[0-5] (?:r[0-5]|(?P<imm2>` + numberForm + `)) (?P<far2>` + numberForm + `)|` +
	`exit)$`)

func between(word string, low, high *big.Int) bool {
	n, ok := new(big.Int).SetString(word, 10)
	return ok && n.Cmp(low) >= 0 && n.Cmp(high) <= 0
}

// isLine tells whether it is a line of a program, with so many behind it.
func isLine(line string, behind int) bool {
	found := lineForm.FindStringSubmatch(line)
	if found == nil {
		return false
	}
	for n, name := range lineForm.SubexpNames() {
		if n == 0 || found[n] == "" {
			continue
		}
		low, high := big.NewInt(0), big.NewInt(int64(behind-1))
		switch name[:3] {
		case "imm":
			high = new(big.Int).SetUint64(top)
		case "off":
			low, high = big.NewInt(-64), big.NewInt(64)
		}
		if !between(found[n], low, high) {
			return false
		}
	}
	return true
}

// isShown tells whether a program is shown so.
func isShown(s string) bool {
	lines := strings.Split(s, "\n")
	n := len(lines) - 1
	if n < 1 || n > 64 || lines[n] != "" || lines[n-1] != "exit" {
		return false
	}
	for k, line := range lines[:n] {
		if !isLine(line, n-1-k) {
			return false
		}
	}
	return true
}

func checkRead(t *testing.T, s string) {
	l, e := Read(s)
	if !isShown(s) {
		if len(l) != 0 || e != api.ErrForm {
			t.Fatalf("Read(%q) = %v %d, and there is none", s, l, e)
		}
		return
	}
	if back, f := Show(l); e != api.OK || f != api.OK || back != s {
		t.Fatalf("Read(%q) = %v %d, shown as %q", s, l, e, back)
	}
}

// TestReadNear: all texts that are one byte away from one that is shown.
func TestReadNear(t *testing.T) {
	for _, c := range shown() {
		if len(c.text) > 200 {
			continue
		}
		for at := range len(c.text) + 1 {
			checkRead(t, c.text[:at])
			for b := range 256 {
				checkRead(t, c.text[:at]+string([]byte{byte(b)})+c.text[at:])
				if at < len(c.text) {
					checkRead(t, c.text[:at]+string([]byte{byte(b)})+c.text[at+1:])
				}
			}
			if at < len(c.text) {
				checkRead(t, c.text[:at]+c.text[at+1:])
			}
		}
	}
}

// TestReadWords: lines of all operations' names and words, whether they fit or not.
func TestReadWords(t *testing.T) {
	words := []string{"", " r0", " r5", " r6", " 0", " 1", " 3", " 8", " -1", " 64", " 65", " -64", " -65", " 18446744073709551615", " 18446744073709551616"}
	for _, name := range []string{"mov", "shr", "load", "store", "jump", "ifeq", "iflt", "exit", "", "r0", "1"} {
		for _, a := range words {
			for _, b := range words {
				for _, c := range words {
					for _, d := range words {
						checkRead(t, name+a+b+c+d+"\nexit\nexit\n")
					}
				}
			}
		}
	}
}

// TestRoundTrip: each step that is right is shown, read, and is the same.
func TestRoundTrip(t *testing.T) {
	for _, i := range steps() {
		l := []api.Instr{i, exit, exit, exit}
		if Check(l) != api.OK {
			continue
		}
		s, e := Show(l)
		if !isShown(s) || e != api.OK {
			t.Fatalf("Show(%v) = %q %d", l, s, e)
		}
		if back, e := Read(s); !slices.Equal(back, l) || e != api.OK {
			t.Fatalf("Read(%q) = %v %d, and must be %v", s, back, e, l)
		}
	}
}
