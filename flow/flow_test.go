package flow

import (
	"math"
	"strings"
	"testing"

	"tnumward/api"
	"tnumward/val"
)

const top = uint64(api.Top)

// span answers the right Val of all numbers from low to high.
func span(low, high uint64) api.Val {
	v, _, _ := val.Norm(api.Val{Bits: api.Bits{Mask: top}, Low: low, High: high})
	return v
}

// odd answers the right Val of all odd numbers from low to high.
func odd(low, high uint64) api.Val {
	v, _, _ := val.Norm(api.Val{Bits: api.Bits{Value: 1, Mask: top - 1}, Low: low, High: high})
	return v
}

// vals answers right ones of many kinds.
func vals() []api.Val {
	return []api.Val{val.Of(0), val.Of(1), val.Of(5), val.Of(9), val.Of(64), val.Of(top), val.Of(1 << 63), val.Any(), span(0, 1), span(0, 63), span(3, 9), span(5, 6), span(60, 70), span(1, top), span(0, top-1), span(top-3, top), odd(3, 9), odd(1, top), {Bits: api.Bits{Mask: 0xf0}, High: 0xf0}, {Bits: api.Bits{Value: 1 << 63, Mask: 7}, Low: 1 << 63, High: 1<<63 + 7}}
}

// wrongVals answers ones that are not right.
func wrongVals() []api.Val {
	return []api.Val{{Low: 1}, {High: 1}, {Bits: api.Bits{Value: 1}}, {Bits: api.Bits{Mask: 1}}, {Bits: api.Bits{Value: 1, Mask: 1}}, {Bits: api.Bits{Mask: top}, Low: 3, High: 9}, {Bits: api.Bits{Mask: 15}, Low: 9, High: 3}, {Bits: api.Bits{Value: 1, Mask: 14}, Low: 2, High: 9}}
}

// live answers a state with registers from 0 on set to these.
func live(vs ...api.Val) api.State {
	s := api.State{Live: true}
	for r, v := range vs {
		s.Set[r], s.Regs[r] = true, v
	}
	return s
}

// unset answers s without register r.
func unset(s api.State, r int) api.State {
	s.Set[r], s.Regs[r] = false, api.Val{}
	return s
}

func full() api.State {
	return live(val.Of(3), val.Any(), span(0, 31), odd(3, 9), span(top-3, top), val.Of(0))
}

// wrongStates answers ones that are not right.
func wrongStates() []api.State {
	var out []api.State
	for r := range api.Regs {
		for _, v := range wrongVals() {
			s := full()
			s.Regs[r] = v
			out = append(out, s)
		}
		for _, v := range append(wrongVals(), val.Of(1), val.Any(), odd(3, 9)) {
			s := full()
			s.Set[r], s.Regs[r] = false, v
			out = append(out, s)
			dead := api.State{}
			dead.Regs[r] = v
			out = append(out, dead)
		}
		dead := api.State{}
		dead.Set[r] = true
		out = append(out, dead)
	}
	dead := full()
	dead.Live = false
	return append(out, dead)
}

// rightStates answers right ones, all but the first one Live.
func rightStates() []api.State {
	out := []api.State{{}, live(), Begin(), full()}
	for _, v := range vals() {
		out = append(out, live(v), live(val.Of(7), v), unset(live(v, v, v, v, v, v), 2))
	}
	for r := range api.Regs {
		out = append(out, unset(full(), r))
	}
	return out
}

func TestCheck(t *testing.T) {
	for _, s := range rightStates() {
		if e := Check(s); e != api.OK {
			t.Errorf("Check(%v) = %d", s, e)
		}
	}
	for _, s := range wrongStates() {
		if e := Check(s); e != api.ErrForm {
			t.Errorf("Check(%v) = %d", s, e)
		}
	}
}

func TestBegin(t *testing.T) {
	want := api.State{Live: true}
	want.Set[1] = true
	want.Regs[1] = api.Val{Bits: api.Bits{Mask: top}, High: top}
	if s := Begin(); s != want {
		t.Errorf("Begin() = %v", s)
	}
}

// machine answers one with registers from 0 on set to these.
func machine(regs ...uint64) api.Machine {
	m := api.Machine{Mem: strings.Repeat("m", api.MemSize)}
	for r, x := range regs {
		m.Regs[r], m.Set[r] = x, true
	}
	return m
}

func TestHasNumbers(t *testing.T) {
	tried := []uint64{0, 1, 2, 3, 4, 5, 6, 8, 9, 10, 11, 16, 59, 60, 63, 64, 70, 71, 0xf0, 0x50, 1 << 63, 1<<63 + 7, 1<<63 + 8, top - 4, top - 3, top - 1, top}
	for _, v := range vals() {
		for _, x := range tried {
			for r := range api.Regs {
				s, m := api.State{Live: true}, machine(8, 8, 8, 8, 8, 8)
				s.Set[r], s.Regs[r], m.Regs[r] = true, v, x
				if Has(s, m) != val.Has(v, x) {
					t.Fatalf("Has(%v, %v) = %v", s, m, Has(s, m))
				}
				m.Set[r], m.Regs[r] = false, 0
				if Has(s, m) {
					t.Fatalf("Has(%v, %v), where it is not set", s, m)
				}
			}
		}
	}
}

func TestHas(t *testing.T) {
	s := live(val.Of(3), odd(3, 9))
	for _, at := range []int{0, 1, 63} {
		m := machine(3, 5)
		m.At = at
		if !Has(s, m) || !Has(live(), m) || Has(api.State{}, m) {
			t.Errorf("Has of %v", m)
		}
		for end := api.TrapReg; end <= api.Stopped; end++ {
			m.End = end
			if Has(s, m) || Has(live(), m) {
				t.Errorf("Has(%v, %v)", s, m)
			}
		}
	}
	if !Has(s, machine(3, 7, 1, 2, 3, 4)) || Has(s, machine(3, 6)) || Has(s, machine(4, 7)) || Has(s, machine(3)) || Has(s, machine()) {
		t.Errorf("Has of %v", s)
	}
	if !Has(live(), machine()) || !Has(Begin(), machine(0, top)) {
		t.Errorf("Has of what knows little")
	}
}

// TestHasWrong: nothing is in a state that is not right, and no machine that is not right is in one.
func TestHasWrong(t *testing.T) {
	for _, s := range wrongStates() {
		for _, x := range []uint64{0, 1, 3, top} {
			if m := machine(3, x, x, 3, top, 0); Has(s, m) {
				t.Errorf("Has(%v, %v)", s, m)
			}
		}
	}
	wrong := []api.Machine{{}}
	for _, turn := range []func(m *api.Machine){
		func(m *api.Machine) { m.Mem = m.Mem[1:] },
		func(m *api.Machine) { m.Mem += "m" },
		func(m *api.Machine) { m.At = -1 },
		func(m *api.Machine) { m.At = 64 },
		func(m *api.Machine) { m.End = -1 },
		func(m *api.Machine) { m.End = 4 },
		func(m *api.Machine) { m.End = math.MaxInt },
		func(m *api.Machine) { m.Regs[5] = 1 },
	} {
		m := machine(3)
		turn(&m)
		wrong = append(wrong, m)
	}
	for _, m := range wrong {
		if Has(live(), m) || Has(live(val.Of(3)), m) || Has(api.State{}, m) {
			t.Errorf("Has of %v", m)
		}
	}
}

func TestJoin(t *testing.T) {
	for _, s := range rightStates() {
		for _, u := range rightStates() {
			want := api.State{Live: true}
			for r := range api.Regs {
				if s.Set[r] && u.Set[r] {
					want.Set[r] = true
					want.Regs[r], _ = val.Join(s.Regs[r], u.Regs[r])
				}
			}
			if !s.Live {
				want = u
			} else if !u.Live {
				want = s
			}
			if got, e := Join(s, u); got != want || e != api.OK || Check(got) != api.OK {
				t.Fatalf("Join(%v, %v) = %v %d, and must be %v", s, u, got, e, want)
			}
		}
	}
}

// TestJoinWritten: answers written out.
func TestJoinWritten(t *testing.T) {
	s := live(val.Of(1), val.Of(4), val.Of(5))
	u := unset(live(val.Of(5), val.Of(0), val.Of(5), val.Of(2)), 1)
	want := unset(live(api.Val{Bits: api.Bits{Value: 1, Mask: 4}, Low: 1, High: 5}, val.Of(0), val.Of(5)), 1)
	for range 2 {
		if got, e := Join(s, u); got != want || e != api.OK {
			t.Errorf("Join(%v, %v) = %v %d, and must be %v", s, u, got, e, want)
		}
		s, u = u, s
	}
	if got, e := Join(api.State{}, api.State{}); got != (api.State{}) || e != api.OK {
		t.Errorf("Join of nothing = %v %d", got, e)
	}
}

func TestJoinWrong(t *testing.T) {
	for _, s := range wrongStates() {
		for _, u := range []api.State{{}, live(), full(), s} {
			for range 2 {
				if got, e := Join(s, u); got != (api.State{}) || e != api.ErrForm {
					t.Fatalf("Join(%v, %v) = %v %d", s, u, got, e)
				}
				s, u = u, s
			}
		}
	}
}
