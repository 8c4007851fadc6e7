package fold

import (
	"iter"

	"tnumward/api"
	"tnumward/use"
)

// regs has, of each register, whether it is live: whether what is in it may still be used.
type regs [api.Regs]bool

// rid puts steps that do nothing in the place of those that set what is not live behind them.
func rid(l []api.Instr) {
	ahead := make([]regs, len(l))
	for at := range fromBehind(len(l)) {
		behind := liveBehind(l[at], ahead[at:])
		if sets(l[at]) && !behind[l[at].Dst] {
			l[at] = onward()
		}
		ahead[at] = liveAhead(l[at], behind)
	}
}

// fromBehind goes through the numbers of n steps, from the last one to the first one.
func fromBehind(n int) iter.Seq[int] {
	return func(yield func(int) bool) {
		for at := n - 1; at >= 0; at-- {
			if !yield(at) {
				return
			}
		}
	}
}

// liveBehind answers what is live behind i, if ahead is what is live ahead of it and of those behind it.
func liveBehind(i api.Instr, ahead []regs) regs {
	switch {
	case i.Op == api.Exit:
		return regs{}
	case i.Op == api.Jump:
		return ahead[1+i.Off]
	case branches(i):
		return either(ahead[1], ahead[1+i.Off])
	}
	return ahead[1]
}

// liveAhead answers what is live ahead of i.
func liveAhead(i api.Instr, behind regs) regs {
	if sets(i) {
		behind[i.Dst] = false
	}
	return either(use.Of(i), behind)
}

// sets tells whether i puts something into Dst.
func sets(i api.Instr) bool { return i.Op <= api.Load }

func either(a, b regs) regs {
	for r := range a {
		a[r] = a[r] || b[r]
	}
	return a
}
