// Package sample makes programs, scripts and valid states for the tests of several layers. It calls none of them, so that it stays right where one of them is wrong.
package sample

import (
	"shuttlecock/api"
)

// Dice throws numbers that hang on its first one alone.
type Dice struct{ x uint64 }

func NewDice(n int) *Dice {
	return &Dice{x: uint64(n)*2862933555777941757 + 3037000493}
}

// Roll answers a number from 0 to n - 1.
func (d *Dice) Roll(n int) int {
	d.x ^= d.x << 13
	d.x ^= d.x >> 7
	d.x ^= d.x << 17
	return int(d.x>>1) % n
}

func (d *Dice) shuffle(l []int) {
	for i := range l {
		j := d.Roll(i + 1)
		l[i], l[j] = l[j], l[i]
	}
}

// Program answers the n-th of many valid programs.
func Program(n int) api.Program {
	d := NewDice(n)
	p := make(api.Program, 1+d.Roll(api.MaxFuncs))
	for i := range p {
		for range d.Roll(1 + d.Roll(api.MaxCode+1)) {
			p[i] = append(p[i], instruction(d, len(p)))
		}
	}
	return p
}

func instruction(d *Dice, funcs int) api.Instr {
	do := d.Roll(api.Instrs)
	switch do {
	case api.ISpawn:
		return api.Instr{Do: do, A: d.Roll(funcs)}
	case api.IAcquire, api.IRelease:
		return api.Instr{Do: do, A: d.Roll(api.Sems)}
	case api.ISleep:
		return api.Instr{Do: do, A: d.Roll(20)}
	}
	return api.Instr{Do: do}
}

// Items answers the n-th of many scripts, with a wrong item now and then.
func Items(n, length int) []api.Item {
	d := NewDice(n)
	var out []api.Item
	for range length {
		x := api.Item{Do: api.ItStep, N: 1 + d.Roll(api.MaxPs), Victim: d.Roll(api.MaxPs + 1)}
		switch d.Roll(20) {
		case 0, 1:
			x = api.Item{Do: api.ItExit, N: 1 + d.Roll(12)}
		case 2:
			x = api.Item{Do: api.ItTick, N: d.Roll(10)}
		case 3:
			x = api.Item{Do: api.ItProcs, N: 1 + d.Roll(api.MaxPs)}
		case 4:
			x = api.Item{Do: d.Roll(8) - 2, N: d.Roll(12) - 2, Victim: d.Roll(12) - 2}
		}
		out = append(out, x)
	}
	return out
}

// maker puts the Gs of a state where there is room.
type maker struct {
	*Dice
	s api.State
}

// State answers the n-th of many valid states; of every ten, one has hundreds of Gs.
func State(n int) api.State {
	m := &maker{Dice: NewDice(n), s: api.State{Prog: Program(n), Procs: 1 + n%api.MaxPs, Ps: make([]api.P, api.MaxPs)}}
	gs := 1 + m.Roll(60)
	if n%10 == 9 {
		gs = 1 + m.Roll(api.MaxGs)
	}
	m.s.Clock = m.Roll(100)
	m.processors()
	m.s.Gs = make([]api.G, gs)
	order := make([]int, gs)
	for i := range order {
		order[i] = i + 1
	}
	m.shuffle(order)
	for _, g := range order {
		m.place(g)
	}
	for i := range m.s.Count {
		if len(m.s.Waits[i]) == 0 {
			m.s.Count[i] = []int{0, 0, 1, m.Roll(1000001), 1000000}[m.Roll(5)]
		}
	}
	return m.s
}

func (m *maker) processors() {
	m.s.Ms = make([]api.M, m.Roll(20))
	free := make([]int, len(m.s.Ms))
	for i := range free {
		free[i] = i + 1
	}
	m.shuffle(free)
	for i := range m.s.Ps {
		p := &m.s.Ps[i]
		p.Seq = m.Roll(50)
		p.Ring.Head = m.Roll(api.RingCap)
		if i < m.s.Procs && len(free) > 0 && m.Roll(4) > 0 {
			p.M = free[0]
			m.s.Ms[free[0]-1].P = i + 1
			free = free[1:]
		}
	}
}

func (m *maker) place(g int) {
	x := &m.s.Gs[g-1]
	x.Func = m.Roll(len(m.s.Prog))
	x.PC = m.Roll(len(m.s.Prog[x.Func]) + 1)
	x.Seq = m.Roll(50)
	x.Status = api.GRunnable + m.Roll(5)
	switch x.Status {
	case api.GWaiting:
		m.wait(g)
	case api.GRunning, api.GSyscall:
		x.M = m.thread(g, x.Status == api.GRunning)
		if x.M == 0 {
			x.Status = api.GRunnable
		}
	}
	if x.Status == api.GRunnable {
		m.enqueue(g)
	}
}

// thread gives a G the first M without one that has a P, or has none, and answers 0 if there is none.
func (m *maker) thread(g int, withP bool) int {
	for i, t := range m.s.Ms {
		if t.G == 0 && (t.P != 0) == withP && m.Roll(3) > 0 {
			m.s.Ms[i].G = g
			return i + 1
		}
	}
	return 0
}

func (m *maker) wait(g int) {
	if m.Roll(2) == 0 {
		sem := m.Roll(api.Sems)
		m.s.Waits[sem] = append(m.s.Waits[sem], g)
		return
	}
	m.s.Timers = timed(m.s.Timers, api.Timer{At: m.s.Clock + m.Roll(21) - min(m.s.Clock, 10), G: g})
}

func (m *maker) enqueue(g int) {
	p := &m.s.Ps[m.Roll(m.s.Procs)]
	switch {
	case p.Next == 0 && m.Roll(2) == 0:
		p.Next = g
	case p.Ring.N < api.RingCap && m.Roll(8) > 0:
		p.Ring.Buf[(p.Ring.Head+p.Ring.N)%api.RingCap] = g
		p.Ring.N++
	default:
		m.s.Global = append(m.s.Global, g)
	}
}
