package sample

import (
	"slices"
	"strconv"

	"shuttlecock/api"
)

// What follows is a twin of the scheduler, by the document's words: it changes a valid state in place and checks nothing, so that the layers' answers can be held against it.

// List is a ring's list, read off its buffer.
func List(r api.Ring) []int {
	var out []int
	for i := range r.N {
		out = append(out, r.Buf[(r.Head+i)%api.RingCap])
	}
	return out
}

// Laid is the ring whose list begins at an index, which may be counted on past the buffer's end.
func Laid(head int, l ...int) api.Ring {
	r := api.Ring{Head: head % api.RingCap, N: len(l)}
	for i, g := range l {
		r.Buf[(head+i)%api.RingCap] = g
	}
	return r
}

// Append does to a state in place what the document calls appending a G to the ring of a P.
func Append(s *api.State, p, g int) {
	x := &s.Ps[p-1]
	l := List(x.Ring)
	if len(l) < api.RingCap {
		x.Ring = Laid(x.Ring.Head, append(l, g)...)
		return
	}
	half := api.RingCap / 2
	s.Global = slices.Concat(s.Global, l[:half], []int{g})
	x.Ring = Laid(x.Ring.Head+half, l[half:]...)
}

// Without is a list without a G.
func Without(l []int, g int) []int {
	var out []int
	for _, n := range l {
		if n != g {
			out = append(out, n)
		}
	}
	return out
}

// Wake does to a state in place what the document calls waking a G for a P.
func Wake(s *api.State, p, g int) {
	for i := range s.Waits {
		s.Waits[i] = Without(s.Waits[i], g)
	}
	var timers []api.Timer
	for _, x := range s.Timers {
		if x.G != g {
			timers = append(timers, x)
		}
	}
	s.Timers = timers
	s.Gs[g-1].Status = api.GRunnable
	s.Gs[g-1].Seq++
	old := s.Ps[p-1].Next
	s.Ps[p-1].Next = g
	if old != 0 {
		Append(s, p, old)
	}
}

// Yield does to a state in place what the document calls the yielding of the G that runs on an M.
func Yield(s *api.State, m int) {
	g := s.Ms[m-1].G
	s.Ms[m-1].G = 0
	s.Gs[g-1].Status, s.Gs[g-1].M = api.GRunnable, 0
	s.Gs[g-1].Seq++
	s.Global = append(s.Global, g)
}

// Run gives a G that is in no queue any more to a P's M.
func Run(s *api.State, p, g int) {
	m := s.Ps[p-1].M
	s.Ms[m-1].G = g
	s.Gs[g-1].Status, s.Gs[g-1].M = api.GRunning, m
	s.Gs[g-1].Seq++
}

// Pick does to a state in place what the document says of the G that a P selects, and answers it.
func Pick(s *api.State, p, victim int) int {
	g := pick(s, p, victim)
	if g != 0 {
		Run(s, p, g)
	}
	return g
}

func pick(s *api.State, p, victim int) int {
	x := &s.Ps[p-1]
	if g := x.Next; g != 0 {
		x.Next = 0
		return g
	}
	if l := List(x.Ring); len(l) > 0 {
		x.Ring = Laid(x.Ring.Head+1, l[1:]...)
		return l[0]
	}
	if len(s.Global) > 0 {
		g := s.Global[0]
		s.Global = s.Global[1:]
		return g
	}
	if victim < 1 || victim > s.Procs || victim == p {
		return 0
	}
	v := &s.Ps[victim-1]
	l := List(v.Ring)
	if len(l) == 0 {
		g := v.Next
		v.Next = 0
		return g
	}
	half := (len(l) + 1) / 2
	v.Ring = Laid(v.Ring.Head+half, l[half:]...)
	x.Ring = Laid(x.Ring.Head, l[1:half]...)
	return l[0]
}

// Exec does to a state in place what the document says of one instruction of the G that runs on an M.
func Exec(s *api.State, m int) []api.Log {
	g, p := s.Ms[m-1].G, s.Ms[m-1].P
	f, pc := s.Gs[g-1].Func, s.Gs[g-1].PC
	l := api.Log{Time: s.Clock, M: m, G: g}
	if pc == len(s.Prog[f]) {
		off(s, m, api.GDead)
		l.Kind = api.KExit
		return []api.Log{l}
	}
	s.Gs[g-1].PC++
	l.Stack = []api.Frame{{Func: "f" + strconv.Itoa(f), Line: pc + 1}}
	if !instruct(s, &l, s.Prog[f][pc], p) {
		return nil
	}
	return []api.Log{l}
}

// off takes the G off an M and gives it a status.
func off(s *api.State, m, status int) {
	x := &s.Gs[s.Ms[m-1].G-1]
	x.Status, x.M = status, 0
	x.Seq++
	s.Ms[m-1].G = 0
}

// instruct completes the log entry, and answers whether there is one.
func instruct(s *api.State, l *api.Log, in api.Instr, p int) bool {
	switch in.Do {
	case api.ISpawn:
		return spawn(s, l, in.A, p)
	case api.IYield:
		Yield(s, l.M)
		l.Kind, l.Why = api.KStop, "yield"
	case api.IAcquire:
		if s.Count[in.A] > 0 {
			s.Count[in.A]--
			return false
		}
		off(s, l.M, api.GWaiting)
		s.Waits[in.A] = append(s.Waits[in.A], l.G)
		l.Kind, l.Why = api.KBlock, "acquire"
	case api.IRelease:
		if len(s.Waits[in.A]) == 0 {
			s.Count[in.A] = min(1000000, s.Count[in.A]+1)
			return false
		}
		l.Kind, l.G = api.KUnblock, s.Waits[in.A][0]
		l.Seq = s.Gs[l.G-1].Seq
		Wake(s, p, l.G)
	case api.ISys:
		l.Kind, l.P = api.KSysEnter, p
		s.Gs[l.G-1].Status = api.GSyscall
		s.Gs[l.G-1].Seq++
		part(s, p)
	case api.ISleep:
		off(s, l.M, api.GWaiting)
		s.Timers = timed(s.Timers, api.Timer{At: s.Clock + in.A, G: l.G})
		l.Kind, l.Why = api.KBlock, "sleep"
	default:
		return false
	}
	return true
}

func spawn(s *api.State, l *api.Log, a, p int) bool {
	if len(s.Gs) >= api.MaxGs {
		return false
	}
	s.Gs = append(s.Gs, api.G{Func: a, Status: api.GRunnable})
	l.Kind, l.G = api.KCreate, len(s.Gs)
	old := s.Ps[p-1].Next
	s.Ps[p-1].Next = l.G
	if old != 0 {
		Append(s, p, old)
	}
	return true
}

// part separates a P from its M.
func part(s *api.State, p int) {
	x := &s.Ps[p-1]
	s.Ms[x.M-1].P = 0
	x.M = 0
	x.Seq++
}

// join gives a P to an M.
func join(s *api.State, p, m int) {
	s.Ps[p-1].M = m
	s.Ps[p-1].Seq++
	s.Ms[m-1].P = p
}

// timed is a list of timers with one more at its place.
func timed(l []api.Timer, t api.Timer) []api.Timer {
	l = append(l, t)
	for i := len(l) - 1; i > 0 && (l[i].At < l[i-1].At || l[i].At == l[i-1].At && l[i].G < l[i-1].G); i-- {
		l[i], l[i-1] = l[i-1], l[i]
	}
	return l
}

// Do does to a state in place what the document says of a script's item.
func Do(s *api.State, x api.Item) []api.Log {
	switch {
	case x.Do == api.ItStep && x.N >= 1 && x.N <= s.Procs:
		return step(s, x.N, x.Victim)
	case x.Do == api.ItExit && x.N >= 1 && x.N <= len(s.Ms) && s.Ms[x.N-1].G != 0 && s.Ms[x.N-1].P == 0:
		return exit(s, x.N)
	case x.Do == api.ItTick && x.N >= 0 && x.N <= 1000000 && s.Clock+x.N < 1<<61:
		s.Clock += x.N
	case x.Do == api.ItProcs && x.N >= 1 && x.N <= api.MaxPs:
		return resize(s, x.N)
	}
	return nil
}

func step(s *api.State, p, victim int) []api.Log {
	m := s.Ps[p-1].M
	if m == 0 {
		return start(s, p)
	}
	if s.Ms[m-1].G != 0 {
		return Exec(s, m)
	}
	var out []api.Log
	for len(s.Timers) > 0 && s.Timers[0].At <= s.Clock {
		g := s.Timers[0].G
		out = append(out, api.Log{Time: s.Clock, M: m, Kind: api.KUnblock, G: g, Seq: s.Gs[g-1].Seq})
		Wake(s, p, g)
	}
	if g := Pick(s, p, victim); g != 0 {
		return append(out, api.Log{Time: s.Clock, M: m, Kind: api.KStart, G: g, Seq: s.Gs[g-1].Seq - 1})
	}
	part(s, p)
	return append(out, api.Log{Time: s.Clock, M: m, Kind: api.KProcStop, P: p})
}

func start(s *api.State, p int) []api.Log {
	m := 1
	for m <= len(s.Ms) && s.Ms[m-1] != (api.M{}) {
		m++
	}
	if m > api.MaxMs {
		return nil
	}
	if m > len(s.Ms) {
		s.Ms = append(s.Ms, api.M{})
	}
	join(s, p, m)
	return []api.Log{{Time: s.Clock, M: m, Kind: api.KProcStart, P: p, Seq: s.Ps[p-1].Seq - 1}}
}

func exit(s *api.State, m int) []api.Log {
	g := s.Ms[m-1].G
	l := api.Log{Time: s.Clock, M: m, Kind: api.KSysExit, G: g}
	for p := 1; p <= s.Procs; p++ {
		if s.Ps[p-1].M != 0 {
			continue
		}
		l.P, l.Seq = p, s.Ps[p-1].Seq
		join(s, p, m)
		s.Gs[g-1].Status = api.GRunning
		s.Gs[g-1].Seq++
		return []api.Log{l}
	}
	off(s, m, api.GRunnable)
	s.Global = append(s.Global, g)
	return []api.Log{l}
}

func resize(s *api.State, n int) []api.Log {
	var out []api.Log
	for p := n + 1; p <= s.Procs; p++ {
		x := &s.Ps[p-1]
		if m := x.M; m != 0 {
			if g := s.Ms[m-1].G; g != 0 {
				at := api.Frame{Func: "f" + strconv.Itoa(s.Gs[g-1].Func), Line: s.Gs[g-1].PC + 1}
				out = append(out, api.Log{Time: s.Clock, M: m, Kind: api.KStop, G: g, Why: "preempt", Stack: []api.Frame{at}})
				Yield(s, m)
			}
			part(s, p)
			out = append(out, api.Log{Time: s.Clock, M: m, Kind: api.KProcStop, P: p})
		}
		if x.Next != 0 {
			s.Global = append(s.Global, x.Next)
		}
		s.Global = append(s.Global, List(x.Ring)...)
		x.Next, x.Ring = 0, api.Ring{}
	}
	s.Procs = n
	return out
}

// Snap is what the document calls the snapshot of a state.
func Snap(s api.State) api.Snap {
	x := api.Snap{Time: s.Clock}
	for _, p := range s.Ps {
		x.Ps = append(x.Ps, api.PStat{M: p.M, Seq: p.Seq})
	}
	for i, g := range s.Gs {
		if g.Status != api.GDead {
			x.Gs = append(x.Gs, api.GStat{G: i + 1, Status: g.Status, M: g.M, Seq: g.Seq})
		}
	}
	return x
}
