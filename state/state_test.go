package state_test

import (
	"math"
	"math/rand"
	"slices"
	"testing"

	"shuttlecock/api"
	"shuttlecock/sample"
	"shuttlecock/state"
)

func TestNew(t *testing.T) {
	for n := range 50 {
		p := sample.Program(n)
		for procs := 1; procs <= 8; procs++ {
			s, e := state.New(p, procs)
			want := api.State{Prog: p, Gs: []api.G{{Status: 1}}, Ps: make([]api.P, 8), Global: []int{1}, Procs: procs}
			if !sample.SameState(s, want) || e != api.OK {
				t.Errorf("New(%v, %d) = %+v, %d", p, procs, s, e)
			}
			if !state.May(s) || state.Place(s, 1) != (api.Place{Kind: 3}) {
				t.Errorf("New(%v, %d): place %v", p, procs, state.Place(s, 1))
			}
		}
	}
}

func TestNewErrors(t *testing.T) {
	good := api.Program{nil}
	for _, procs := range []int{0, -1, 9, math.MinInt, math.MaxInt} {
		if s, e := state.New(good, procs); !sample.SameState(s, api.State{}) || e != api.ErrArg {
			t.Errorf("New with %d Ps = %+v, %d", procs, s, e)
		}
	}
	for _, p := range []api.Program{nil, {}, make(api.Program, 9), {{{Do: 7}}}, {{{Do: 1, A: 1}}}, {make([]api.Instr, 21)}} {
		if s, e := state.New(p, 1); !sample.SameState(s, api.State{}) || e != api.ErrArg {
			t.Errorf("New(%v) = %+v, %d", p, s, e)
		}
	}
}

func TestNewKeepsNothing(t *testing.T) {
	p := api.Program{{{Do: 6, A: 5}}, nil}
	s, _ := state.New(p, 1)
	p[0][0].A = 7
	p[1] = []api.Instr{{}}
	if !sample.SameProgram(s.Prog, api.Program{{{Do: 6, A: 5}}, nil}) {
		t.Error("the state shares memory with the program")
	}
}

// may is the chapter's definition, condition for condition, asked for each G anew.
func may(s api.State) bool {
	if !mayProgram(s.Prog) || len(s.Gs) < 1 || len(s.Gs) > 1000 || len(s.Ps) != 8 || len(s.Ms) > 1000 || s.Procs < 1 || s.Procs > 8 || !mayNumber(s.Clock) {
		return false
	}
	for i, n := range s.Count {
		if n < 0 || n > 1000000 || n > 0 && len(s.Waits[i]) > 0 {
			return false
		}
	}
	for i, p := range s.Ps {
		if !mayNumber(p.Seq) || !mayRing(p.Ring) {
			return false
		}
		if p.M != 0 && (p.M < 0 || p.M > len(s.Ms) || s.Ms[p.M-1].P != i+1) {
			return false
		}
		if i+1 > s.Procs && (p.M != 0 || len(queueOf(p)) > 0) {
			return false
		}
	}
	for i, m := range s.Ms {
		if m.P != 0 && (m.P < 0 || m.P > 8 || s.Ps[m.P-1].M != i+1) {
			return false
		}
	}
	return mayTimers(s.Timers) && mayAllGs(s)
}

func mayNumber(n int) bool {
	return n >= 0 && n <= 1<<61-1
}

func mayProgram(p api.Program) bool {
	if len(p) < 1 || len(p) > 8 {
		return false
	}
	for _, code := range p {
		if len(code) > 20 {
			return false
		}
		for _, x := range code {
			if x.Do < 0 || x.Do > 6 || x.A < 0 || x.A > []int{0, len(p) - 1, 0, 3, 3, 0, 1000}[x.Do] {
				return false
			}
		}
	}
	return true
}

func mayRing(r api.Ring) bool {
	if r.Head < 0 || r.Head > 7 || r.N < 0 || r.N > 8 {
		return false
	}
	for i := range 8 {
		if g := r.Buf[(r.Head+i)%8]; i < r.N && g < 1 || i >= r.N && g != 0 {
			return false
		}
	}
	return true
}

func mayTimers(l []api.Timer) bool {
	for i, a := range l {
		if a.At < 0 || a.At >= api.Most || a.G < 1 {
			return false
		}
		for j, b := range l[:i] {
			if a.G == b.G || j == i-1 && (b.At > a.At || b.At == a.At && b.G > a.G) {
				return false
			}
		}
	}
	return true
}

func queueOf(p api.P) []int {
	var out []int
	if p.Next != 0 {
		out = append(out, p.Next)
	}
	for i := range p.Ring.N {
		out = append(out, p.Ring.Buf[(p.Ring.Head+i)%8])
	}
	return out
}

func mayAllGs(s api.State) bool {
	var queued, waiting, held []int
	for _, p := range s.Ps {
		queued = append(queued, queueOf(p)...)
	}
	queued = append(queued, s.Global...)
	for _, l := range s.Waits {
		waiting = append(waiting, l...)
	}
	for _, x := range s.Timers {
		waiting = append(waiting, x.G)
	}
	for _, m := range s.Ms {
		if m.G != 0 {
			held = append(held, m.G)
		}
	}
	for _, g := range slices.Concat(queued, waiting, held) {
		if g < 1 || g > len(s.Gs) {
			return false
		}
	}
	for i, g := range s.Gs {
		if g.Func < 0 || g.Func >= len(s.Prog) || g.PC < 0 || g.PC > len(s.Prog[g.Func]) || !mayNumber(g.Seq) {
			return false
		}
		at := [3]int{times(queued, i+1), times(waiting, i+1), times(held, i+1)}
		onM := g.M > 0 && g.M <= len(s.Ms) && s.Ms[g.M-1].G == i+1
		switch g.Status {
		case 1:
			if at != [3]int{1, 0, 0} || g.M != 0 {
				return false
			}
		case 2:
			if at != [3]int{0, 0, 1} || !onM || s.Ms[g.M-1].P == 0 {
				return false
			}
		case 3:
			if at != [3]int{0, 1, 0} || g.M != 0 {
				return false
			}
		case 4:
			if at != [3]int{0, 0, 1} || !onM || s.Ms[g.M-1].P != 0 {
				return false
			}
		case 5:
			if at != [3]int{} || g.M != 0 {
				return false
			}
		default:
			return false
		}
	}
	return true
}

func times(l []int, g int) int {
	n := 0
	for _, x := range l {
		if x == g {
			n++
		}
	}
	return n
}

func TestMayOfGoodStates(t *testing.T) {
	for n := range 300 {
		s := sample.State(n)
		if !may(s) || !state.May(s) {
			t.Fatalf("sample %d may not be", n)
		}
	}
}

// spoil changes one thing of a state; what comes of it is seldom valid.
func spoil(r *rand.Rand, s *api.State) {
	near := func(n *int) {
		*n = []int{*n + 1, *n - 1, 0, -1, *n * -1, r.Intn(6), r.Intn(70), 1<<61 - 1, 1 << 61, math.MinInt, math.MaxInt, 1000001}[r.Intn(12)]
	}
	list := func(l *[]int) {
		if len(*l) == 0 || r.Intn(4) == 0 {
			*l = append(*l, 1+r.Intn(len(s.Gs)))
		} else if i := r.Intn(len(*l)); r.Intn(2) == 0 {
			near(&(*l)[i])
		} else {
			*l = slices.Delete(*l, i, i+1)
		}
	}
	g, p := &s.Gs[r.Intn(len(s.Gs))], &s.Ps[r.Intn(8)]
	switch r.Intn(24) {
	case 0:
		near(&s.Clock)
	case 1:
		near(&s.Procs)
	case 2:
		near(&s.Count[r.Intn(4)])
	case 3, 4:
		list(&s.Waits[r.Intn(4)])
	case 5:
		list(&s.Global)
	case 6:
		if len(s.Timers) > 0 {
			near([]*int{&s.Timers[r.Intn(len(s.Timers))].G, &s.Timers[r.Intn(len(s.Timers))].At}[r.Intn(2)])
		}
	case 7:
		if len(s.Timers) > 0 {
			s.Timers = s.Timers[1:]
		}
	case 8, 9, 10:
		if len(s.Ms) > 0 {
			m := &s.Ms[r.Intn(len(s.Ms))]
			near([]*int{&m.P, &m.G}[r.Intn(2)])
		}
	case 11:
		s.Ms = append(s.Ms, api.M{P: r.Intn(3), G: r.Intn(3)})
	case 12:
		if len(s.Ms) > 0 {
			s.Ms = s.Ms[:len(s.Ms)-1]
		}
	case 13:
		near(&g.Func)
	case 14:
		near(&g.PC)
	case 15, 16:
		g.Status = r.Intn(8) - 1
	case 17:
		near(&g.M)
	case 18:
		near(&g.Seq)
	case 19:
		near(&p.M)
	case 20:
		near(&p.Next)
	case 21:
		near(&p.Seq)
	case 22:
		near([]*int{&p.Ring.Head, &p.Ring.N, &p.Ring.Buf[r.Intn(8)]}[r.Intn(3)])
	default:
		s.Gs = append(s.Gs, api.G{Status: r.Intn(6)})
	}
}

func TestMayOfSpoiltStates(t *testing.T) {
	r := rand.New(rand.NewSource(18))
	fine, wrong := 0, 0
	for range 60000 {
		n := r.Intn(300)
		if n%10 == 9 {
			n--
		}
		s := sample.State(n)
		for range 1 + r.Intn(2) {
			spoil(r, &s)
		}
		want := may(s)
		if state.May(s) != want {
			t.Fatalf("May = %v of %+v", !want, s)
		}
		if want {
			fine++
			continue
		}
		wrong++
		for _, k := range []int{0, 1, 2} {
			if at := state.Place(s, k); at != (api.Place{}) {
				t.Fatalf("Place of %d = %v in a wrong state", k, at)
			}
			if q := state.Queue(s, k); len(q) != 0 {
				t.Fatalf("Queue of %d = %v in a wrong state", k, q)
			}
		}
	}
	if fine < 1000 || wrong < 1000 {
		t.Errorf("%d valid and %d wrong states", fine, wrong)
	}
}

// base is a small state with a G in each kind of place; its Gs are named by the places.
func base() api.State {
	s := api.State{
		Prog:   api.Program{{{Do: 0}, {Do: 5}}, nil},
		Gs:     make([]api.G, 9),
		Ps:     make([]api.P, 8),
		Ms:     []api.M{{P: 2, G: 4}, {G: 8}, {P: 1}, {}},
		Global: []int{3},
		Procs:  3,
		Clock:  5,
		Timers: []api.Timer{{At: 9, G: 7}},
	}
	for i, status := range []int{1, 1, 1, 2, 3, 3, 3, 4, 5} {
		s.Gs[i].Status = status
	}
	s.Gs[3].M, s.Gs[7].M = 1, 2
	s.Ps[0].M, s.Ps[1].M = 3, 1
	s.Ps[0].Next = 1
	s.Ps[2].Ring = api.Ring{Head: 7, N: 1, Buf: [8]int{7: 2}}
	s.Waits[0], s.Waits[3] = []int{5}, []int{6}
	s.Count[1] = 1000000
	return s
}

func TestMayOfEachCondition(t *testing.T) {
	if !state.May(base()) {
		t.Fatal("the base may not be")
	}
	for i, change := range []func(*api.State){
		func(s *api.State) { s.Prog = nil },
		func(s *api.State) { s.Prog = api.Program{{{Do: 0}, {Do: 9}}, nil} },
		func(s *api.State) { s.Gs = nil },
		func(s *api.State) { s.Ps = s.Ps[:7] },
		func(s *api.State) { s.Ps = append(s.Ps, api.P{}) },
		func(s *api.State) { s.Ps = nil },
		func(s *api.State) { s.Ms = append(s.Ms, make([]api.M, 997)...) },
		func(s *api.State) { s.Gs = append(s.Gs, slices.Repeat([]api.G{{Status: 5}}, 992)...) },
		func(s *api.State) { s.Procs = 0 },
		func(s *api.State) { s.Procs = -1 },
		func(s *api.State) { s.Procs = 9 },
		func(s *api.State) { s.Procs = 2 },
		func(s *api.State) { s.Procs = 1 },
		func(s *api.State) { s.Clock = -1 },
		func(s *api.State) { s.Clock = 1 << 61 },
		func(s *api.State) { s.Count[1] = 1000001 },
		func(s *api.State) { s.Count[2] = -1 },
		func(s *api.State) { s.Count[0] = 1 },
		func(s *api.State) { s.Count[3] = 1 },
		func(s *api.State) { s.Gs[0].Func = 2 },
		func(s *api.State) { s.Gs[0].Func = -1 },
		func(s *api.State) { s.Gs[0].PC = 3 },
		func(s *api.State) { s.Gs[0].PC = -1 },
		func(s *api.State) { s.Gs[0].Func, s.Gs[0].PC = 1, 1 },
		func(s *api.State) { s.Gs[8].Func = 2 },
		func(s *api.State) { s.Gs[8].Status = 6 },
		func(s *api.State) { s.Gs[8].Status = 0 },
		func(s *api.State) { s.Gs[8].Status = 1 },
		func(s *api.State) { s.Gs[8].Status = 2 },
		func(s *api.State) { s.Gs[8].Status = 3 },
		func(s *api.State) { s.Gs[8].Status = 4 },
		func(s *api.State) { s.Gs[8].Seq = -1 },
		func(s *api.State) { s.Gs[8].Seq = 1 << 61 },
		func(s *api.State) { s.Ps[7].Seq = -1 },
		func(s *api.State) { s.Ps[7].Seq = 1 << 61 },
		func(s *api.State) { s.Ps[7].Ring.Head = 8 },
		func(s *api.State) { s.Ps[7].Ring.Buf[0] = 9 },
		func(s *api.State) { s.Ps[7].Ring = api.Ring{N: 1, Buf: [8]int{3}}; s.Global = nil },
		func(s *api.State) { s.Ps[7].Next = 3; s.Global = nil },
		func(s *api.State) { s.Ps[7].M = 4; s.Ms[3].P = 8 },
		func(s *api.State) { s.Ps[1].Ring.N = 1 },
		func(s *api.State) { s.Timers = []api.Timer{{At: -1, G: 7}} },
		func(s *api.State) { s.Timers = []api.Timer{{At: 9, G: 5}, {At: 8, G: 7}}; s.Waits[0] = nil },
		func(s *api.State) { s.Ps[0].M = 4 },
		func(s *api.State) { s.Ps[0].M = 5 },
		func(s *api.State) { s.Ps[0].M = -1 },
		func(s *api.State) { s.Ps[0].M = 0 },
		func(s *api.State) { s.Ms[2].P = 0 },
		func(s *api.State) { s.Ms[3].P = 3 },
		func(s *api.State) { s.Ms[3].P = 9 },
		func(s *api.State) { s.Ms[3].P = -1 },
		func(s *api.State) { s.Ms[3].P = 1 },
		func(s *api.State) { s.Global = []int{3, 10} },
		func(s *api.State) { s.Global = []int{3, 0} },
		func(s *api.State) { s.Global = []int{3, -1} },
		func(s *api.State) { s.Global = []int{3, 3} },
		func(s *api.State) { s.Global = []int{3, 1} },
		func(s *api.State) { s.Global = []int{3, 2} },
		func(s *api.State) { s.Global = []int{3, 4} },
		func(s *api.State) { s.Global = []int{3, 5} },
		func(s *api.State) { s.Global = []int{3, 7} },
		func(s *api.State) { s.Global = []int{3, 8} },
		func(s *api.State) { s.Global = []int{3, 9} },
		func(s *api.State) { s.Global = nil },
		func(s *api.State) { s.Ps[1].Next = 3 },
		func(s *api.State) { s.Ps[1].Next = 10 },
		func(s *api.State) { s.Ps[1].Next = -3 },
		func(s *api.State) { s.Ps[0].Next = 0 },
		func(s *api.State) { s.Ps[2].Ring = api.Ring{} },
		func(s *api.State) { s.Ps[0].Ring = api.Ring{N: 1, Buf: [8]int{10}} },
		func(s *api.State) { s.Ps[0].Ring = api.Ring{N: 1, Buf: [8]int{1}} },
		func(s *api.State) { s.Waits[0] = nil },
		func(s *api.State) { s.Waits[0] = []int{5, 5} },
		func(s *api.State) { s.Waits[2] = []int{5} },
		func(s *api.State) { s.Waits[2] = []int{7} },
		func(s *api.State) { s.Waits[2] = []int{0} },
		func(s *api.State) { s.Waits[2] = []int{10} },
		func(s *api.State) { s.Waits[2] = []int{3} },
		func(s *api.State) { s.Waits[2] = []int{4} },
		func(s *api.State) { s.Waits[2] = []int{8} },
		func(s *api.State) { s.Waits[2] = []int{9} },
		func(s *api.State) { s.Timers = nil },
		func(s *api.State) { s.Timers = append(s.Timers, api.Timer{At: 9, G: 10}) },
		func(s *api.State) { s.Timers = append(s.Timers, api.Timer{At: 9, G: 9}) },
		func(s *api.State) { s.Timers = append(s.Timers, api.Timer{At: 10, G: 5}) },
		func(s *api.State) { s.Gs[0].M = 1 },
		func(s *api.State) { s.Gs[2].M = 4 },
		func(s *api.State) { s.Gs[4].M = 4 },
		func(s *api.State) { s.Gs[6].M = -1 },
		func(s *api.State) { s.Gs[8].M = 1 },
		func(s *api.State) { s.Gs[3].M = 0 },
		func(s *api.State) { s.Gs[3].M = 2 },
		func(s *api.State) { s.Gs[3].M = 3 },
		func(s *api.State) { s.Gs[3].M = 5 },
		func(s *api.State) { s.Gs[3].M = -1 },
		func(s *api.State) { s.Gs[7].M = 0 },
		func(s *api.State) { s.Gs[7].M = 4 },
		func(s *api.State) { s.Gs[3].Status = 4 },
		func(s *api.State) { s.Gs[7].Status = 2 },
		func(s *api.State) { s.Gs[7].Status = 1 },
		func(s *api.State) { s.Ms[0].G = 0 },
		func(s *api.State) { s.Ms[1].G = 0 },
		func(s *api.State) { s.Ms[2].G = 4 },
		func(s *api.State) { s.Ms[3].G = 4 },
		func(s *api.State) { s.Ms[3].G = 8 },
		func(s *api.State) { s.Ms[3].G = 9 },
		func(s *api.State) { s.Ms[3].G = 3 },
		func(s *api.State) { s.Ms[3].G = 5 },
		func(s *api.State) { s.Ms[3].G = 10 },
		func(s *api.State) { s.Ms[3].G = -1 },
		func(s *api.State) { s.Ms = nil },
		func(s *api.State) { *s = api.State{} },
	} {
		s := base()
		change(&s)
		if state.May(s) || may(s) {
			t.Errorf("after change %d the state may be: %+v", i, s)
		}
		if at := state.Place(s, 1); at != (api.Place{}) {
			t.Errorf("after change %d G 1 is at %v", i, at)
		}
		if q := state.Queue(s, 1); len(q) != 0 {
			t.Errorf("after change %d P 1 has the queue %v", i, q)
		}
	}
}

func TestMayOfAStateWithNothingElseWrong(t *testing.T) {
	first := func() api.State {
		s, _ := state.New(api.Program{nil}, 1)
		return s
	}
	for i, change := range []func(*api.State){
		func(s *api.State) { s.Gs, s.Global = nil, nil },
		func(s *api.State) { s.Procs = 0 },
		func(s *api.State) { s.Procs = -1 },
		func(s *api.State) { s.Procs = 9 },
		func(s *api.State) { s.Ms = make([]api.M, 1001) },
		func(s *api.State) { s.Gs = append(s.Gs, slices.Repeat([]api.G{{Status: 5}}, 1000)...) },
		func(s *api.State) { s.Ps = append(s.Ps, api.P{}) },
		func(s *api.State) { s.Ps = s.Ps[:7] },
		func(s *api.State) { s.Prog = make(api.Program, 9) },
	} {
		s := first()
		if change(&s); !state.May(first()) || state.May(s) {
			t.Errorf("after change %d the state may be: %+v", i, s)
		}
	}
}

func TestMayUpToTheLimits(t *testing.T) {
	for i, change := range []func(*api.State){
		func(s *api.State) { s.Ms = append(s.Ms, make([]api.M, 996)...) },
		func(s *api.State) { s.Gs = append(s.Gs, slices.Repeat([]api.G{{Status: 5}}, 991)...) },
		func(s *api.State) { s.Procs = 8 },
		func(s *api.State) { s.Clock = 1<<61 - 1 },
		func(s *api.State) { s.Clock = 0 },
		func(s *api.State) { s.Gs[8].Seq, s.Gs[0].Seq, s.Ps[7].Seq = 1<<61-1, 1<<61-1, 1<<61-1 },
		func(s *api.State) { s.Timers[0].At = api.Most - 1 },
		func(s *api.State) { s.Timers[0].At = 0 },
		func(s *api.State) { s.Ps[7].Ring.Head = 7 },
		func(s *api.State) { s.Gs[0].PC, s.Gs[8].PC = 2, 2 },
		func(s *api.State) { s.Count[2] = 1 },
	} {
		s := base()
		change(&s)
		if !state.May(s) {
			t.Errorf("after change %d the state may not be", i)
		}
	}
}

func TestPlace(t *testing.T) {
	s := base()
	for i, want := range []api.Place{{}, {Kind: 1, N: 1}, {Kind: 2, N: 3}, {Kind: 3}, {Kind: 4, N: 1}, {Kind: 5, N: 0}, {Kind: 5, N: 3}, {Kind: 6}, {Kind: 7, N: 2}, {Kind: 8}, {}} {
		if at := state.Place(s, i); at != want {
			t.Errorf("Place of %d = %v, want %v", i, at, want)
		}
	}
	for _, g := range []int{-1, math.MinInt, 11, math.MaxInt} {
		if at := state.Place(s, g); at != (api.Place{}) {
			t.Errorf("Place of %d = %v", g, at)
		}
	}
}

// listed are all places in which a G stands, by the state's lists.
func listed(s api.State) map[int][]api.Place {
	out := map[int][]api.Place{}
	add := func(g, kind, n int) {
		if g != 0 {
			out[g] = append(out[g], api.Place{Kind: kind, N: n})
		}
	}
	for i, p := range s.Ps {
		add(p.Next, 1, i+1)
		for k := range p.Ring.N {
			add(p.Ring.Buf[(p.Ring.Head+k)%8], 2, i+1)
		}
	}
	for _, g := range s.Global {
		add(g, 3, 0)
	}
	for i, m := range s.Ms {
		if m.P != 0 {
			add(m.G, 4, i+1)
		} else {
			add(m.G, 7, i+1)
		}
	}
	for i, l := range s.Waits {
		for _, g := range l {
			add(g, 5, i)
		}
	}
	for _, x := range s.Timers {
		add(x.G, 6, 0)
	}
	for i, g := range s.Gs {
		if g.Status == 5 {
			add(i+1, 8, 0)
		}
	}
	return out
}

func TestEveryGIsInOnePlace(t *testing.T) {
	for n := range 100 {
		s := sample.State(n)
		all := listed(s)
		for g := 1; g <= len(s.Gs); g++ {
			if len(all[g]) != 1 || state.Place(s, g) != all[g][0] {
				t.Fatalf("sample %d: Place of %d = %v, want %v", n, g, state.Place(s, g), all[g])
			}
		}
	}
}

func TestQueue(t *testing.T) {
	for n := range 300 {
		s := sample.State(n)
		for p := 1; p <= s.Procs; p++ {
			if q := state.Queue(s, p); !slices.Equal(q, queueOf(s.Ps[p-1])) {
				t.Fatalf("sample %d: Queue of %d = %v, want %v", n, p, q, queueOf(s.Ps[p-1]))
			}
		}
		for _, p := range []int{0, -1, s.Procs + 1, 9, math.MinInt, math.MaxInt} {
			if q := state.Queue(s, p); len(q) != 0 {
				t.Fatalf("sample %d: Queue of %d = %v", n, p, q)
			}
		}
	}
}

// scribble overwrites all that a state's lists hold.
func scribble(s api.State) {
	for _, code := range s.Prog {
		for i := range code {
			code[i] = api.Instr{Do: 99, A: 99}
		}
	}
	clear(s.Prog)
	for i := range s.Gs {
		s.Gs[i] = api.G{Func: 99}
	}
	for i := range s.Ps {
		s.Ps[i] = api.P{M: 99}
	}
	for i := range s.Ms {
		s.Ms[i] = api.M{P: 99}
	}
	for _, l := range append(s.Waits[:], s.Global) {
		for i := range l {
			l[i] = 99
		}
	}
	for i := range s.Timers {
		s.Timers[i] = api.Timer{At: 99}
	}
}

func TestCopy(t *testing.T) {
	for n := range 100 {
		s := sample.State(n)
		c := state.Copy(s)
		if !sample.SameState(s, c) {
			t.Fatalf("sample %d: the copy differs", n)
		}
		scribble(s)
		if !sample.SameState(c, sample.State(n)) {
			t.Fatalf("sample %d: the copy shares memory", n)
		}
	}
	odd := api.State{Prog: api.Program{nil, {{Do: -5}}}, Gs: []api.G{{M: 7}}, Ps: []api.P{{M: 1}}, Ms: []api.M{{G: 3}}, Global: []int{-1}, Procs: -3, Clock: -9,
		Count: [4]int{1, 2, 3, -4}, Waits: [4][]int{{1}, nil, {2, 2}, {}}, Timers: []api.Timer{{At: -1, G: -1}}}
	if !sample.SameState(odd, state.Copy(odd)) || !sample.SameState(api.State{}, state.Copy(api.State{})) {
		t.Error("the copy of a state that isn't valid differs")
	}
}

func TestArgumentsStay(t *testing.T) {
	s := sample.State(7)
	state.May(s)
	state.Place(s, 1)
	q := state.Queue(s, 1)
	for i := range q {
		q[i] = 99
	}
	if !sample.SameState(s, sample.State(7)) {
		t.Error("an argument is changed")
	}
}
