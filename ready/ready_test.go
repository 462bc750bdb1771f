package ready_test

import (
	"math"
	"slices"
	"testing"

	"shuttlecock/api"
	"shuttlecock/ready"
	"shuttlecock/sample"
	"shuttlecock/state"
)

func zero(s api.State) bool {
	return sample.SameState(s, api.State{})
}

func TestTailOfTheExample(t *testing.T) {
	s := sample.State(0)
	s.Ps[0].Ring = sample.Laid(0, 1, 2, 3, 4, 5, 6, 7, 8)
	s.Global = nil
	got := ready.Tail(s, 1, 9)
	if got.Ps[0].Ring != sample.Laid(4, 5, 6, 7, 8) || !slices.Equal(got.Global, []int{1, 2, 3, 4, 9}) {
		t.Errorf("ring %v, global %v", got.Ps[0].Ring, got.Global)
	}
}

func TestTail(t *testing.T) {
	for n := range 100 {
		for p := 1; p <= 8; p++ {
			for _, g := range []int{1, 5, 77, 5000, math.MaxInt} {
				s := sample.State(n)
				got := ready.Tail(s, p, g)
				want := sample.State(n)
				sample.Append(&want, p, g)
				if !sample.SameState(got, want) {
					t.Fatalf("sample %d: Tail(%d, %d): %+v", n, p, g, got)
				}
				if !sample.SameState(s, sample.State(n)) {
					t.Fatalf("sample %d: the argument is changed", n)
				}
			}
		}
	}
}

func TestTailOfEachRing(t *testing.T) {
	for head := range 8 {
		for n := range 9 {
			s := api.State{Ps: make([]api.P, 3), Global: []int{40, 41}}
			var l []int
			for i := range n {
				l = append(l, i+10)
			}
			s.Ps[1].Ring = sample.Laid(head, l...)
			want := state.Copy(s)
			sample.Append(&want, 2, 99)
			if got := ready.Tail(s, 2, 99); !sample.SameState(got, want) {
				t.Errorf("Tail of %v: %v, %v", s.Ps[1].Ring, got.Ps[1].Ring, got.Global)
			}
		}
	}
}

func TestTailOfWrongArguments(t *testing.T) {
	for n := range 20 {
		s := sample.State(n)
		for _, c := range [][2]int{{0, 1}, {-1, 1}, {9, 1}, {math.MinInt, 1}, {math.MaxInt, 1}, {1, 0}, {1, -1}, {1, math.MinInt}, {0, 0}} {
			if got := ready.Tail(s, c[0], c[1]); !sample.SameState(got, s) {
				t.Fatalf("sample %d: Tail(%d, %d) changes the state", n, c[0], c[1])
			}
		}
		for _, r := range []api.Ring{{Head: 8}, {Head: -1}, {N: 9}, {N: -1}, {N: 1}, {Buf: [8]int{3}}} {
			s.Ps[0].Ring = r
			if got := ready.Tail(s, 1, 2); !sample.SameState(got, s) {
				t.Fatalf("sample %d: Tail changes the ring %v", n, r)
			}
		}
	}
	if got := ready.Tail(api.State{}, 1, 1); !zero(got) {
		t.Errorf("Tail of the zero state: %+v", got)
	}
}

func TestWake(t *testing.T) {
	done := 0
	for n := range 150 {
		s := sample.State(n)
		if n%10 == 9 && n > 40 {
			continue
		}
		for g := 1; g <= len(s.Gs); g++ {
			for p := 1; p <= s.Procs; p++ {
				got, e := ready.Wake(s, p, g)
				if s.Gs[g-1].Status != 3 {
					if !zero(got) || e != api.ErrArg {
						t.Fatalf("sample %d: Wake(%d, %d) of status %d: %d", n, p, g, s.Gs[g-1].Status, e)
					}
					continue
				}
				done++
				want := sample.State(n)
				sample.Wake(&want, p, g)
				if !sample.SameState(got, want) || e != api.OK {
					t.Fatalf("sample %d: Wake(%d, %d) = %+v, %d, want %+v", n, p, g, got, e, want)
				}
				if !state.May(got) {
					t.Fatalf("sample %d: Wake(%d, %d) makes a state that isn't valid", n, p, g)
				}
			}
		}
		if !sample.SameState(s, sample.State(n)) {
			t.Fatalf("sample %d: the argument is changed", n)
		}
	}
	if done < 1000 {
		t.Errorf("only %d Gs were woken", done)
	}
}

func TestWakeOntoAFullRing(t *testing.T) {
	s := api.State{Prog: api.Program{nil}, Gs: make([]api.G, 12), Ps: make([]api.P, 8), Procs: 1}
	for i := range s.Gs {
		s.Gs[i].Status = 1
	}
	s.Gs[9].Status, s.Gs[10].Status, s.Gs[11].Status = 3, 3, 3
	s.Ps[0].Next = 9
	s.Ps[0].Ring = sample.Laid(6, 1, 2, 3, 4, 5, 6, 7, 8)
	s.Waits[2] = []int{11, 10, 12}
	got, e := ready.Wake(s, 1, 10)
	if e != api.OK || got.Ps[0].Next != 10 || got.Ps[0].Ring != sample.Laid(2, 5, 6, 7, 8) || !slices.Equal(got.Global, []int{1, 2, 3, 4, 9}) || !slices.Equal(got.Waits[2], []int{11, 12}) {
		t.Errorf("%+v, %d", got, e)
	}
}

func TestYield(t *testing.T) {
	done := 0
	for n := range 300 {
		s := sample.State(n)
		for m := 1; m <= len(s.Ms); m++ {
			got, e := ready.Yield(s, m)
			if s.Ms[m-1].P == 0 || s.Ms[m-1].G == 0 {
				if !zero(got) || e != api.ErrArg {
					t.Fatalf("sample %d: Yield(%d) of %v: %d", n, m, s.Ms[m-1], e)
				}
				continue
			}
			done++
			want := sample.State(n)
			sample.Yield(&want, m)
			if !sample.SameState(got, want) || e != api.OK || !state.May(got) {
				t.Fatalf("sample %d: Yield(%d) = %+v, %d, want %+v", n, m, got, e, want)
			}
		}
		if !sample.SameState(s, sample.State(n)) {
			t.Fatalf("sample %d: the argument is changed", n)
		}
	}
	if done < 100 {
		t.Errorf("only %d Gs yielded", done)
	}
}

func TestDrain(t *testing.T) {
	for n := range 300 {
		s := sample.State(n)
		for p := 1; p <= s.Procs; p++ {
			want := sample.State(n)
			if next := want.Ps[p-1].Next; next != 0 {
				want.Global = append(want.Global, next)
			}
			want.Global = append(want.Global, sample.List(want.Ps[p-1].Ring)...)
			want.Ps[p-1].Next, want.Ps[p-1].Ring = 0, api.Ring{}
			if got, e := ready.Drain(s, p); !sample.SameState(got, want) || e != api.OK || !state.May(got) {
				t.Fatalf("sample %d: Drain(%d) = %+v, %d, want %+v", n, p, got, e, want)
			}
		}
		if !sample.SameState(s, sample.State(n)) {
			t.Fatalf("sample %d: the argument is changed", n)
		}
	}
}

func TestWrongArguments(t *testing.T) {
	for n := range 40 {
		s := sample.State(n)
		waiting := slices.IndexFunc(s.Gs, func(g api.G) bool { return g.Status == 3 }) + 1
		for _, p := range []int{0, -1, s.Procs + 1, 9, math.MinInt, math.MaxInt} {
			if got, e := ready.Wake(s, p, waiting); !zero(got) || e != api.ErrArg {
				t.Fatalf("sample %d: Wake of P %d: %d", n, p, e)
			}
			if got, e := ready.Drain(s, p); !zero(got) || e != api.ErrArg {
				t.Fatalf("sample %d: Drain of P %d: %d", n, p, e)
			}
		}
		for _, g := range []int{0, -1, len(s.Gs) + 1, math.MinInt, math.MaxInt} {
			if got, e := ready.Wake(s, 1, g); !zero(got) || e != api.ErrArg {
				t.Fatalf("sample %d: Wake of G %d: %d", n, g, e)
			}
		}
		for _, m := range []int{0, -1, len(s.Ms) + 1, math.MinInt, math.MaxInt} {
			if got, e := ready.Yield(s, m); !zero(got) || e != api.ErrArg {
				t.Fatalf("sample %d: Yield of M %d: %d", n, m, e)
			}
		}
	}
}

func TestWrongStates(t *testing.T) {
	for n := range 100 {
		for i, change := range []func(*api.State){
			func(s *api.State) { s.Clock = -1 },
			func(s *api.State) { s.Global = append(s.Global, len(s.Gs)+1) },
			func(s *api.State) { s.Ps = s.Ps[:7] },
			func(s *api.State) { s.Procs = 9 },
			func(s *api.State) { s.Gs = append(s.Gs, api.G{Status: 1}) },
			func(s *api.State) { *s = api.State{} },
		} {
			s := sample.State(n)
			change(&s)
			waiting := slices.IndexFunc(s.Gs, func(g api.G) bool { return g.Status == 3 }) + 1
			if got, e := ready.Wake(s, 1, waiting); !zero(got) || e != api.ErrArg {
				t.Fatalf("sample %d, change %d: Wake: %d", n, i, e)
			}
			if got, e := ready.Drain(s, 1); !zero(got) || e != api.ErrArg {
				t.Fatalf("sample %d, change %d: Drain: %d", n, i, e)
			}
			for m := range len(s.Ms) + 2 {
				if got, e := ready.Yield(s, m); !zero(got) || e != api.ErrArg {
					t.Fatalf("sample %d, change %d: Yield(%d): %d", n, i, m, e)
				}
			}
		}
	}
}

func TestAnswersAreNewMemory(t *testing.T) {
	s := sample.State(12)
	s.Global = append(make([]int, 0, 100), s.Global...)
	running := slices.IndexFunc(s.Ms, func(m api.M) bool { return m.G != 0 && m.P != 0 }) + 1
	waiting := slices.IndexFunc(s.Gs, func(g api.G) bool { return g.Status == 3 }) + 1
	answers := []api.State{ready.Tail(s, 1, 3), ready.Tail(s, 0, 0)}
	for _, do := range []func() (api.State, api.Errno){
		func() (api.State, api.Errno) { return ready.Wake(s, 1, waiting) },
		func() (api.State, api.Errno) { return ready.Yield(s, running) },
		func() (api.State, api.Errno) { return ready.Drain(s, 1) },
	} {
		got, e := do()
		if e != api.OK {
			t.Fatal("the sample does not do")
		}
		answers = append(answers, got)
	}
	var kept []api.State
	for _, a := range answers {
		kept = append(kept, state.Copy(a))
	}
	if extra := s.Global[:cap(s.Global)][len(s.Global)]; extra != 0 || !sample.SameState(s, sample.State(12)) {
		t.Error("an argument is changed")
	}
	for i := range s.Gs {
		s.Gs[i] = api.G{}
	}
	for i := range s.Ps {
		s.Ps[i] = api.P{}
	}
	for i := range s.Ms {
		s.Ms[i] = api.M{}
	}
	for i := range s.Global {
		s.Global[i] = 0
	}
	for _, l := range s.Waits {
		clear(l)
	}
	clear(s.Timers)
	clear(s.Prog)
	for i := range answers {
		if !sample.SameState(answers[i], kept[i]) {
			t.Errorf("answer %d shares memory with the argument", i)
		}
	}
}
