package find_test

import (
	"math"
	"slices"
	"testing"

	"shuttlecock/api"
	"shuttlecock/find"
	"shuttlecock/sample"
	"shuttlecock/state"
)

func zero(s api.State) bool {
	return sample.SameState(s, api.State{})
}

// looks is the chapter's word: P p looks for work.
func looks(s api.State, p int) bool {
	return p >= 1 && p <= s.Procs && s.Ps[p-1].M != 0 && s.Ms[s.Ps[p-1].M-1].G == 0
}

// started is P14.1 in the chapter's words, done to a state in place.
func started(s api.State, p, g int) api.State {
	for i := range s.Ps {
		x := &s.Ps[i]
		if x.Next == g {
			x.Next = 0
		}
		x.Ring = sample.Laid(x.Ring.Head, sample.Without(sample.List(x.Ring), g)...)
	}
	s.Global = sample.Without(s.Global, g)
	sample.Run(&s, p, g)
	return s
}

func TestStart(t *testing.T) {
	done, firsts := 0, 0
	for n := range 200 {
		if n%10 == 9 && n > 40 {
			continue
		}
		s := sample.State(n)
		for p := -1; p < 11; p++ {
			for g := -1; g < len(s.Gs)+2; g++ {
				got, e := find.Start(s, p, g)
				if !looks(s, p) || g < 1 || g > len(s.Gs) || s.Gs[g-1].Status != 1 {
					if !zero(got) || e != api.ErrArg {
						t.Fatalf("sample %d: Start(%d, %d): %d", n, p, g, e)
					}
					continue
				}
				done++
				for _, x := range s.Ps {
					if x.Ring.N > 1 && x.Ring.Buf[x.Ring.Head] == g {
						firsts++
					}
				}
				if want := started(sample.State(n), p, g); !sample.SameState(got, want) || e != api.OK {
					t.Fatalf("sample %d: Start(%d, %d) = %+v, %d, want %+v", n, p, g, got, e, want)
				}
				if !state.May(got) {
					t.Fatalf("sample %d: Start(%d, %d) makes a state that isn't valid", n, p, g)
				}
			}
		}
		if !sample.SameState(s, sample.State(n)) {
			t.Fatalf("sample %d: the argument is changed", n)
		}
	}
	if done < 200 || firsts < 20 {
		t.Errorf("only %d Gs were started, %d of them the first ones of rings", done, firsts)
	}
}

// poorer empties queues of a state, so that a P has to look further: their Gs are dead.
func poorer(s api.State, p, how int) api.State {
	bury := func(l ...int) {
		for _, g := range l {
			if g != 0 {
				s.Gs[g-1].Status = 5
			}
		}
	}
	x := &s.Ps[p-1]
	if how > 0 {
		bury(x.Next)
		x.Next = 0
	}
	if how > 1 {
		bury(sample.List(x.Ring)...)
		x.Ring = api.Ring{Head: x.Ring.Head}
	}
	if how > 2 {
		bury(s.Global...)
		s.Global = nil
	}
	for i := range s.Ps {
		if how > 3 && i != p-1 {
			bury(sample.List(s.Ps[i].Ring)...)
			s.Ps[i].Ring = api.Ring{Head: s.Ps[i].Ring.Head}
		}
		if how > 4 && i != p-1 {
			bury(s.Ps[i].Next)
			s.Ps[i].Next = 0
		}
	}
	return s
}

func TestPick(t *testing.T) {
	var found, none [6]int
	for n := range 200 {
		for how := range 6 {
			for p := 1; p <= 8; p++ {
				if !looks(sample.State(n), p) {
					if got, g, e := find.Pick(sample.State(n), p, 1); !zero(got) || g != 0 || e != api.ErrArg {
						t.Fatalf("sample %d: Pick(%d): %d, %d", n, p, g, e)
					}
					continue
				}
				s := poorer(sample.State(n), p, how)
				for _, victim := range []int{1, 2, 3, 4, 5, 6, 7, 8, 0, -1, 9, math.MinInt, math.MaxInt} {
					want := poorer(sample.State(n), p, how)
					wg := sample.Pick(&want, p, victim)
					got, g, e := find.Pick(s, p, victim)
					if !sample.SameState(got, want) || g != wg || e != api.OK {
						t.Fatalf("sample %d, poorer by %d: Pick(%d, %d) = %+v, %d, %d, want %+v, %d", n, how, p, victim, got, g, e, want, wg)
					}
					if !state.May(got) {
						t.Fatalf("sample %d, poorer by %d: Pick(%d, %d) makes a state that isn't valid", n, how, p, victim)
					}
					if g != 0 {
						found[how]++
					} else {
						none[how]++
					}
				}
				if !sample.SameState(s, poorer(sample.State(n), p, how)) {
					t.Fatalf("sample %d: the argument is changed", n)
				}
			}
		}
	}
	if slices.Min(found[:5]) < 20 || none[5] < 20 {
		t.Errorf("found %v, none %v", found, none)
	}
}

// two is a state of P 1 that looks for work and P 2 that has some.
func two() api.State {
	s := api.State{Prog: api.Program{nil}, Gs: make([]api.G, 9), Ps: make([]api.P, 8), Ms: []api.M{{P: 1}}, Procs: 2}
	for i := range s.Gs {
		s.Gs[i].Status = 5
	}
	s.Ps[0].M = 1
	return s
}

func TestPickOfTheExample(t *testing.T) {
	s := two()
	s.Ps[0].Ring.Head = 6
	s.Ps[1].Ring = sample.Laid(7, 1, 2, 3)
	for g := range 3 {
		s.Gs[g].Status = 1
	}
	got, g, e := find.Pick(s, 1, 2)
	if g != 1 || e != api.OK || got.Ps[0].Ring != sample.Laid(6, 2) || got.Ps[1].Ring != sample.Laid(1, 3) || got.Gs[0] != (api.G{Status: 2, M: 1, Seq: 1}) || got.Ms[0] != (api.M{P: 1, G: 1}) {
		t.Errorf("%+v, %d, %d", got, g, e)
	}
}

func TestPickOfAFullVictim(t *testing.T) {
	s := two()
	s.Ps[0].Ring.Head = 5
	s.Ps[1].Ring = sample.Laid(2, 8, 7, 6, 5, 4, 3, 2, 1)
	s.Ps[1].Next = 9
	for g := range 9 {
		s.Gs[g].Status = 1
	}
	got, g, e := find.Pick(s, 1, 2)
	if g != 8 || e != api.OK || got.Ps[0].Ring != sample.Laid(5, 7, 6, 5) || got.Ps[1].Ring != sample.Laid(6, 4, 3, 2, 1) || got.Ps[1].Next != 9 {
		t.Errorf("%+v, %d, %d", got, g, e)
	}
}

func TestPickOfAVictimsNext(t *testing.T) {
	s := two()
	s.Ps[1].Next = 4
	s.Gs[3].Status = 1
	got, g, e := find.Pick(s, 1, 2)
	if g != 4 || e != api.OK || got.Ps[1].Next != 0 || got.Ms[0].G != 4 {
		t.Errorf("%+v, %d, %d", got, g, e)
	}
	for _, victim := range []int{1, 3, 0, -2, 8, 9} {
		if got, g, e := find.Pick(s, 1, victim); !sample.SameState(got, s) || g != 0 || e != api.OK {
			t.Errorf("victim %d: %+v, %d, %d", victim, got, g, e)
		}
	}
}

func TestWrongArguments(t *testing.T) {
	for n := range 60 {
		for _, p := range []int{0, -1, 9, math.MinInt, math.MaxInt} {
			s := sample.State(n)
			if got, g, e := find.Pick(s, p, 1); !zero(got) || g != 0 || e != api.ErrArg {
				t.Fatalf("sample %d: Pick(%d): %d, %d", n, p, g, e)
			}
		}
		for i, change := range []func(*api.State){
			func(s *api.State) { s.Clock = -1 },
			func(s *api.State) { s.Global = append(s.Global, len(s.Gs)+1) },
			func(s *api.State) { s.Ps = s.Ps[:7] },
			func(s *api.State) { s.Procs = 9 },
			func(s *api.State) { *s = api.State{} },
		} {
			s := sample.State(n)
			change(&s)
			for p := range 10 {
				if got, g, e := find.Pick(s, p, 1); !zero(got) || g != 0 || e != api.ErrArg {
					t.Fatalf("sample %d, change %d: Pick(%d): %d, %d", n, i, p, g, e)
				}
				for g := range min(5, len(s.Gs)+1) {
					if got, e := find.Start(s, p, g); !zero(got) || e != api.ErrArg {
						t.Fatalf("sample %d, change %d: Start(%d, %d): %d", n, i, p, g, e)
					}
				}
			}
		}
		for _, g := range []int{math.MinInt, math.MaxInt} {
			for p := 1; p <= 8; p++ {
				if got, e := find.Start(sample.State(n), p, g); !zero(got) || e != api.ErrArg {
					t.Fatalf("sample %d: Start(%d, %d): %d", n, p, g, e)
				}
			}
		}
	}
}

func TestAnswersAreNewMemory(t *testing.T) {
	s := two()
	s.Gs[0].Status, s.Gs[1].Status = 1, 1
	s.Global = []int{1, 2}
	a, _, _ := find.Pick(s, 1, 2)
	b, _ := find.Start(s, 1, 2)
	poor := two()
	c, _, _ := find.Pick(poor, 1, 2)
	wantA, wantB, wantC := state.Copy(a), state.Copy(b), state.Copy(c)
	for _, x := range []api.State{s, poor} {
		clear(x.Gs)
		clear(x.Ps)
		clear(x.Ms)
		clear(x.Global)
		clear(x.Prog)
	}
	if !sample.SameState(a, wantA) || !sample.SameState(b, wantB) || !sample.SameState(c, wantC) {
		t.Error("an answer shares memory with the argument")
	}
}
