package exec_test

import (
	"math"
	"slices"
	"testing"

	"shuttlecock/api"
	"shuttlecock/exec"
	"shuttlecock/sample"
	"shuttlecock/state"
)

func refused(s api.State, l []api.Log, e api.Errno) bool {
	return sample.SameState(s, api.State{}) && len(l) == 0 && e == api.ErrArg
}

func TestDoOfManyStates(t *testing.T) {
	done := map[int]int{}
	for n := range 2000 {
		s := sample.State(n)
		if n%10 == 9 && n > 100 {
			continue
		}
		for m := 1; m <= len(s.Ms); m++ {
			got, l, e := exec.Do(s, m)
			if s.Ms[m-1].P == 0 || s.Ms[m-1].G == 0 {
				if !refused(got, l, e) {
					t.Fatalf("sample %d: Do(%d) of %v: %d", n, m, s.Ms[m-1], e)
				}
				continue
			}
			want := sample.State(n)
			wl := sample.Exec(&want, m)
			if !sample.SameState(got, want) || !sample.SameLogs(l, wl) || e != api.OK {
				t.Fatalf("sample %d: Do(%d) = %+v, %+v, %d, want %+v, %+v", n, m, got, l, e, want, wl)
			}
			if !state.May(got) {
				t.Fatalf("sample %d: Do(%d) makes a state that isn't valid", n, m)
			}
			if len(l) > 0 {
				done[l[0].Kind]++
			} else {
				done[0]++
			}
		}
		if !sample.SameState(s, sample.State(n)) {
			t.Fatalf("sample %d: the argument is changed", n)
		}
	}
	for _, k := range []int{0, api.KCreate, api.KStop, api.KBlock, api.KUnblock, api.KExit, api.KSysEnter} {
		if done[k] < 50 {
			t.Errorf("only %d entries of kind %d", done[k], k)
		}
	}
}

// running is a state of 12 Gs, of which G 1 runs function 1 on M 2 for P 3, at an instruction behind two others.
func running(in ...api.Instr) api.State {
	s := api.State{
		Prog:  api.Program{nil, append([]api.Instr{{}, {}}, in...), nil},
		Gs:    make([]api.G, 12),
		Ps:    make([]api.P, 8),
		Ms:    []api.M{{}, {P: 3, G: 1}},
		Procs: 4,
		Clock: 70,
	}
	for i := range s.Gs {
		s.Gs[i] = api.G{Status: api.GDead, Seq: i}
	}
	s.Gs[0] = api.G{Func: 1, PC: 2, Status: api.GRunning, M: 2, Seq: 9}
	s.Ps[2].M, s.Ps[2].Seq = 2, 40
	return s
}

func at() []api.Frame {
	return []api.Frame{{Func: "f1", Line: 3}}
}

func sameAs(t *testing.T, name string, s, want api.State, logs ...api.Log) {
	t.Helper()
	got, l, e := exec.Do(s, 2)
	if !sample.SameState(got, want) || !sample.SameLogs(l, logs) || e != api.OK {
		t.Errorf("%s: %+v, %+v, %d, want %+v, %+v", name, got, l, e, want, logs)
	}
}

func TestWork(t *testing.T) {
	s, want := running(api.Instr{}), running(api.Instr{})
	want.Gs[0].PC = 3
	sameAs(t, "work", s, want)
}

func TestSpawn(t *testing.T) {
	in := api.Instr{Do: api.ISpawn, A: 2}
	s, want := running(in), running(in)
	want.Gs[0].PC = 3
	want.Gs = append(want.Gs, api.G{Func: 2, Status: api.GRunnable})
	want.Ps[2].Next = 13
	sameAs(t, "spawn", s, want, api.Log{Time: 70, M: 2, Kind: api.KCreate, G: 13, Stack: at()})
}

// queued gives P 3 a Next and a ring of n Gs, from G 3 on.
func queued(s api.State, n int) api.State {
	s.Gs[1].Status = api.GRunnable
	s.Ps[2].Next = 2
	var l []int
	for i := range n {
		s.Gs[2+i].Status = api.GRunnable
		l = append(l, 3+i)
	}
	s.Ps[2].Ring = sample.Laid(6, l...)
	return s
}

func TestSpawnBeforeOthers(t *testing.T) {
	in := api.Instr{Do: api.ISpawn, A: 2}
	s, want := queued(running(in), 3), queued(running(in), 3)
	want.Gs[0].PC = 3
	want.Gs = append(want.Gs, api.G{Func: 2, Status: api.GRunnable})
	want.Ps[2].Next = 13
	want.Ps[2].Ring = sample.Laid(6, 3, 4, 5, 2)
	sameAs(t, "spawn", s, want, api.Log{Time: 70, M: 2, Kind: api.KCreate, G: 13, Stack: at()})
}

func TestSpawnOntoAFullRing(t *testing.T) {
	in := api.Instr{Do: api.ISpawn, A: 0}
	s, want := queued(running(in), 8), queued(running(in), 8)
	want.Gs[0].PC = 3
	want.Gs = append(want.Gs, api.G{Status: api.GRunnable})
	want.Ps[2].Next = 13
	want.Ps[2].Ring = sample.Laid(2, 7, 8, 9, 10)
	want.Global = []int{3, 4, 5, 6, 2}
	sameAs(t, "spawn", s, want, api.Log{Time: 70, M: 2, Kind: api.KCreate, G: 13, Stack: at()})
}

func TestSpawnUpToTheLimit(t *testing.T) {
	in := api.Instr{Do: api.ISpawn, A: 2}
	dead := func(n int) []api.G { return slices.Repeat([]api.G{{Status: api.GDead}}, n) }
	s, want := running(in), running(in)
	s.Gs, want.Gs = append(s.Gs, dead(987)...), append(want.Gs, dead(987)...)
	want.Gs[0].PC = 3
	want.Gs = append(want.Gs, api.G{Func: 2, Status: api.GRunnable})
	want.Ps[2].Next = 1000
	sameAs(t, "spawn of G 1000", s, want, api.Log{Time: 70, M: 2, Kind: api.KCreate, G: 1000, Stack: at()})
	s, want = queued(running(in), 2), queued(running(in), 2)
	s.Gs, want.Gs = append(s.Gs, dead(988)...), append(want.Gs, dead(988)...)
	want.Gs[0].PC = 3
	sameAs(t, "spawn of G 1001", s, want)
}

func TestYield(t *testing.T) {
	in := api.Instr{Do: api.IYield}
	s, want := queued(running(in), 1), queued(running(in), 1)
	s.Gs[11].Status, want.Gs[11].Status = api.GRunnable, api.GRunnable
	s.Global, want.Global = []int{12}, []int{12, 1}
	want.Gs[0] = api.G{Func: 1, PC: 3, Status: api.GRunnable, Seq: 10}
	want.Ms[1].G = 0
	sameAs(t, "yield", s, want, api.Log{Time: 70, M: 2, Kind: api.KStop, G: 1, Why: "yield", Stack: at()})
}

func TestAcquire(t *testing.T) {
	for a := range 4 {
		in := api.Instr{Do: api.IAcquire, A: a}
		for _, n := range []int{1, 2, 1000000} {
			s, want := running(in), running(in)
			s.Count[a], want.Count[a] = n, n-1
			want.Gs[0].PC = 3
			sameAs(t, "acquire", s, want)
		}
		s, want := running(in), running(in)
		s.Gs[5].Status, want.Gs[5].Status = api.GWaiting, api.GWaiting
		s.Waits[a], want.Waits[a] = []int{6}, []int{6, 1}
		want.Gs[0] = api.G{Func: 1, PC: 3, Status: api.GWaiting, Seq: 10}
		want.Ms[1].G = 0
		sameAs(t, "acquire behind another", s, want, api.Log{Time: 70, M: 2, Kind: api.KBlock, G: 1, Why: "acquire", Stack: at()})
	}
}

func TestRelease(t *testing.T) {
	for a := range 4 {
		in := api.Instr{Do: api.IRelease, A: a}
		for _, n := range []int{0, 1, 999999, 1000000} {
			s, want := running(in), running(in)
			s.Count[a], want.Count[a] = n, min(n+1, 1000000)
			want.Gs[0].PC = 3
			sameAs(t, "release", s, want)
		}
		s, want := queued(running(in), 2), queued(running(in), 2)
		for _, x := range []api.State{s, want} {
			x.Gs[7].Status, x.Gs[8].Status, x.Gs[9].Status = api.GWaiting, api.GWaiting, api.GWaiting
		}
		s.Waits[a], want.Waits[a] = []int{9, 8, 10}, []int{8, 10}
		want.Gs[0].PC = 3
		want.Gs[8] = api.G{Status: api.GRunnable, Seq: 9}
		want.Ps[2].Next = 9
		want.Ps[2].Ring = sample.Laid(6, 3, 4, 2)
		sameAs(t, "release for others", s, want, api.Log{Time: 70, M: 2, Kind: api.KUnblock, G: 9, Seq: 8, Stack: at()})
	}
}

func TestSys(t *testing.T) {
	in := api.Instr{Do: api.ISys}
	s, want := queued(running(in), 1), queued(running(in), 1)
	want.Gs[0] = api.G{Func: 1, PC: 3, Status: api.GSyscall, M: 2, Seq: 10}
	want.Ms[1] = api.M{G: 1}
	want.Ps[2].M, want.Ps[2].Seq = 0, 41
	sameAs(t, "sys", s, want, api.Log{Time: 70, M: 2, Kind: api.KSysEnter, G: 1, P: 3, Stack: at()})
}

func TestSleep(t *testing.T) {
	for _, a := range []int{0, 1, 30, 1000} {
		in := api.Instr{Do: api.ISleep, A: a}
		s, want := running(in), running(in)
		for _, x := range []api.State{s, want} {
			x.Gs[4].Status, x.Gs[5].Status = api.GWaiting, api.GWaiting
		}
		s.Timers = []api.Timer{{At: 70, G: 6}, {At: 100, G: 5}}
		want.Timers = []api.Timer{{At: 70, G: 6}, {At: 100, G: 5}, {At: 70 + a, G: 1}}
		slices.SortFunc(want.Timers, func(a, b api.Timer) int { return (a.At-b.At)*100 + a.G - b.G })
		want.Gs[0] = api.G{Func: 1, PC: 3, Status: api.GWaiting, Seq: 10}
		want.Ms[1].G = 0
		sameAs(t, "sleep", s, want, api.Log{Time: 70, M: 2, Kind: api.KBlock, G: 1, Why: "sleep", Stack: at()})
	}
	in := api.Instr{Do: api.ISleep, A: 1000}
	s := running(in)
	s.Clock = 1<<61 - 1
	if got, _, e := exec.Do(s, 2); e != api.OK || !slices.Equal(got.Timers, []api.Timer{{At: 1<<61 + 999, G: 1}}) || !state.May(got) {
		t.Errorf("sleep at the clock's end: %v, %d", got.Timers, e)
	}
}

func TestEnd(t *testing.T) {
	s, want := running(), running()
	want.Gs[0] = api.G{Func: 1, PC: 2, Status: api.GDead, Seq: 10}
	want.Ms[1].G = 0
	sameAs(t, "the end", s, want, api.Log{Time: 70, M: 2, Kind: api.KExit, G: 1})
}

func TestWrongArguments(t *testing.T) {
	s := running(api.Instr{})
	for _, m := range []int{0, 1, 3, -1, math.MinInt, math.MaxInt} {
		if got, l, e := exec.Do(s, m); !refused(got, l, e) {
			t.Errorf("Do of M %d: %d", m, e)
		}
	}
	idle := running(api.Instr{})
	idle.Gs[0], idle.Ms[1].G = api.G{Status: api.GDead}, 0
	if got, l, e := exec.Do(idle, 2); !refused(got, l, e) {
		t.Errorf("Do of an M without a G: %d", e)
	}
	away := running(api.Instr{})
	away.Gs[0].Status, away.Ms[1].P, away.Ps[2].M = api.GSyscall, 0, 0
	if got, l, e := exec.Do(away, 2); !refused(got, l, e) {
		t.Errorf("Do of an M without a P: %d", e)
	}
	for i, change := range []func(*api.State){
		func(s *api.State) { s.Clock = -1 },
		func(s *api.State) { s.Gs[0].PC = 4 },
		func(s *api.State) { s.Gs[0].Func = 3 },
		func(s *api.State) { s.Gs[0].M = 1 },
		func(s *api.State) { s.Ms[1].P = 2 },
		func(s *api.State) { s.Ms[1].P = 9 },
		func(s *api.State) { s.Ms[1].G = 13 },
		func(s *api.State) { s.Ms[1].G = -1 },
		func(s *api.State) { s.Prog[1][2] = api.Instr{Do: 7} },
		func(s *api.State) { s.Prog[1][2] = api.Instr{Do: -1} },
		func(s *api.State) { s.Prog[1][2] = api.Instr{Do: api.IAcquire, A: 4} },
		func(s *api.State) { s.Procs = 2 },
		func(s *api.State) { *s = api.State{} },
		func(s *api.State) { *s = api.State{Ms: []api.M{{}, {P: 1, G: 1}}} },
	} {
		wrong := running(api.Instr{})
		change(&wrong)
		if got, l, e := exec.Do(wrong, 2); !refused(got, l, e) {
			t.Errorf("change %d: Do: %d", i, e)
		}
	}
}

func TestAnswersAreNewMemory(t *testing.T) {
	for _, in := range []api.Instr{{}, {Do: api.ISpawn}, {Do: api.IYield}, {Do: api.IAcquire}, {Do: api.IRelease}, {Do: api.ISys}, {Do: api.ISleep}} {
		s := queued(running(in), 3)
		got, _, _ := exec.Do(s, 2)
		keep := state.Copy(got)
		clear(s.Prog[1])
		clear(s.Prog)
		clear(s.Gs)
		clear(s.Ps)
		clear(s.Ms)
		if !sample.SameState(got, keep) {
			t.Errorf("instruction %d: the answer shares memory with the argument", in.Do)
		}
	}
}
