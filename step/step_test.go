package step_test

import (
	"math"
	"slices"
	"testing"

	"shuttlecock/api"
	"shuttlecock/sample"
	"shuttlecock/state"
	"shuttlecock/step"
)

func refused(s api.State, l []api.Log, e api.Errno) bool {
	return sample.SameState(s, api.State{}) && len(l) == 0 && e == api.ErrArg
}

// items are those that may do something to a state, and wrong ones.
func items(n int, s api.State) []api.Item {
	d := sample.NewDice(n)
	out := sample.Items(n, 6)
	for p := -1; p < 10; p++ {
		out = append(out, api.Item{Do: api.ItStep, N: p, Victim: d.Roll(10)}, api.Item{Do: api.ItProcs, N: p, Victim: 3})
	}
	for m := range len(s.Ms) + 2 {
		out = append(out, api.Item{Do: api.ItExit, N: m})
	}
	for _, by := range []int{-1, 0, 1, 10, 1000000, 1000001, math.MinInt, math.MaxInt} {
		out = append(out, api.Item{Do: api.ItTick, N: by})
	}
	return out
}

func TestDoOfManyStates(t *testing.T) {
	done := map[[2]int]int{}
	for n := range 500 {
		s := sample.State(n)
		if n%10 == 9 && n > 60 {
			continue
		}
		for _, x := range items(n, s) {
			got, l, e := step.Do(s, x)
			want := sample.State(n)
			wl := sample.Do(&want, x)
			if !sample.SameState(got, want) || !sample.SameLogs(l, wl) || e != api.OK {
				t.Fatalf("sample %d: Do(%v) = %+v, %+v, %d, want %+v, %+v", n, x, got, l, e, want, wl)
			}
			if !state.May(got) || got.Clock < s.Clock {
				t.Fatalf("sample %d: Do(%v) makes a state that isn't valid", n, x)
			}
			for _, entry := range l {
				done[[2]int{x.Do, entry.Kind}]++
			}
		}
		if !sample.SameState(s, sample.State(n)) {
			t.Fatalf("sample %d: the argument is changed", n)
		}
	}
	for _, k := range [][2]int{{0, 1}, {0, 2}, {0, 3}, {0, 4}, {0, 5}, {0, 6}, {0, 7}, {0, 8}, {0, 9}, {1, 10}, {3, 2}, {3, 5}} {
		if done[k] < 30 {
			t.Errorf("items of kind %d logged kind %d only %d times", k[0], k[1], done[k])
		}
	}
}

func TestLongScripts(t *testing.T) {
	for n := range 60 {
		s, e := state.New(sample.Program(n), 1+n%8)
		if e != api.OK {
			t.Fatal(e)
		}
		want := state.Copy(s)
		for i, x := range sample.Items(n+1000, 300) {
			next, l, e := step.Do(s, x)
			wl := sample.Do(&want, x)
			if !sample.SameState(next, want) || !sample.SameLogs(l, wl) || e != api.OK || !state.May(next) {
				t.Fatalf("script %d, item %d, %v: %+v, %+v, %d", n, i, x, next, l, e)
			}
			s = next
		}
	}
}

func TestTheExample(t *testing.T) {
	s, _ := state.New(api.Program{nil}, 1)
	s, l, e := step.Do(s, api.Item{N: 1})
	if e != api.OK || !sample.SameLogs(l, []api.Log{{M: 1, Kind: api.KProcStart, P: 1}}) || !slices.Equal(s.Ms, []api.M{{P: 1}}) || s.Ps[0] != (api.P{M: 1, Seq: 1}) {
		t.Errorf("the first step: %+v, %+v, %d", s, l, e)
	}
	s, l, e = step.Do(s, api.Item{N: 1})
	if e != api.OK || !sample.SameLogs(l, []api.Log{{M: 1, Kind: api.KStart, G: 1}}) || !slices.Equal(s.Ms, []api.M{{P: 1, G: 1}}) || s.Gs[0] != (api.G{Status: 2, M: 1, Seq: 1}) {
		t.Errorf("the second step: %+v, %+v, %d", s, l, e)
	}
	s, l, e = step.Do(s, api.Item{N: 1})
	if e != api.OK || !sample.SameLogs(l, []api.Log{{M: 1, Kind: api.KExit, G: 1}}) || s.Gs[0] != (api.G{Status: 5, Seq: 2}) {
		t.Errorf("the third step: %+v, %+v, %d", s, l, e)
	}
	s, l, e = step.Do(s, api.Item{N: 1})
	if e != api.OK || !sample.SameLogs(l, []api.Log{{M: 1, Kind: api.KProcStop, P: 1}}) || !slices.Equal(s.Ms, []api.M{{}}) || s.Ps[0] != (api.P{Seq: 2}) {
		t.Errorf("the fourth step: %+v, %+v, %d", s, l, e)
	}
}

// base is a state of 9 dead Gs and 3 Ps in use, of which P 2 has M 2 without a G.
func base() api.State {
	s := api.State{Prog: api.Program{nil, {{}, {}}}, Gs: make([]api.G, 9), Ps: make([]api.P, 8), Ms: []api.M{{}, {P: 2}, {}}, Procs: 3, Clock: 50}
	for i := range s.Gs {
		s.Gs[i] = api.G{Func: 1, PC: 1, Status: api.GDead, Seq: 10 + i}
	}
	for i := range s.Ps {
		s.Ps[i].Seq = 30 + i
	}
	s.Ps[1].M = 2
	return s
}

func check(t *testing.T, name string, s api.State, x api.Item, want api.State, logs ...api.Log) {
	t.Helper()
	got, l, e := step.Do(s, x)
	if !sample.SameState(got, want) || !sample.SameLogs(l, logs) || e != api.OK {
		t.Errorf("%s: %+v, %+v, %d, want %+v, %+v", name, got, l, e, want, logs)
	}
}

func TestStepTakesTheFirstIdleM(t *testing.T) {
	s, want := base(), base()
	want.Ms[0].P = 3
	want.Ps[2].M, want.Ps[2].Seq = 1, 33
	check(t, "an idle M", s, api.Item{N: 3}, want, api.Log{Time: 50, M: 1, Kind: api.KProcStart, P: 3, Seq: 32})
	away := func() api.State {
		s := base()
		s.Ms[0].G, s.Ms[2].G = 4, 5
		s.Gs[3].Status, s.Gs[3].M, s.Gs[4].Status, s.Gs[4].M = api.GSyscall, 1, api.GSyscall, 3
		return s
	}
	s, want = away(), away()
	want.Ms = append(want.Ms, api.M{P: 1})
	want.Ps[0].M, want.Ps[0].Seq = 4, 31
	check(t, "a new M", s, api.Item{N: 1}, want, api.Log{Time: 50, M: 4, Kind: api.KProcStart, P: 1, Seq: 30})
}

func TestStepUpToTheLimitOfMs(t *testing.T) {
	full := func(n int) api.State {
		s := base()
		s.Ms, s.Gs, s.Ps[1].M = nil, nil, 0
		for i := range n {
			s.Ms = append(s.Ms, api.M{G: i + 1})
			s.Gs = append(s.Gs, api.G{Status: api.GSyscall, M: i + 1})
		}
		return s
	}
	s, want := full(999), full(999)
	want.Ms = append(want.Ms, api.M{P: 1})
	want.Ps[0].M, want.Ps[0].Seq = 1000, 31
	check(t, "the last M", s, api.Item{N: 1}, want, api.Log{Time: 50, M: 1000, Kind: api.KProcStart, P: 1, Seq: 30})
	check(t, "no M", full(1000), api.Item{N: 1}, full(1000))
}

func TestStepWakesAndPicks(t *testing.T) {
	asleep := func() api.State {
		s := base()
		for g, at := range []int{50, 49, 51} {
			s.Gs[g].Status = api.GWaiting
			s.Timers = append(s.Timers, api.Timer{At: at, G: g + 1})
		}
		s.Timers = []api.Timer{{At: 49, G: 2}, {At: 50, G: 1}, {At: 51, G: 3}}
		s.Ps[1].Next, s.Gs[5].Status = 6, api.GRunnable
		return s
	}
	want := asleep()
	want.Timers = []api.Timer{{At: 51, G: 3}}
	want.Ps[1].Next, want.Ps[1].Ring = 0, sample.Laid(0, 6, 2)
	want.Gs[0].Status, want.Gs[0].Seq, want.Gs[0].M = api.GRunning, 12, 2
	want.Gs[1].Status, want.Gs[1].Seq = api.GRunnable, 12
	want.Ms[1].G = 1
	check(t, "due timers", asleep(), api.Item{N: 2}, want,
		api.Log{Time: 50, M: 2, Kind: api.KUnblock, G: 2, Seq: 11},
		api.Log{Time: 50, M: 2, Kind: api.KUnblock, G: 1, Seq: 10},
		api.Log{Time: 50, M: 2, Kind: api.KStart, G: 1, Seq: 11})
}

func TestStepDoesNotWakeWhereAGRuns(t *testing.T) {
	busy := func() api.State {
		s := base()
		s.Gs[0].Status, s.Timers = api.GWaiting, []api.Timer{{At: 1, G: 1}}
		s.Gs[1].Status, s.Gs[1].M, s.Ms[1].G = api.GRunning, 2, 2
		return s
	}
	want := busy()
	want.Gs[1].PC = 2
	check(t, "an instruction", busy(), api.Item{N: 2}, want)
	want = busy()
	want.Ms[0].P = 1
	want.Ps[0].M, want.Ps[0].Seq = 1, 31
	check(t, "a P without an M", busy(), api.Item{N: 1}, want, api.Log{Time: 50, M: 1, Kind: api.KProcStart, P: 1, Seq: 30})
}

func TestStepSteals(t *testing.T) {
	rich := func() api.State {
		s := base()
		for g := range 3 {
			s.Gs[g].Status = api.GRunnable
		}
		s.Ps[0].Ring = sample.Laid(5, 1, 2, 3)
		return s
	}
	want := rich()
	want.Ps[0].Ring, want.Ps[1].Ring = sample.Laid(7, 3), sample.Laid(0, 2)
	want.Gs[0] = api.G{Func: 1, PC: 1, Status: api.GRunning, M: 2, Seq: 11}
	want.Ms[1].G = 1
	check(t, "a victim", rich(), api.Item{N: 2, Victim: 1}, want, api.Log{Time: 50, M: 2, Kind: api.KStart, G: 1, Seq: 10})
	for _, victim := range []int{0, 2, 3, 4, -1, 9} {
		want := rich()
		want.Ms[1].P = 0
		want.Ps[1].M, want.Ps[1].Seq = 0, 32
		check(t, "no victim", rich(), api.Item{N: 2, Victim: victim}, want, api.Log{Time: 50, M: 2, Kind: api.KProcStop, P: 2})
	}
}

func away() api.State {
	s := base()
	s.Ms[0].G = 4
	s.Gs[3].Status, s.Gs[3].M = api.GSyscall, 1
	return s
}

func TestExit(t *testing.T) {
	want := away()
	want.Gs[3].Status, want.Gs[3].Seq = api.GRunning, 14
	want.Ms[0].P = 1
	want.Ps[0].M, want.Ps[0].Seq = 1, 31
	check(t, "the first P without an M", away(), api.Item{Do: api.ItExit, N: 1}, want, api.Log{Time: 50, M: 1, Kind: api.KSysExit, G: 4, P: 1, Seq: 30})

	full := func() api.State {
		s := away()
		s.Ps[0].M, s.Ms[2].P = 3, 1
		return s
	}
	want = full()
	want.Gs[3].Status, want.Gs[3].Seq = api.GRunning, 14
	want.Ms[0].P = 3
	want.Ps[2].M, want.Ps[2].Seq = 1, 33
	check(t, "a later P", full(), api.Item{Do: api.ItExit, N: 1}, want, api.Log{Time: 50, M: 1, Kind: api.KSysExit, G: 4, P: 3, Seq: 32})

	none := func() api.State {
		s := full()
		s.Procs = 2
		s.Global, s.Gs[6].Status = []int{7}, api.GRunnable
		return s
	}
	want = none()
	want.Gs[3] = api.G{Func: 1, PC: 1, Status: api.GRunnable, Seq: 14}
	want.Ms[0] = api.M{}
	want.Global = []int{7, 4}
	check(t, "no P", none(), api.Item{Do: api.ItExit, N: 1}, want, api.Log{Time: 50, M: 1, Kind: api.KSysExit, G: 4})
}

func TestExitOfNothing(t *testing.T) {
	s := away()
	s.Ms[1].G, s.Gs[0].Status, s.Gs[0].M = 1, api.GRunning, 2
	for _, m := range []int{2, 3, 0, 4, -1, math.MinInt, math.MaxInt} {
		check(t, "no M in a system call", s, api.Item{Do: api.ItExit, N: m}, s)
	}
}

func TestTick(t *testing.T) {
	for _, by := range []int{0, 1, 7, 999999, 1000000} {
		want := base()
		want.Clock += by
		check(t, "a tick", base(), api.Item{Do: api.ItTick, N: by}, want)
	}
	for _, by := range []int{-1, 1000001, math.MinInt, math.MaxInt, 1 << 61} {
		check(t, "a wrong tick", base(), api.Item{Do: api.ItTick, N: by}, base())
	}
	late, last := base(), base()
	late.Clock, last.Clock = 1<<61-10, 1<<61-1
	check(t, "the last tick", late, api.Item{Do: api.ItTick, N: 9}, last)
	check(t, "a tick too far", late, api.Item{Do: api.ItTick, N: 10}, late)
	check(t, "a tick at the end", last, api.Item{Do: api.ItTick, N: 1}, last)
	check(t, "no tick at the end", last, api.Item{Do: api.ItTick, N: 0}, last)
}

func TestProcsUp(t *testing.T) {
	for n := 3; n <= 8; n++ {
		want := base()
		want.Procs = n
		check(t, "more Ps", base(), api.Item{Do: api.ItProcs, N: n}, want)
	}
	for _, n := range []int{0, -1, 9, math.MinInt, math.MaxInt} {
		check(t, "a wrong number of Ps", base(), api.Item{Do: api.ItProcs, N: n}, base())
	}
}

func TestProcsDown(t *testing.T) {
	busy := func() api.State {
		s := base()
		s.Ms[1].G, s.Gs[0].Status, s.Gs[0].M = 1, api.GRunning, 2
		for _, g := range []int{2, 3, 4, 5, 6} {
			s.Gs[g-1].Status = api.GRunnable
		}
		s.Ps[1].Next, s.Ps[1].Ring = 2, sample.Laid(7, 3, 4)
		s.Ps[2].Ring = sample.Laid(4, 5)
		s.Global = []int{6}
		s.Ps[0].Ring.Head = 3
		return s
	}
	want := busy()
	want.Procs = 1
	want.Gs[0] = api.G{Func: 1, PC: 1, Status: api.GRunnable, Seq: 11}
	want.Ms[1] = api.M{}
	want.Ps[1] = api.P{Seq: 32}
	want.Ps[2] = api.P{Seq: 32}
	want.Global = []int{6, 1, 2, 3, 4, 5}
	check(t, "one P", busy(), api.Item{Do: api.ItProcs, N: 1}, want,
		api.Log{Time: 50, M: 2, Kind: api.KStop, G: 1, Why: "preempt", Stack: []api.Frame{{Func: "f1", Line: 2}}},
		api.Log{Time: 50, M: 2, Kind: api.KProcStop, P: 2})

	want = busy()
	want.Procs = 2
	want.Ps[2] = api.P{Seq: 32}
	want.Global = []int{6, 5}
	check(t, "two Ps", busy(), api.Item{Do: api.ItProcs, N: 2}, want)

	looking := base()
	want = base()
	want.Procs = 1
	want.Ms[1] = api.M{}
	want.Ps[1] = api.P{Seq: 32}
	check(t, "an M without a G", looking, api.Item{Do: api.ItProcs, N: 1}, want, api.Log{Time: 50, M: 2, Kind: api.KProcStop, P: 2})
}

func TestProcsDownInOrder(t *testing.T) {
	s := base()
	s.Ms = []api.M{{P: 3, G: 1}, {P: 2, G: 2}, {P: 1, G: 3}}
	for i := range 3 {
		s.Ps[i].M = 3 - i
		s.Gs[i].Status, s.Gs[i].M = api.GRunning, i+1
	}
	at := []api.Frame{{Func: "f1", Line: 2}}
	got, l, e := step.Do(s, api.Item{Do: api.ItProcs, N: 1})
	want := []api.Log{
		{Time: 50, M: 2, Kind: api.KStop, G: 2, Why: "preempt", Stack: at},
		{Time: 50, M: 2, Kind: api.KProcStop, P: 2},
		{Time: 50, M: 1, Kind: api.KStop, G: 1, Why: "preempt", Stack: at},
		{Time: 50, M: 1, Kind: api.KProcStop, P: 3},
	}
	if e != api.OK || !sample.SameLogs(l, want) || !slices.Equal(got.Global, []int{2, 1}) || got.Procs != 1 {
		t.Errorf("%+v, %+v, %d", got, l, e)
	}
}

func TestOtherItems(t *testing.T) {
	for _, do := range []int{-1, 4, 5, math.MinInt, math.MaxInt} {
		for n := range 4 {
			check(t, "no item", base(), api.Item{Do: do, N: n, Victim: 1}, base())
		}
	}
	for _, p := range []int{0, -1, 4, 8, 9, math.MinInt, math.MaxInt} {
		check(t, "no P in use", base(), api.Item{N: p, Victim: 1}, base())
	}
}

func TestWrongStates(t *testing.T) {
	for i, change := range []func(*api.State){
		func(s *api.State) { s.Clock = -1 },
		func(s *api.State) { s.Clock = 1 << 61 },
		func(s *api.State) { s.Procs = 0 },
		func(s *api.State) { s.Procs = 9 },
		func(s *api.State) { s.Ps = nil },
		func(s *api.State) { s.Gs[0].Status = api.GRunnable },
		func(s *api.State) { s.Ms[1].P = 1 },
		func(s *api.State) { s.Ms[1].P = 100 },
		func(s *api.State) { s.Timers = []api.Timer{{At: 1, G: 1}} },
		func(s *api.State) { *s = api.State{} },
	} {
		s := base()
		change(&s)
		for do := -1; do < 6; do++ {
			for n := range 4 {
				if got, l, e := step.Do(s, api.Item{Do: do, N: n}); !refused(got, l, e) {
					t.Errorf("change %d: Do(%d, %d): %d", i, do, n, e)
				}
			}
		}
	}
}

// What becomes of a state with greater seqs is left open, but every call ends.
func TestSeqsNearTheirEnd(t *testing.T) {
	for n := range 60 {
		for _, seq := range []int{1<<61 - 10, 1<<61 - 2, 1<<61 - 1} {
			s := sample.State(n)
			if len(s.Gs) > 100 {
				continue
			}
			for i := range s.Gs {
				s.Gs[i].Seq = seq
			}
			for i := range s.Ps {
				s.Ps[i].Seq = seq
			}
			for _, x := range items(n, s) {
				got, _, e := step.Do(s, x)
				if seq == 1<<61-10 && (e != api.OK || !state.May(got)) {
					t.Fatalf("sample %d: Do(%v): %d", n, x, e)
				}
			}
		}
	}
}

func TestAnswersAreNewMemory(t *testing.T) {
	for n := range 40 {
		s := sample.State(n)
		for _, x := range items(n, s)[:12] {
			s := sample.State(n)
			got, _, _ := step.Do(s, x)
			keep := state.Copy(got)
			clear(s.Gs)
			clear(s.Ps)
			clear(s.Ms)
			clear(s.Global)
			clear(s.Timers)
			for _, code := range s.Prog {
				clear(code)
			}
			clear(s.Prog)
			for _, l := range s.Waits {
				clear(l)
			}
			if !sample.SameState(got, keep) {
				t.Fatalf("sample %d, %v: the answer shares memory with the argument", n, x)
			}
		}
	}
}
