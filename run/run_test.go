package run_test

import (
	"math"
	"slices"
	"testing"

	"shuttlecock/api"
	"shuttlecock/run"
	"shuttlecock/sample"
	"shuttlecock/state"
)

// twin runs a script by the samples' scheduler, which changes the state in place.
func twin(s *api.State, l []api.Item) ([]api.Log, []int) {
	var logs []api.Log
	var lengths []int
	for _, x := range l {
		logs = append(logs, sample.Do(s, x)...)
		lengths = append(lengths, len(logs))
	}
	return logs, lengths
}

func zero(s api.State, l []api.Log, lengths []int) bool {
	return sample.SameState(s, api.State{}) && len(l) == 0 && len(lengths) == 0
}

func TestTheExample(t *testing.T) {
	one := api.Item{Do: api.ItStep, N: 1}
	s, l, lengths, e := run.Go(api.Program{nil}, 1, []api.Item{one, one, one})
	want := []api.Log{{M: 1, Kind: api.KProcStart, P: 1}, {M: 1, Kind: api.KStart, G: 1}, {M: 1, Kind: api.KExit, G: 1}}
	if e != api.OK || !sample.SameLogs(l, want) || !slices.Equal(lengths, []int{1, 2, 3}) || s.Gs[0].Status != api.GDead {
		t.Errorf("%+v, %+v, %v, %d", s, l, lengths, e)
	}
}

func TestGo(t *testing.T) {
	for n := range 60 {
		p := sample.Program(n)
		for _, procs := range []int{1, 3, 8} {
			items := sample.Items(n+procs, n*4)
			want, _ := state.New(p, procs)
			wl, wlengths := twin(&want, items)
			s, l, lengths, e := run.Go(p, procs, items)
			if !sample.SameState(s, want) || !sample.SameLogs(l, wl) || !slices.Equal(lengths, wlengths) || e != api.OK {
				t.Fatalf("script %d for %d Ps: %+v, %d entries, %v, %d", n, procs, s, len(l), lengths, e)
			}
			if !slices.IsSortedFunc(l, func(a, b api.Log) int { return a.Time - b.Time }) {
				t.Fatalf("script %d for %d Ps: the times decrease", n, procs)
			}
		}
	}
}

func TestGoErrors(t *testing.T) {
	items := sample.Items(1, 20)
	for _, procs := range []int{0, -1, 9, math.MinInt, math.MaxInt} {
		if s, l, lengths, e := run.Go(api.Program{nil}, procs, items); !zero(s, l, lengths) || e != api.ErrArg {
			t.Errorf("%d Ps: %d", procs, e)
		}
	}
	for _, p := range []api.Program{nil, {}, make(api.Program, 9), {{{Do: 7}}}} {
		for _, items := range [][]api.Item{nil, items} {
			if s, l, lengths, e := run.Go(p, 1, items); !zero(s, l, lengths) || e != api.ErrArg {
				t.Errorf("program %v: %d", p, e)
			}
		}
	}
}

func TestFrom(t *testing.T) {
	for n := range 120 {
		items := sample.Items(n+500, 100)
		want := sample.State(n)
		wl, wlengths := twin(&want, items)
		first := sample.State(n)
		s, l, lengths, e := run.From(first, items)
		if !sample.SameState(s, want) || !sample.SameLogs(l, wl) || !slices.Equal(lengths, wlengths) || e != api.OK {
			t.Fatalf("sample %d: %+v, %d entries, %v, %d", n, s, len(l), lengths, e)
		}
		if !sample.SameState(first, sample.State(n)) || !slices.Equal(items, sample.Items(n+500, 100)) {
			t.Fatalf("sample %d: an argument is changed", n)
		}
		if !state.May(s) {
			t.Fatalf("sample %d: the last state isn't valid", n)
		}
	}
}

func TestFromWithoutItems(t *testing.T) {
	first := sample.State(4)
	for _, items := range [][]api.Item{nil, {}} {
		s, l, lengths, e := run.From(first, items)
		if !sample.SameState(s, first) || len(l) != 0 || len(lengths) != 0 || e != api.OK {
			t.Errorf("%+v, %v, %v, %d", s, l, lengths, e)
		}
	}
	s, _, _, _ := run.From(first, nil)
	clear(first.Gs)
	clear(first.Ps)
	if !sample.SameState(s, sample.State(4)) {
		t.Error("the answer shares memory with the argument")
	}
}

func TestFromWrongStates(t *testing.T) {
	for i, change := range []func(*api.State){
		func(s *api.State) { s.Clock = -1 },
		func(s *api.State) { s.Procs = 9 },
		func(s *api.State) { s.Gs = append(s.Gs, api.G{Status: 1}) },
		func(s *api.State) { *s = api.State{} },
	} {
		for _, items := range [][]api.Item{nil, sample.Items(3, 10)} {
			s := sample.State(6)
			change(&s)
			if got, l, lengths, e := run.From(s, items); !zero(got, l, lengths) || e != api.ErrArg {
				t.Errorf("change %d: %d", i, e)
			}
		}
	}
}

func TestAScriptInTwoParts(t *testing.T) {
	for n := range 40 {
		items := sample.Items(n+900, 80)
		s, l, lengths, _ := run.From(sample.State(n), items)
		for _, cut := range []int{0, 1, 40, 79, 80} {
			half, l1, lengths1, e1 := run.From(sample.State(n), items[:cut])
			end, l2, lengths2, e2 := run.From(half, items[cut:])
			for i := range lengths2 {
				lengths2[i] += len(l1)
			}
			if e1 != api.OK || e2 != api.OK || !sample.SameState(end, s) || !sample.SameLogs(slices.Concat(l1, l2), l) || !slices.Equal(slices.Concat(lengths1, lengths2), lengths) {
				t.Fatalf("sample %d, cut at %d: %d, %d", n, cut, e1, e2)
			}
		}
	}
}
