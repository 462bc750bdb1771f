package merge_test

import (
	"math"
	"slices"
	"testing"

	"shuttlecock/api"
	"shuttlecock/auto"
	"shuttlecock/merge"
	"shuttlecock/model"
	"shuttlecock/sample"
	"shuttlecock/tracer"
)

// writer keeps events in streams, as a trace of one generation would.
type writer struct {
	t *testing.T
	g api.Gen
}

func (w *writer) put(l api.Log) {
	table, e, ok := tracer.Event(w.g.Table, l)
	if !ok {
		w.t.Fatalf("no event of %+v", l)
	}
	w.g.Table = table
	w.add(l.M, l.Time, e)
}

func (w *writer) add(m, time int, e api.Event) {
	i := 0
	for i < len(w.g.Streams) && w.g.Streams[i].M < m {
		i++
	}
	if i == len(w.g.Streams) || w.g.Streams[i].M != m {
		w.g.Streams = slices.Insert(w.g.Streams, i, api.Stream{M: m})
	}
	s := &w.g.Streams[i]
	s.Events, s.Times = append(s.Events, e), append(s.Times, time)
}

// logged is a generation of what a script logs from a sample's state on, and the state behind it.
func logged(t *testing.T, n, length int) (api.Gen, []api.Log, api.State) {
	s := sample.State(n)
	w := &writer{t: t, g: api.Gen{Gen: 1, Snap: model.Of(s)}}
	d := sample.NewDice(n)
	var logs []api.Log
	for _, item := range sample.Items(n, length) {
		for _, l := range sample.Do(&s, item) {
			w.put(l)
			logs = append(logs, l)
			if d.Roll(10) == 0 {
				w.add(l.M, l.Time, api.Event{Kind: 128 + d.Roll(128), Text: "x"})
			}
		}
	}
	return w.g, logs, s
}

func ofM(l []api.Log, m int) []api.Log {
	return slices.DeleteFunc(slices.Clone(l), func(x api.Log) bool { return x.M != m })
}

func TestWhatWasLoggedIsMerged(t *testing.T) {
	for n := range 120 {
		g, logs, s := logged(t, n, 200)
		got, x, m, e := merge.Gen(g)
		if m != 0 || e != api.OK || len(got) != len(logs) {
			t.Fatalf("script %d: %d of %d entries, %d, %d", n, len(got), len(logs), m, e)
		}
		for m := 1; m <= len(s.Ms); m++ {
			if !sample.SameLogs(ofM(got, m), ofM(logs, m)) {
				t.Fatalf("script %d: the entries of M %d differ", n, m)
			}
		}
		if !slices.IsSortedFunc(got, func(a, b api.Log) int { return a.Time - b.Time }) {
			t.Fatalf("script %d: the times decrease", n)
		}
		end := model.Of(s)
		if !slices.Equal(x.Ps, end.Ps) || !slices.Equal(x.Gs, end.Gs) {
			t.Fatalf("script %d: the last snapshot is %+v, want %+v", n, x, end)
		}
		at := g.Snap
		for _, l := range got {
			next, ok := model.Apply(at, l)
			if !ok {
				t.Fatalf("script %d: %+v is not possible", n, l)
			}
			at = next
		}
		if !sample.SameSnap(at, x) {
			t.Fatalf("script %d: the last snapshot is %+v, want %+v", n, x, at)
		}
	}
}

// heads is P23.2 in the chapter's words: the streams with a head, by time, M and index.
func heads(g api.Gen, at []int) []int {
	var out []int
	times := map[int]int{}
	for i, s := range g.Streams {
		if len(s.Events) != len(s.Times) {
			return nil
		}
		k := 0
		if i < len(at) && at[i] > 0 {
			k = at[i]
		}
		for k < len(s.Events) && s.Events[k].Kind >= 128 && s.Events[k].Kind <= 255 {
			k++
		}
		if k < len(s.Events) {
			out = append(out, i)
			times[i] = s.Times[k]
		}
	}
	slices.SortStableFunc(out, func(i, j int) int {
		switch {
		case times[i] < times[j] || times[i] == times[j] && g.Streams[i].M < g.Streams[j].M:
			return -1
		case times[i] == times[j] && g.Streams[i].M == g.Streams[j].M:
			return 0
		}
		return 1
	})
	return out
}

// twin is P23.1 in the chapter's words, by the twin's heads.
func twin(g api.Gen) ([]api.Log, api.Snap, int, api.Errno) {
	for _, s := range g.Streams {
		if len(s.Events) != len(s.Times) {
			return nil, api.Snap{}, 0, api.ErrStuck
		}
	}
	for _, s := range g.Streams {
		for _, e := range s.Events {
			if !auto.Named(g.Table, e) {
				return nil, api.Snap{}, s.M, api.ErrAuto
			}
		}
	}
	at := make([]int, len(g.Streams))
	x := g.Snap
	var logs []api.Log
	for {
		l := heads(g, at)
		if len(l) == 0 {
			return logs, x, 0, api.OK
		}
		taken := false
		for _, i := range l {
			s := g.Streams[i]
			k := at[i]
			for s.Events[k].Kind >= 128 {
				k++
			}
			next, entry, ok := auto.Step(g.Table, x, s.M, s.Times[k], s.Events[k])
			if ok {
				x, logs, at[i], taken = next, append(logs, entry), k+1, true
				break
			}
		}
		if !taken {
			return nil, api.Snap{}, g.Streams[l[0]].M, api.ErrStuck
		}
	}
}

func check(t *testing.T, name string, g api.Gen) api.Errno {
	t.Helper()
	logs, x, m, e := merge.Gen(g)
	wl, wx, wm, we := twin(g)
	if !sample.SameLogs(logs, wl) || !sample.SameSnap(x, wx) || m != wm || e != we {
		t.Fatalf("%s: %+v, %+v, %d, %d, want %+v, %+v, %d, %d, of %+v", name, logs, x, m, e, wl, wx, wm, we, g)
	}
	return e
}

func cloned(g api.Gen) api.Gen {
	g.Streams = slices.Clone(g.Streams)
	for i, s := range g.Streams {
		g.Streams[i].Events, g.Streams[i].Times = slices.Clone(s.Events), slices.Clone(s.Times)
	}
	return g
}

func TestSpoiltStreams(t *testing.T) {
	seen := map[api.Errno]int{}
	for n := range 60 {
		whole, _, _ := logged(t, n, 60)
		if len(whole.Streams) == 0 || len(whole.Snap.Gs) > 100 {
			continue
		}
		check(t, "whole", whole)
		d := sample.NewDice(n)
		for range 60 {
			g := cloned(whole)
			s := &g.Streams[d.Roll(len(g.Streams))]
			i := d.Roll(len(s.Events))
			switch d.Roll(10) {
			case 0:
				s.Events, s.Times = slices.Delete(s.Events, i, i+1), slices.Delete(s.Times, i, i+1)
			case 1:
				s.Times = s.Times[1:]
			case 2:
				s.Times[i] = d.Roll(200)
			case 3:
				s.Events[i].Kind = d.Roll(300)
			case 4:
				s.Events[i].Args = slices.Clone(s.Events[i].Args)
				if len(s.Events[i].Args) > 0 {
					s.Events[i].Args[d.Roll(len(s.Events[i].Args))] += 1 + d.Roll(20)
				}
			case 5:
				s.M = d.Roll(12) - 1
			case 6:
				j := d.Roll(len(s.Events))
				s.Events[i], s.Events[j] = s.Events[j], s.Events[i]
			case 7:
				j := d.Roll(len(g.Streams))
				g.Streams[0], g.Streams[j] = g.Streams[j], g.Streams[0]
			case 8:
				g.Snap = model.Of(sample.State(d.Roll(40)))
			default:
				cut := api.Stream{M: s.M, Events: slices.Clone(s.Events[i:]), Times: slices.Clone(s.Times[i:])}
				s.Events, s.Times = s.Events[:i], s.Times[:i]
				g.Streams = append(g.Streams, cut)
			}
			seen[check(t, "spoilt", g)]++
		}
	}
	for _, e := range []api.Errno{api.OK, api.ErrAuto, api.ErrStuck} {
		if seen[e] < 50 {
			t.Errorf("error %d came up %d times", e, seen[e])
		}
	}
}

func ev(kind int, args ...int) api.Event {
	return api.Event{Kind: kind, Args: args}
}

func stream(m int, times []int, events ...api.Event) api.Stream {
	return api.Stream{M: m, Events: events, Times: times}
}

// two is a snapshot with P 1 on M 1, which runs G 1, and P 2 on M 2.
func two() api.Snap {
	return api.Snap{Time: 5, Ps: []api.PStat{{M: 1, Seq: 1}, {M: 2, Seq: 1}, {}}, Gs: []api.GStat{{G: 1, Status: 2, M: 1, Seq: 1}}}
}

func TestTheExample(t *testing.T) {
	create := stream(1, []int{7}, ev(api.KCreate, 2, 0))
	start := stream(2, []int{7}, ev(api.KStart, 2, 0))
	want := []api.Log{{Time: 7, M: 1, Kind: api.KCreate, G: 2}, {Time: 7, M: 2, Kind: api.KStart, G: 2}}
	for _, streams := range [][]api.Stream{{create, start}, {start, create}} {
		l, x, m, e := merge.Gen(api.Gen{Snap: two(), Streams: streams})
		if !sample.SameLogs(l, want) || m != 0 || e != api.OK || len(x.Gs) != 2 || x.Time != 7 {
			t.Errorf("%+v, %+v, %d, %d", l, x, m, e)
		}
	}
	swapped := two()
	swapped.Ps[0].M, swapped.Ps[1].M, swapped.Gs[0].M = 2, 1, 2
	l, _, _, e := merge.Gen(api.Gen{Snap: swapped, Streams: []api.Stream{stream(1, []int{7}, ev(api.KStart, 2, 0)), stream(2, []int{7}, ev(api.KCreate, 2, 0))}})
	if e != api.OK || len(l) != 2 || l[0].M != 2 || l[1].M != 1 {
		t.Errorf("the creation by M 2: %+v, %d", l, e)
	}
}

func TestTheOrderOfHeads(t *testing.T) {
	exit := ev(api.KExit)
	for i, c := range []struct {
		g    api.Gen
		at   []int
		want []int
	}{
		{api.Gen{}, nil, nil},
		{api.Gen{}, []int{1, 2}, nil},
		{api.Gen{Streams: []api.Stream{stream(1, nil)}}, nil, nil},
		{api.Gen{Streams: []api.Stream{stream(1, []int{5}, exit)}}, nil, []int{0}},
		{api.Gen{Streams: []api.Stream{stream(1, []int{5}, exit)}}, []int{1}, nil},
		{api.Gen{Streams: []api.Stream{stream(1, []int{5}, exit)}}, []int{-1}, []int{0}},
		{api.Gen{Streams: []api.Stream{stream(1, []int{5}, exit)}}, []int{math.MinInt}, []int{0}},
		{api.Gen{Streams: []api.Stream{stream(1, []int{5}, exit)}}, []int{math.MaxInt, 3, 4}, nil},
		{api.Gen{Streams: []api.Stream{stream(1, []int{5}, ev(200))}}, nil, nil},
		{api.Gen{Streams: []api.Stream{stream(1, []int{5, 6}, ev(200), exit)}}, nil, []int{0}},
		{api.Gen{Streams: []api.Stream{stream(1, []int{5, 6}, exit, ev(200))}}, []int{1}, nil},
		{api.Gen{Streams: []api.Stream{stream(9, []int{5}, exit), stream(4, []int{5}, exit), stream(6, []int{4}, exit)}}, nil, []int{2, 1, 0}},
		{api.Gen{Streams: []api.Stream{stream(4, []int{5}, exit), stream(4, []int{5}, exit), stream(4, []int{5}, exit)}}, nil, []int{0, 1, 2}},
		{api.Gen{Streams: []api.Stream{stream(4, []int{5, 9}, ev(128), exit), stream(7, []int{6}, exit)}}, nil, []int{1, 0}},
		{api.Gen{Streams: []api.Stream{stream(4, []int{5, 9}, exit, exit), stream(7, []int{6}, exit)}}, nil, []int{0, 1}},
		{api.Gen{Streams: []api.Stream{stream(4, []int{5, 9}, exit, exit), stream(7, []int{6}, exit)}}, []int{1}, []int{1, 0}},
		{api.Gen{Streams: []api.Stream{stream(4, []int{5, 9}, exit, exit), stream(7, []int{6}, exit)}}, []int{2, -8}, []int{1}},
		{api.Gen{Streams: []api.Stream{stream(math.MaxInt, []int{math.MinInt}, exit), stream(math.MinInt, []int{math.MaxInt}, exit)}}, nil, []int{0, 1}},
		{api.Gen{Streams: []api.Stream{stream(math.MaxInt, []int{3}, exit), stream(math.MinInt, []int{3}, exit)}}, nil, []int{1, 0}},
		{api.Gen{Streams: []api.Stream{stream(1, []int{5}, ev(0)), stream(2, []int{4}, ev(127))}}, nil, []int{1, 0}},
		{api.Gen{Streams: []api.Stream{stream(1, []int{5}, exit), stream(2, []int{4})}}, nil, nil},
		{api.Gen{Streams: []api.Stream{stream(1, []int{5}, exit), stream(2, nil, exit)}}, []int{0, 1}, nil},
	} {
		if got := merge.Heads(c.g, c.at); !slices.Equal(got, c.want) {
			t.Errorf("case %d: %v, want %v", i, got, c.want)
		}
	}
}

func TestHeadsOfAnyStreams(t *testing.T) {
	for n := range 3000 {
		d := sample.NewDice(n)
		var g api.Gen
		var at []int
		for range d.Roll(7) {
			s := api.Stream{M: d.Roll(4)}
			for range d.Roll(5) {
				s.Events = append(s.Events, ev([]int{8, 127, 128, 255, 256}[d.Roll(5)]))
				s.Times = append(s.Times, d.Roll(3))
			}
			if d.Roll(40) == 0 {
				s.Times = append(s.Times, 1)
			}
			g.Streams = append(g.Streams, s)
		}
		for range d.Roll(9) {
			at = append(at, d.Roll(7)-1)
		}
		if got := merge.Heads(g, at); !slices.Equal(got, heads(g, at)) {
			t.Fatalf("Heads(%+v, %v) = %v, want %v", g, at, got, heads(g, at))
		}
	}
}

func TestErrors(t *testing.T) {
	exit, wrong := ev(api.KExit), ev(api.KExit, 1)
	for i, c := range []struct {
		g    api.Gen
		m    int
		want api.Errno
	}{
		{api.Gen{Snap: two(), Streams: []api.Stream{stream(1, nil, exit)}}, 0, api.ErrStuck},
		{api.Gen{Snap: two(), Streams: []api.Stream{stream(1, []int{7}, wrong), stream(2, []int{7})}}, 0, api.ErrStuck},
		{api.Gen{Snap: two(), Streams: []api.Stream{stream(9, []int{7}, exit), stream(8, []int{7, 7}, exit, wrong), stream(1, []int{7}, wrong)}}, 8, api.ErrAuto},
		{api.Gen{Snap: two(), Streams: []api.Stream{stream(-3, []int{7}, ev(0))}}, -3, api.ErrAuto},
		{api.Gen{Snap: two(), Streams: []api.Stream{stream(1, []int{7}, ev(api.KBlock, 1, 0))}}, 1, api.ErrAuto},
		{api.Gen{Snap: two(), Streams: []api.Stream{stream(1, []int{7}, ev(api.KBlock, 0, 1))}}, 1, api.ErrAuto},
		{api.Gen{Snap: two(), Streams: []api.Stream{stream(2, []int{7}, exit)}}, 2, api.ErrStuck},
		{api.Gen{Snap: two(), Streams: []api.Stream{stream(1, []int{4}, exit)}}, 1, api.ErrStuck},
		{api.Gen{Snap: two(), Streams: []api.Stream{stream(3, []int{7}, exit), stream(2, []int{7}, exit)}}, 2, api.ErrStuck},
		{api.Gen{Snap: two(), Streams: []api.Stream{stream(3, []int{6}, exit), stream(2, []int{7}, exit)}}, 3, api.ErrStuck},
		{api.Gen{Snap: two(), Streams: []api.Stream{stream(1, []int{9, 9}, exit, exit), stream(2, []int{20}, exit)}}, 1, api.ErrStuck},
		{api.Gen{Snap: two(), Streams: []api.Stream{stream(0, []int{9}, exit)}}, 0, api.ErrStuck},
		{api.Gen{Snap: two(), Streams: []api.Stream{stream(1, []int{9, 8}, ev(api.KCreate, 2, 0), exit)}}, 1, api.ErrStuck},
		{api.Gen{Snap: api.Snap{Time: -1}, Streams: []api.Stream{stream(1, []int{9}, exit)}}, 1, api.ErrStuck},
	} {
		check(t, "case", c.g)
		if l, x, m, e := merge.Gen(c.g); len(l) != 0 || !sample.SameSnap(x, api.Snap{}) || m != c.m || e != c.want {
			t.Errorf("case %d: %+v, %+v, %d, %d, want %d, %d", i, l, x, m, e, c.m, c.want)
		}
	}
}

func TestGenWithoutHeads(t *testing.T) {
	for i, streams := range [][]api.Stream{nil, {}, {stream(1, nil)}, {stream(1, []int{5, 2}, ev(128), ev(255, 1)), stream(0, []int{-1}, ev(200))}} {
		l, x, m, e := merge.Gen(api.Gen{Snap: two(), Streams: streams})
		if len(l) != 0 || !sample.SameSnap(x, two()) || m != 0 || e != api.OK {
			t.Errorf("case %d: %+v, %+v, %d, %d", i, l, x, m, e)
		}
	}
}

func TestArgumentsStay(t *testing.T) {
	g, _, _ := logged(t, 4, 60)
	g.Snap = two()
	g.Streams = nil
	_, x, _, _ := merge.Gen(g)
	clear(g.Snap.Gs)
	clear(g.Snap.Ps)
	if !sample.SameSnap(x, two()) {
		t.Error("the answer shares memory with the argument")
	}
	whole, _, _ := logged(t, 5, 60)
	again, _, _ := logged(t, 5, 60)
	at := []int{-1, 3}
	l, _, _, _ := merge.Gen(whole)
	merge.Heads(whole, at)
	for i := range again.Streams {
		same := func(a, b api.Event) bool {
			return a.Kind == b.Kind && a.Dt == b.Dt && a.Text == b.Text && slices.Equal(a.Args, b.Args)
		}
		if !slices.EqualFunc(whole.Streams[i].Events, again.Streams[i].Events, same) || !slices.Equal(whole.Streams[i].Times, again.Streams[i].Times) {
			t.Error("an argument is changed")
		}
	}
	want, _, _, _ := merge.Gen(again)
	clear(whole.Table.Strings)
	for _, s := range whole.Table.Stacks {
		clear(s)
	}
	if !slices.Equal(at, []int{-1, 3}) || !sample.SameLogs(l, want) {
		t.Error("an argument is changed, or the log shares memory with it")
	}
}
