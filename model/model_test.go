package model_test

import (
	"math"
	"slices"
	"testing"

	"shuttlecock/api"
	"shuttlecock/model"
	"shuttlecock/sample"
)

func TestOf(t *testing.T) {
	for n := range 300 {
		s := sample.State(n)
		if x := model.Of(s); !sample.SameSnap(x, sample.Snap(s)) {
			t.Fatalf("sample %d: %+v, want %+v", n, x, sample.Snap(s))
		}
		if !sample.SameState(s, sample.State(n)) {
			t.Fatalf("sample %d: the argument is changed", n)
		}
	}
	for i, change := range []func(*api.State){
		func(s *api.State) { s.Clock = -1 },
		func(s *api.State) { s.Procs = 9 },
		func(s *api.State) { s.Gs = append(s.Gs, api.G{Status: 1}) },
		func(s *api.State) { s.Ps = s.Ps[:3] },
		func(s *api.State) { *s = api.State{} },
	} {
		s := sample.State(5)
		change(&s)
		if x := model.Of(s); !sample.SameSnap(x, api.Snap{}) {
			t.Errorf("change %d: %+v", i, x)
		}
	}
}

func p(m, seq int) api.PStat {
	return api.PStat{M: m, Seq: seq}
}

func g(n, status, m, seq int) api.GStat {
	return api.GStat{G: n, Status: status, M: m, Seq: seq}
}

// base has M 1 with P 1 and G 2, M 2 with P 3 alone, M 3 with G 5 in a system call, and others that have nothing.
func base() api.Snap {
	return api.Snap{
		Time: 10,
		Ps:   []api.PStat{p(1, 7), p(0, 4), p(2, 0), p(0, 0)},
		Gs:   []api.GStat{g(2, 2, 1, 3), g(4, 1, 0, 6), g(5, 4, 3, 8), g(9, 3, 0, 1), g(12, 1, 0, 0)},
	}
}

func wrongSnaps() []api.Snap {
	return []api.Snap{
		{Time: -1},
		{Time: api.Most},
		{Ps: []api.PStat{p(1, 0), p(1, 0)}},
		{Ps: []api.PStat{p(1, -1)}},
		{Gs: []api.GStat{g(1, 2, 1, 0)}},
		{Ps: []api.PStat{p(1, 0)}, Gs: []api.GStat{g(1, 4, 1, 0)}},
		{Ps: []api.PStat{p(1, 0)}, Gs: []api.GStat{g(2, 1, 0, 0), g(1, 1, 0, 0)}},
		{Ps: []api.PStat{p(1, 0)}, Gs: []api.GStat{g(1, 1, 1, 0)}},
		{Ps: make([]api.PStat, 65)},
	}
}

func TestHas(t *testing.T) {
	for _, c := range [][3]int{{1, 1, 2}, {2, 3, 0}, {3, 0, 5}, {4, 0, 0}, {0, 0, 0}, {-1, 0, 0}, {math.MinInt, 0, 0}, {math.MaxInt, 0, 0}} {
		if p, g := model.Has(base(), c[0]); p != c[1] || g != c[2] {
			t.Errorf("Has of M %d = %d, %d, want %d, %d", c[0], p, g, c[1], c[2])
		}
	}
	for i, x := range wrongSnaps() {
		for m := -1; m < 4; m++ {
			if p, g := model.Has(x, m); p != 0 || g != 0 {
				t.Errorf("wrong snapshot %d: Has of M %d = %d, %d", i, m, p, g)
			}
		}
	}
	for n := range 100 {
		s := sample.State(n)
		for i, m := range s.Ms {
			if p, g := model.Has(sample.Snap(s), i+1); p != m.P || g != m.G {
				t.Fatalf("sample %d: Has of M %d = %d, %d, want %v", n, i+1, p, g, m)
			}
		}
	}
}

// changed is base with some of its rows overwritten and the time set.
func changed(time int, ps map[int]api.PStat, gs ...api.GStat) api.Snap {
	x := base()
	x.Time = time
	for i, p := range ps {
		x.Ps[i-1] = p
	}
	for _, g := range gs {
		i := slices.IndexFunc(x.Gs, func(o api.GStat) bool { return o.G == g.G })
		x.Gs[i] = g
	}
	return x
}

func TestApplyOfEachKind(t *testing.T) {
	created := base()
	created.Gs = slices.Insert(created.Gs, 1, g(3, 1, 0, 0))
	last := base()
	last.Gs = append(last.Gs, g(api.Most-1, 1, 0, 0))
	first := base()
	first.Gs = slices.Insert(first.Gs, 0, g(1, 1, 0, 0))
	gone := base()
	gone.Gs = gone.Gs[1:]
	for i, c := range []struct {
		l    api.Log
		want api.Snap
	}{
		{api.Log{Time: 10, M: 7, Kind: 1, P: 2, Seq: 4}, changed(10, map[int]api.PStat{2: p(7, 5)})},
		{api.Log{Time: 99, M: 4, Kind: 1, P: 4}, changed(99, map[int]api.PStat{4: p(4, 1)})},
		{api.Log{Time: 10, M: api.Most - 1, Kind: 1, P: 4, G: 77}, changed(10, map[int]api.PStat{4: p(api.Most-1, 1)})},
		{api.Log{Time: 11, M: 2, Kind: 2, P: 3}, changed(11, map[int]api.PStat{3: p(0, 1)})},
		{api.Log{Time: 10, M: 1, Kind: 3, G: 3}, created},
		{api.Log{Time: 10, M: 1, Kind: 3, G: 1}, first},
		{api.Log{Time: 10, M: 1, Kind: 3, G: api.Most - 1}, last},
		{api.Log{Time: 12, M: 2, Kind: 4, G: 4, Seq: 6}, changed(12, nil, g(4, 2, 2, 7))},
		{api.Log{Time: 12, M: 2, Kind: 4, G: 12}, changed(12, nil, g(12, 2, 2, 1))},
		{api.Log{Time: 12, M: 1, Kind: 5, G: 2, Why: "yield"}, changed(12, nil, g(2, 1, 0, 4))},
		{api.Log{Time: 12, M: 1, Kind: 6, G: 2}, changed(12, nil, g(2, 3, 0, 4))},
		{api.Log{Time: 12, M: 1, Kind: 7, G: 9, Seq: 1}, changed(12, nil, g(9, 1, 0, 2))},
		{api.Log{Time: 12, M: 2, Kind: 7, G: 9, Seq: 1, P: 99}, changed(12, nil, g(9, 1, 0, 2))},
		{api.Log{Time: 10, M: 1, Kind: 8, G: 2}, gone},
		{api.Log{Time: 12, M: 1, Kind: 9, G: 2, P: 1}, changed(12, map[int]api.PStat{1: p(0, 8)}, g(2, 4, 1, 4))},
		{api.Log{Time: 12, M: 3, Kind: 10, G: 5}, changed(12, nil, g(5, 1, 0, 9))},
		{api.Log{Time: 12, M: 3, Kind: 10, G: 5, P: 2, Seq: 4}, changed(12, map[int]api.PStat{2: p(3, 5)}, g(5, 2, 3, 9))},
		{api.Log{Time: 12, M: 3, Kind: 10, G: 5, P: 4}, changed(12, map[int]api.PStat{4: p(3, 1)}, g(5, 2, 3, 9))},
		{api.Log{Time: api.Most - 1, M: 2, Kind: 2, P: 3}, changed(api.Most-1, map[int]api.PStat{3: p(0, 1)})},
	} {
		for _, why := range []string{"", "why"} {
			c.l.Why, c.l.Stack = why, []api.Frame{{Func: "", Line: -5}}
			if x, ok := model.Apply(base(), c.l); !sample.SameSnap(x, c.want) || !ok {
				t.Errorf("case %d: %+v, %v, want %+v", i, x, ok, c.want)
			}
		}
	}
}

func TestApplyOfWrongEntries(t *testing.T) {
	for i, l := range []api.Log{
		{Time: 10, M: 7, Kind: 0, P: 2, Seq: 4},
		{Time: 10, M: 7, Kind: 11, P: 2, Seq: 4},
		{Time: 10, M: 7, Kind: -1, P: 2, Seq: 4},
		{Time: 10, M: 7, Kind: 128},
		{Time: 9, M: 7, Kind: 1, P: 2, Seq: 4},
		{Time: -1, M: 7, Kind: 1, P: 2, Seq: 4},
		{Time: api.Most, M: 7, Kind: 1, P: 2, Seq: 4},
		{Time: math.MaxInt, M: 7, Kind: 1, P: 2, Seq: 4},
		{Time: 10, M: 0, Kind: 1, P: 2, Seq: 4},
		{Time: 10, M: 0, Kind: 2, P: 2},
		{Time: 10, M: 0, Kind: 3, G: 3},
		{Time: 10, M: 0, Kind: 5, G: 4},
		{Time: 10, M: 0, Kind: 6, G: 4},
		{Time: 10, M: 0, Kind: 7, G: 9, Seq: 1},
		{Time: 10, M: 0, Kind: 8, G: 4},
		{Time: 10, M: 0, Kind: 9, G: 4, P: 2},
		{Time: 10, M: 0, Kind: 10, G: 4},
		{Time: 10, M: -7, Kind: 1, P: 2, Seq: 4},
		{Time: 10, M: api.Most, Kind: 1, P: 2, Seq: 4},
		{Time: 10, M: math.MinInt, Kind: 1, P: 2, Seq: 4},
		{Time: 10, M: 7, Kind: 1, P: 0, Seq: 0},
		{Time: 10, M: 7, Kind: 1, P: 5, Seq: 0},
		{Time: 10, M: 7, Kind: 1, P: -1, Seq: 0},
		{Time: 10, M: 7, Kind: 1, P: math.MinInt, Seq: 0},
		{Time: 10, M: 7, Kind: 1, P: math.MaxInt, Seq: 0},
		{Time: 10, M: 7, Kind: 1, P: 2, Seq: 3},
		{Time: 10, M: 7, Kind: 1, P: 2, Seq: 5},
		{Time: 10, M: 7, Kind: 1, P: 1, Seq: 7},
		{Time: 10, M: 1, Kind: 1, P: 2, Seq: 4},
		{Time: 10, M: 2, Kind: 1, P: 2, Seq: 4},
		{Time: 10, M: 3, Kind: 1, P: 2, Seq: 4},
		{Time: 10, M: 2, Kind: 1, P: 3, Seq: 0},
		{Time: 10, M: 2, Kind: 2, P: 1},
		{Time: 10, M: 2, Kind: 2, P: 0},
		{Time: 10, M: 2, Kind: 2, P: 2},
		{Time: 10, M: 7, Kind: 2, P: 0},
		{Time: 10, M: 7, Kind: 2, P: 2},
		{Time: 10, M: 1, Kind: 2, P: 1},
		{Time: 10, M: 3, Kind: 2, P: 0},
		{Time: 10, M: 1, Kind: 3, G: 0},
		{Time: 10, M: 1, Kind: 3, G: -1},
		{Time: 10, M: 1, Kind: 3, G: 4},
		{Time: 10, M: 1, Kind: 3, G: 2},
		{Time: 10, M: 1, Kind: 3, G: api.Most},
		{Time: 10, M: 1, Kind: 3, G: math.MinInt},
		{Time: 10, M: 1, Kind: 3, G: math.MaxInt},
		{Time: 10, M: 2, Kind: 3, G: 3},
		{Time: 10, M: 3, Kind: 3, G: 3},
		{Time: 10, M: 7, Kind: 3, G: 3},
		{Time: 10, M: 2, Kind: 4, G: 4, Seq: 5},
		{Time: 10, M: 2, Kind: 4, G: 4, Seq: 7},
		{Time: 10, M: 2, Kind: 4, G: 9, Seq: 1},
		{Time: 10, M: 2, Kind: 4, G: 2, Seq: 3},
		{Time: 10, M: 2, Kind: 4, G: 5, Seq: 8},
		{Time: 10, M: 2, Kind: 4, G: 3, Seq: 0},
		{Time: 10, M: 2, Kind: 4, G: 0, Seq: 0},
		{Time: 10, M: 2, Kind: 4, G: 99, Seq: 0},
		{Time: 10, M: 1, Kind: 4, G: 4, Seq: 6},
		{Time: 10, M: 3, Kind: 4, G: 4, Seq: 6},
		{Time: 10, M: 7, Kind: 4, G: 4, Seq: 6},
		{Time: 10, M: 1, Kind: 5, G: 4},
		{Time: 10, M: 1, Kind: 5, G: 0},
		{Time: 10, M: 2, Kind: 5, G: 0},
		{Time: 10, M: 2, Kind: 5, G: 2},
		{Time: 10, M: 3, Kind: 5, G: 5},
		{Time: 10, M: 7, Kind: 5, G: 0},
		{Time: 10, M: 1, Kind: 6, G: 4},
		{Time: 10, M: 1, Kind: 6, G: 0},
		{Time: 10, M: 2, Kind: 6, G: 0},
		{Time: 10, M: 2, Kind: 6, G: 2},
		{Time: 10, M: 3, Kind: 6, G: 5},
		{Time: 10, M: 1, Kind: 7, G: 9, Seq: 0},
		{Time: 10, M: 1, Kind: 7, G: 9, Seq: 2},
		{Time: 10, M: 1, Kind: 7, G: 4, Seq: 6},
		{Time: 10, M: 1, Kind: 7, G: 2, Seq: 3},
		{Time: 10, M: 1, Kind: 7, G: 5, Seq: 8},
		{Time: 10, M: 1, Kind: 7, G: 0, Seq: 0},
		{Time: 10, M: 1, Kind: 7, G: 10, Seq: 0},
		{Time: 10, M: 3, Kind: 7, G: 9, Seq: 1},
		{Time: 10, M: 7, Kind: 7, G: 9, Seq: 1},
		{Time: 10, M: 1, Kind: 8, G: 4},
		{Time: 10, M: 1, Kind: 8, G: 0},
		{Time: 10, M: 2, Kind: 8, G: 0},
		{Time: 10, M: 2, Kind: 8, G: 2},
		{Time: 10, M: 3, Kind: 8, G: 5},
		{Time: 10, M: 1, Kind: 9, G: 2, P: 0},
		{Time: 10, M: 1, Kind: 9, G: 2, P: 2},
		{Time: 10, M: 1, Kind: 9, G: 0, P: 1},
		{Time: 10, M: 1, Kind: 9, G: 4, P: 1},
		{Time: 10, M: 2, Kind: 9, G: 0, P: 3},
		{Time: 10, M: 3, Kind: 9, G: 5, P: 0},
		{Time: 10, M: 3, Kind: 10, G: 5, P: 0, Seq: 1},
		{Time: 10, M: 3, Kind: 10, G: 5, P: 0, Seq: -1},
		{Time: 10, M: 3, Kind: 10, G: 5, P: 1, Seq: 7},
		{Time: 10, M: 3, Kind: 10, G: 5, P: 2, Seq: 3},
		{Time: 10, M: 3, Kind: 10, G: 5, P: 5, Seq: 0},
		{Time: 10, M: 3, Kind: 10, G: 5, P: -1, Seq: 0},
		{Time: 10, M: 3, Kind: 10, G: 5, P: math.MaxInt, Seq: 0},
		{Time: 10, M: 3, Kind: 10, G: 2, P: 0},
		{Time: 10, M: 3, Kind: 10, G: 0, P: 0},
		{Time: 10, M: 1, Kind: 10, G: 2, P: 0},
		{Time: 10, M: 1, Kind: 10, G: 2, P: 2, Seq: 4},
		{Time: 10, M: 7, Kind: 10, G: 0, P: 0},
		{Time: 10, M: 7, Kind: 10, G: 0, P: 2, Seq: 4},
		{Time: 10, M: 2, Kind: 10, G: 0, P: 0},
	} {
		if x, ok := model.Apply(base(), l); !sample.SameSnap(x, api.Snap{}) || ok {
			t.Errorf("case %d: %+v is possible: %+v", i, l, x)
		}
	}
}

func TestApplyToWrongSnapshots(t *testing.T) {
	for i, x := range wrongSnaps() {
		for k := range 12 {
			for _, l := range []api.Log{{Time: x.Time, M: 1, Kind: k, G: 1, P: 1}, {Time: 50, M: 2, Kind: k, P: 2}, {Time: api.Most, M: 1, Kind: k, G: 9}} {
				if y, ok := model.Apply(x, l); !sample.SameSnap(y, api.Snap{}) || ok {
					t.Errorf("wrong snapshot %d: %+v is possible", i, l)
				}
			}
		}
	}
}

func TestApplyWhereTheResultWouldBeWrong(t *testing.T) {
	full := api.Snap{Ps: []api.PStat{p(1, 0)}, Gs: []api.GStat{g(1, 2, 1, 0)}}
	for n := 2; n <= 999; n++ {
		full.Gs = append(full.Gs, g(n*2, 1, 0, 0))
	}
	x, ok := model.Apply(full, api.Log{M: 1, Kind: api.KCreate, G: 3})
	if !ok || len(x.Gs) != 1000 {
		t.Errorf("G 1000 of a snapshot: %v", ok)
	}
	if y, ok := model.Apply(x, api.Log{M: 1, Kind: api.KCreate, G: 5}); ok || len(y.Gs) != 0 {
		t.Error("G 1001 of a snapshot is possible")
	}
	const most = api.Most - 1
	late := api.Snap{Ps: []api.PStat{p(1, most), p(0, most), p(2, 0), p(0, 0)}, Gs: []api.GStat{g(1, 2, 1, most), g(2, 1, 0, most), g(3, 3, 0, most), g(4, 4, 3, most)}}
	for i, l := range []api.Log{
		{M: 4, Kind: api.KProcStart, P: 2, Seq: most},
		{M: 2, Kind: api.KStart, G: 2, Seq: most},
		{M: 1, Kind: api.KStop, G: 1},
		{M: 1, Kind: api.KBlock, G: 1},
		{M: 1, Kind: api.KUnblock, G: 3, Seq: most},
		{M: 1, Kind: api.KSysEnter, G: 1, P: 1},
		{M: 3, Kind: api.KSysExit, G: 4},
		{M: 3, Kind: api.KSysExit, G: 4, P: 4},
	} {
		if x, ok := model.Apply(late, l); ok || !sample.SameSnap(x, api.Snap{}) {
			t.Errorf("case %d: a seq past the greatest number is possible", i)
		}
	}
	if x, ok := model.Apply(late, api.Log{M: 1, Kind: api.KExit, G: 1}); !ok || len(x.Gs) != 3 {
		t.Error("a G of the greatest seq can't end")
	}
}

// applied is P17.2's table, for valid snapshots and numbers that stay in range.
func applied(x api.Snap, l api.Log) (api.Snap, bool) {
	x = api.Snap{Time: max(x.Time, l.Time), Ps: slices.Clone(x.Ps), Gs: slices.Clone(x.Gs)}
	var target, mg *api.GStat
	var has, named *api.PStat
	hasP := 0
	for i := range x.Ps {
		if x.Ps[i].M == l.M {
			has, hasP = &x.Ps[i], i+1
		}
		if i+1 == l.P {
			named = &x.Ps[i]
		}
	}
	for i := range x.Gs {
		if x.Gs[i].M == l.M {
			mg = &x.Gs[i]
		}
		if x.Gs[i].G == l.G {
			target = &x.Gs[i]
		}
	}
	free := named != nil && named.M == 0 && named.Seq == l.Seq
	mine := has != nil && mg != nil && mg.G == l.G
	g := func(o *api.GStat, status, m int) { o.Status, o.M, o.Seq = status, m, o.Seq+1 }
	p := func(o *api.PStat, m int) { o.M, o.Seq = m, o.Seq+1 }
	switch {
	case l.Kind == 1 && free && has == nil && mg == nil:
		p(named, l.M)
	case l.Kind == 2 && has != nil && hasP == l.P && mg == nil:
		p(has, 0)
	case l.Kind == 3 && has != nil && mg != nil && l.G > 0 && target == nil:
		x.Gs = append(x.Gs, api.GStat{G: l.G, Status: 1})
		slices.SortFunc(x.Gs, func(a, b api.GStat) int { return a.G - b.G })
	case l.Kind == 4 && has != nil && mg == nil && target != nil && target.Status == 1 && target.Seq == l.Seq:
		g(target, 2, l.M)
	case l.Kind == 5 && mine:
		g(mg, 1, 0)
	case l.Kind == 6 && mine:
		g(mg, 3, 0)
	case l.Kind == 7 && has != nil && target != nil && target.Status == 3 && target.Seq == l.Seq:
		g(target, 1, 0)
	case l.Kind == 8 && mine:
		x.Gs = slices.DeleteFunc(x.Gs, func(o api.GStat) bool { return o.G == l.G })
	case l.Kind == 9 && mine && hasP == l.P:
		g(mg, 4, l.M)
		p(has, 0)
	case l.Kind == 10 && has == nil && mg != nil && mg.G == l.G && l.P == 0 && l.Seq == 0:
		g(mg, 1, 0)
	case l.Kind == 10 && has == nil && mg != nil && mg.G == l.G && free:
		g(mg, 2, l.M)
		p(named, l.M)
	default:
		return api.Snap{}, false
	}
	return x, true
}

func TestApplyOfAnyEntries(t *testing.T) {
	var fine, wrong [12]int
	for n := range 400 {
		x := sample.Snap(sample.State(n))
		if len(x.Gs) > 100 {
			continue
		}
		d := sample.NewDice(n)
		for range 1500 {
			l := api.Log{Time: x.Time + d.Roll(3), M: 1 + d.Roll(20), Kind: d.Roll(12)}
			if len(x.Gs) > 0 && d.Roll(10) > 0 {
				g := x.Gs[d.Roll(len(x.Gs))]
				l.G, l.Seq = g.G, g.Seq
				if g.M != 0 && d.Roll(4) > 0 {
					l.M = g.M
				}
			} else {
				l.G = d.Roll(70)
			}
			if q := 1 + d.Roll(8); l.Kind == 1 || l.Kind == 2 || d.Roll(5) > 2 {
				l.P, l.Seq = q, x.Ps[q-1].Seq
			}
			if l.Kind == 9 {
				l.P = 1 + slices.IndexFunc(x.Ps, func(p api.PStat) bool { return p.M == l.M })
			}
			if l.Kind == 10 && d.Roll(2) == 0 {
				l.P, l.Seq = 0, 0
			}
			if d.Roll(20) == 0 {
				l.Seq++
			}
			want, wok := applied(x, l)
			if got, ok := model.Apply(x, l); !sample.SameSnap(got, want) || ok != wok {
				t.Fatalf("sample %d: Apply of %+v to %+v = %+v, %v, want %+v, %v", n, l, x, got, ok, want, wok)
			}
			if wok {
				fine[l.Kind]++
			} else {
				wrong[l.Kind]++
			}
		}
		if !sample.SameSnap(x, sample.Snap(sample.State(n))) {
			t.Fatalf("sample %d: the argument is changed", n)
		}
	}
	if slices.Min(fine[1:11]) < 100 || slices.Min(wrong[:]) < 200 {
		t.Errorf("possible %v, impossible %v", fine, wrong)
	}
}

func TestEveryTransitionOfTheSchedulerIsPossible(t *testing.T) {
	for n := range 150 {
		s := sample.State(n)
		x := model.Of(s)
		for i, item := range sample.Items(n, 200) {
			for _, l := range sample.Do(&s, item) {
				next, ok := model.Apply(x, l)
				if !ok {
					t.Fatalf("sample %d, item %d: %+v is not possible in %+v", n, i, l, x)
				}
				x = next
			}
			if want := sample.Snap(s); !slices.Equal(x.Ps, want.Ps) || !slices.Equal(x.Gs, want.Gs) {
				t.Fatalf("sample %d, item %d: %+v, want %+v", n, i, x, want)
			}
		}
	}
}

func TestAnswersAreNewMemory(t *testing.T) {
	s := sample.State(3)
	x := model.Of(s)
	clear(s.Gs)
	clear(s.Ps)
	if !sample.SameSnap(x, sample.Snap(sample.State(3))) {
		t.Error("a snapshot shares memory with the state")
	}
	for _, l := range []api.Log{{Time: 10, M: 1, Kind: 3, G: 3}, {Time: 10, M: 1, Kind: 5, G: 2}, {Time: 10, M: 1, Kind: 8, G: 2}} {
		old := base()
		old.Gs = append(make([]api.GStat, 0, 20), old.Gs...)
		y, _ := model.Apply(old, l)
		keep := api.Snap{Time: y.Time, Ps: slices.Clone(y.Ps), Gs: slices.Clone(y.Gs)}
		if !sample.SameSnap(old, base()) || old.Gs[:6][5] != (api.GStat{}) {
			t.Error("an argument is changed")
		}
		clear(old.Gs)
		clear(old.Ps)
		if !sample.SameSnap(y, keep) {
			t.Error("an answer shares memory with the argument")
		}
	}
}
