package auto_test

import (
	"math"
	"slices"
	"testing"

	"shuttlecock/api"
	"shuttlecock/auto"
	"shuttlecock/model"
	"shuttlecock/sample"
	"shuttlecock/tracer"
)

func ev(kind int, args ...int) api.Event {
	return api.Event{Kind: kind, Args: args}
}

func some() api.Table {
	return api.Table{Strings: []string{"f0", "yield", "f1"}, Stacks: [][][2]int{{{1, 5}}, {{3, 0}, {1, 300}}}}
}

func wrongTables() []api.Table {
	return []api.Table{
		{Strings: []string{"a", "a"}, Stacks: [][][2]int{{{1, 1}}}},
		{Strings: []string{"a"}, Stacks: [][][2]int{{}}},
		{Strings: []string{""}, Stacks: [][][2]int{{{1, 1}}}},
		{Strings: []string{"a"}, Stacks: [][][2]int{{{2, 1}}}},
	}
}

// base has M 1 with P 2 and G 5, M 2 with P 1 alone, and M 3 with G 7 in a system call.
func base() api.Snap {
	return api.Snap{
		Time: 10,
		Ps:   []api.PStat{{M: 2, Seq: 4}, {M: 1, Seq: 6}, {Seq: 8}},
		Gs:   []api.GStat{{G: 3, Status: 1, Seq: 2}, {G: 5, Status: 2, M: 1, Seq: 3}, {G: 7, Status: 4, M: 3, Seq: 1}, {G: 8, Status: 3, Seq: 9}},
	}
}

func TestNamed(t *testing.T) {
	for i, c := range []struct {
		e    api.Event
		want bool
	}{
		{ev(0), false},
		{ev(11), false},
		{ev(-1), false},
		{ev(127), false},
		{ev(256), false},
		{ev(math.MaxInt), false},
		{ev(128), true},
		{ev(255), true},
		{ev(200, 1, 2, 3), true},
		{api.Event{Kind: 200, Dt: -1, Text: "x"}, true},
		{ev(1, 0, 0), true},
		{ev(1, -5, api.Most), true},
		{ev(1, 0), false},
		{ev(1, 0, 0, 0), false},
		{ev(1), false},
		{ev(2), true},
		{ev(2, 0), false},
		{ev(3, 9, 0), true},
		{ev(3, 99, 2), true},
		{ev(3, 9, 3), false},
		{ev(3, 9, -1), false},
		{ev(3, 9), false},
		{ev(4, 99, 99), true},
		{ev(4, 99), false},
		{ev(5, 0, 0), true},
		{ev(5, 3, 2), true},
		{ev(5, 4, 2), false},
		{ev(5, 3, 3), false},
		{ev(5, -1, 0), false},
		{ev(5, 0, math.MaxInt), false},
		{ev(5, math.MinInt, 0), false},
		{ev(6, 3, 2), true},
		{ev(6, 4, 2), false},
		{ev(6, 3, 3), false},
		{ev(6, 3), false},
		{ev(7, 99, 99, 2), true},
		{ev(7, 99, 99, 3), false},
		{ev(7, 99, 99), false},
		{ev(8), true},
		{ev(8, 1), false},
		{ev(9, 2), true},
		{ev(9, 3), false},
		{ev(9), false},
		{ev(10, 99, 99), true},
		{ev(10, 99), false},
		{api.Event{Kind: 8, Dt: -5, Text: "odd"}, true},
	} {
		if got := auto.Named(some(), c.e); got != c.want {
			t.Errorf("case %d: Named(%+v) = %v", i, c.e, got)
		}
	}
}

func TestNamedByWrongTables(t *testing.T) {
	for i, x := range wrongTables() {
		for _, e := range []api.Event{ev(3, 1, 0), ev(3, 1, 1), ev(5, 0, 0), ev(5, 1, 1), ev(6, 0, 0), ev(7, 1, 1, 0), ev(7, 1, 1, 1), ev(9, 0), ev(9, 1)} {
			if auto.Named(x, e) {
				t.Errorf("table %d: %+v is named", i, e)
			}
			if l, ok := auto.Resolve(x, base(), 1, 20, e); ok || !sample.SameLog(l, api.Log{}) {
				t.Errorf("table %d: %+v is resolved", i, e)
			}
		}
		for _, e := range []api.Event{ev(1, 1, 1), ev(2), ev(4, 1, 1), ev(8), ev(10, 1, 1), ev(200)} {
			if !auto.Named(x, e) {
				t.Errorf("table %d: %+v is not named", i, e)
			}
		}
	}
}

func TestResolve(t *testing.T) {
	one := []api.Frame{{Func: "f0", Line: 5}}
	two := []api.Frame{{Func: "f1", Line: 0}, {Func: "f0", Line: 300}}
	for i, c := range []struct {
		m    int
		e    api.Event
		want api.Log
	}{
		{1, ev(1, 3, 4), api.Log{P: 3, Seq: 4}},
		{1, ev(2), api.Log{P: 2}},
		{2, ev(2), api.Log{P: 1}},
		{3, ev(2), api.Log{}},
		{1, ev(3, 9, 1), api.Log{G: 9, Stack: one}},
		{1, ev(3, 9, 0), api.Log{G: 9}},
		{2, ev(4, 3, 2), api.Log{G: 3, Seq: 2}},
		{1, ev(5, 2, 2), api.Log{G: 5, Why: "yield", Stack: two}},
		{1, ev(5, 0, 0), api.Log{G: 5}},
		{2, ev(5, 1, 1), api.Log{Why: "f0", Stack: one}},
		{1, ev(6, 2, 1), api.Log{G: 5, Why: "yield", Stack: one}},
		{3, ev(6, 2, 1), api.Log{G: 7, Why: "yield", Stack: one}},
		{1, ev(7, 8, 9, 2), api.Log{G: 8, Seq: 9, Stack: two}},
		{2, ev(7, 8, 9, 0), api.Log{G: 8, Seq: 9}},
		{1, ev(8), api.Log{G: 5}},
		{2, ev(8), api.Log{}},
		{1, ev(9, 1), api.Log{G: 5, P: 2, Stack: one}},
		{2, ev(9, 0), api.Log{P: 1}},
		{3, ev(9, 0), api.Log{G: 7}},
		{9, ev(9, 1), api.Log{Stack: one}},
		{3, ev(10, 0, 0), api.Log{G: 7}},
		{3, ev(10, 3, 8), api.Log{G: 7, P: 3, Seq: 8}},
		{1, ev(10, 3, 8), api.Log{G: 5, P: 3, Seq: 8}},
		{0, ev(8), api.Log{}},
		{-1, ev(2), api.Log{}},
		{math.MinInt, ev(9, 0), api.Log{}},
		{1, api.Event{Kind: 8, Dt: 77, Text: "odd"}, api.Log{G: 5}},
	} {
		for _, time := range []int{0, 20, -3, math.MaxInt} {
			c.want.Time, c.want.M, c.want.Kind = time, c.m, c.e.Kind
			if l, ok := auto.Resolve(some(), base(), c.m, time, c.e); !sample.SameLog(l, c.want) || !ok {
				t.Errorf("case %d: %+v, %v, want %+v", i, l, ok, c.want)
			}
		}
	}
	for i, e := range []api.Event{ev(0), ev(11), ev(128), ev(200), ev(255), {Kind: 200, Text: "x"}, ev(3, 9, 3), ev(5, 4, 0), ev(5, 0, 3), ev(2, 1), ev(9), ev(7, 1, 1)} {
		if l, ok := auto.Resolve(some(), base(), 1, 20, e); !sample.SameLog(l, api.Log{}) || ok {
			t.Errorf("wrong case %d: %+v, %v", i, l, ok)
		}
	}
	wrong := base()
	wrong.Ps[2].M = 1
	if l, ok := auto.Resolve(some(), wrong, 1, 20, ev(9, 1)); !sample.SameLog(l, api.Log{Time: 20, M: 1, Kind: 9, Stack: one}) || !ok {
		t.Errorf("a wrong snapshot: %+v, %v", l, ok)
	}
}

func TestStep(t *testing.T) {
	fine := 0
	for k := -1; k < 12; k++ {
		for m := -1; m < 6; m++ {
			for _, args := range [][]int{nil, {0}, {1}, {0, 0}, {3, 2}, {3, 8}, {9, 1}, {2, 1}, {8, 9, 1}, {8, 9, 3}, {5, 3, 0}} {
				for _, time := range []int{9, 10, 300, api.Most} {
					e := ev(k, args...)
					x, l, ok := auto.Step(some(), base(), m, time, e)
					wl, wok := auto.Resolve(some(), base(), m, time, e)
					var wx api.Snap
					if wok {
						wx, wok = model.Apply(base(), wl)
					}
					if !wok {
						wx, wl = api.Snap{}, api.Log{}
					}
					if !sample.SameSnap(x, wx) || !sample.SameLog(l, wl) || ok != wok {
						t.Fatalf("Step of %+v by M %d at %d = %+v, %+v, %v, want %+v, %+v, %v", e, m, time, x, l, ok, wx, wl, wok)
					}
					if ok {
						fine++
					}
				}
			}
		}
	}
	if fine < 20 {
		t.Errorf("only %d possible events", fine)
	}
}

func TestStepByHand(t *testing.T) {
	x, l, ok := auto.Step(some(), base(), 1, 12, ev(8))
	want := base()
	want.Time, want.Gs = 12, slices.Delete(want.Gs, 1, 2)
	if !sample.SameSnap(x, want) || !sample.SameLog(l, api.Log{Time: 12, M: 1, Kind: 8, G: 5}) || !ok {
		t.Errorf("%+v, %+v, %v", x, l, ok)
	}
	for i, e := range []api.Event{ev(200), ev(4, 3, 2), ev(5, 9, 0), ev(0), ev(2)} {
		if x, l, ok := auto.Step(some(), base(), 1, 12, e); ok || !sample.SameSnap(x, api.Snap{}) || !sample.SameLog(l, api.Log{}) {
			t.Errorf("wrong case %d: %+v, %+v, %v", i, x, l, ok)
		}
	}
	if _, _, ok := auto.Step(some(), base(), 1, 9, ev(8)); ok {
		t.Error("an event earlier than its snapshot is possible")
	}
	wrong := base()
	wrong.Time = -1
	if _, _, ok := auto.Step(some(), wrong, 1, 12, ev(8)); ok {
		t.Error("an event of a wrong snapshot is possible")
	}
}

func TestWhatASchedulerLoggedIsResolved(t *testing.T) {
	for n := range 80 {
		s := sample.State(n)
		x := model.Of(s)
		table := api.Table{}
		for i, item := range sample.Items(n, 150) {
			for _, want := range sample.Do(&s, item) {
				next, e, ok := tracer.Event(table, want)
				if !ok {
					t.Fatalf("script %d: no event of %+v", n, want)
				}
				table = next
				y, l, ok := auto.Step(table, x, want.M, want.Time, e)
				if !sample.SameLog(l, want) || !ok {
					t.Fatalf("script %d, item %d: %+v, %v, want %+v", n, i, l, ok, want)
				}
				x = y
			}
		}
	}
}

func TestArgumentsStay(t *testing.T) {
	x, table := base(), some()
	e := ev(5, 2, 2)
	l, _ := auto.Resolve(table, x, 1, 20, e)
	auto.Step(table, x, 1, 20, e)
	clear(table.Stacks[1])
	if !sample.SameSnap(x, base()) || !slices.Equal(e.Args, []int{2, 2}) || l.Stack[0] != (api.Frame{Func: "f1"}) {
		t.Error("an argument is changed, or an answer shares memory with one")
	}
}
