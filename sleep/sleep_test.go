package sleep_test

import (
	"math"
	"math/rand"
	"slices"
	"testing"

	"shuttlecock/api"
	"shuttlecock/sleep"
)

func at(at, g int) api.Timer {
	return api.Timer{At: at, G: g}
}

func list(l ...api.Timer) []api.Timer {
	return l
}

const most = api.Most - 1

func good() [][]api.Timer {
	return [][]api.Timer{
		nil,
		{},
		list(at(0, 1)),
		list(at(most, math.MaxInt)),
		list(at(3, 2), at(5, 1)),
		list(at(3, 1), at(3, 2), at(3, 9), at(4, 3)),
		list(at(0, 7), at(0, 8), at(1, 6), at(most, 5)),
	}
}

func wrong() [][]api.Timer {
	return [][]api.Timer{
		list(at(-1, 1)),
		list(at(math.MinInt, 1)),
		list(at(api.Most, 1)),
		list(at(math.MaxInt, 1)),
		list(at(0, 0)),
		list(at(0, -1)),
		list(at(0, math.MinInt)),
		list(at(5, 1), at(3, 2)),
		list(at(3, 2), at(3, 1)),
		list(at(3, 1), at(3, 1)),
		list(at(3, 1), at(4, 1)),
		list(at(3, 1), at(4, 2), at(5, 1)),
		list(at(3, 1), at(4, 2), at(4, 2)),
		list(at(3, 1), at(5, 2), at(4, 3)),
		list(at(3, 1), at(5, 2), at(api.Most, 3)),
		list(at(3, 0), at(5, 2)),
		list(at(-1, 1), at(5, 2)),
		list(at(1, 1), at(5, -2)),
	}
}

func TestMay(t *testing.T) {
	for _, l := range good() {
		if !sleep.May(l) {
			t.Errorf("%v may not be", l)
		}
	}
	for _, l := range wrong() {
		if sleep.May(l) {
			t.Errorf("%v may be", l)
		}
	}
}

func TestWrongLists(t *testing.T) {
	for _, l := range wrong() {
		for _, x := range list(at(0, 50), at(4, 50), at(100, 50), at(3, 1), at(-1, 50), at(most, 60)) {
			if out, ok := sleep.Put(l, x); len(out) != 0 || ok {
				t.Errorf("Put(%v, %v) = %v, %v", l, x, out, ok)
			}
		}
		for _, now := range []int{math.MinInt, -1, 0, 4, most, math.MaxInt} {
			if gs, rest := sleep.Due(l, now); len(gs) != 0 || len(rest) != 0 {
				t.Errorf("Due(%v, %d) = %v, %v", l, now, gs, rest)
			}
		}
		if n := sleep.Next(l); n != -1 {
			t.Errorf("Next(%v) = %d", l, n)
		}
	}
}

func TestPut(t *testing.T) {
	some := list(at(3, 4), at(3, 6), at(7, 2))
	for _, c := range []struct {
		l    []api.Timer
		x    api.Timer
		want []api.Timer
	}{
		{nil, at(0, 1), list(at(0, 1))},
		{nil, at(most, math.MaxInt), list(at(most, math.MaxInt))},
		{list(at(5, 1)), at(3, 2), list(at(3, 2), at(5, 1))},
		{some, at(0, 9), list(at(0, 9), at(3, 4), at(3, 6), at(7, 2))},
		{some, at(3, 3), list(at(3, 3), at(3, 4), at(3, 6), at(7, 2))},
		{some, at(3, 5), list(at(3, 4), at(3, 5), at(3, 6), at(7, 2))},
		{some, at(3, 7), list(at(3, 4), at(3, 6), at(3, 7), at(7, 2))},
		{some, at(4, 1), list(at(3, 4), at(3, 6), at(4, 1), at(7, 2))},
		{some, at(7, 1), list(at(3, 4), at(3, 6), at(7, 1), at(7, 2))},
		{some, at(7, 3), list(at(3, 4), at(3, 6), at(7, 2), at(7, 3))},
		{some, at(most, 3), list(at(3, 4), at(3, 6), at(7, 2), at(most, 3))},
		{some, at(3, 4), nil},
		{some, at(2, 4), nil},
		{some, at(8, 4), nil},
		{some, at(3, 2), nil},
		{some, at(9, 2), nil},
		{some, at(-1, 9), nil},
		{some, at(math.MinInt, 9), nil},
		{some, at(api.Most, 9), nil},
		{some, at(math.MaxInt, 9), nil},
		{some, at(5, 0), nil},
		{some, at(5, -1), nil},
		{nil, at(5, 0), nil},
		{nil, at(api.Most, 1), nil},
	} {
		out, ok := sleep.Put(c.l, c.x)
		if !slices.Equal(out, c.want) || ok != (c.want != nil) {
			t.Errorf("Put(%v, %v) = %v, %v, want %v", c.l, c.x, out, ok, c.want)
		}
	}
}

func TestDue(t *testing.T) {
	some := list(at(0, 9), at(3, 4), at(3, 6), at(7, 2), at(most, 1))
	for _, c := range []struct {
		now  int
		want []int
	}{
		{math.MinInt, nil},
		{-1, nil},
		{0, []int{9}},
		{2, []int{9}},
		{3, []int{9, 4, 6}},
		{6, []int{9, 4, 6}},
		{7, []int{9, 4, 6, 2}},
		{most - 1, []int{9, 4, 6, 2}},
		{most, []int{9, 4, 6, 2, 1}},
		{math.MaxInt, []int{9, 4, 6, 2, 1}},
	} {
		gs, rest := sleep.Due(some, c.now)
		if !slices.Equal(gs, c.want) || !slices.Equal(rest, some[len(c.want):]) {
			t.Errorf("Due at %d = %v, %v", c.now, gs, rest)
		}
	}
	if gs, rest := sleep.Due(nil, 5); len(gs) != 0 || len(rest) != 0 {
		t.Errorf("Due of no timers = %v, %v", gs, rest)
	}
}

func TestNext(t *testing.T) {
	for _, l := range good() {
		want := -1
		if len(l) > 0 {
			want = l[0].At
		}
		if n := sleep.Next(l); n != want {
			t.Errorf("Next(%v) = %d, want %d", l, n, want)
		}
	}
}

func TestTheOrderOfInsertionDoesNotMatter(t *testing.T) {
	r := rand.New(rand.NewSource(17))
	for range 300 {
		var all []api.Timer
		for g := range r.Intn(30) {
			all = append(all, at(r.Intn(10), g+1))
		}
		want := slices.Clone(all)
		slices.SortFunc(want, func(a, b api.Timer) int {
			if a.At != b.At {
				return a.At - b.At
			}
			return a.G - b.G
		})
		for range 3 {
			r.Shuffle(len(all), func(i, j int) { all[i], all[j] = all[j], all[i] })
			l, ok := []api.Timer(nil), true
			for _, x := range all {
				if l, ok = sleep.Put(l, x); !ok || !sleep.May(l) {
					t.Fatalf("Put of %v: %v, %v", x, l, ok)
				}
			}
			if !slices.Equal(l, want) {
				t.Fatalf("%v, want %v", l, want)
			}
			due, last := 0, -1
			for now := range 11 {
				if n := sleep.Next(l); n >= 0 && n < now {
					t.Fatalf("Next = %d at %d", n, now)
				}
				gs, rest := sleep.Due(l, now)
				for _, g := range gs {
					x := want[due]
					if x.G != g || x.At != now || x.At < last {
						t.Fatalf("G %d is due at %d, want %v", g, now, x)
					}
					due, last = due+1, x.At
				}
				l = rest
			}
			if due != len(want) || len(l) != 0 {
				t.Fatalf("%d of %d were due", due, len(want))
			}
		}
	}
}

func TestAnswersAreNewMemory(t *testing.T) {
	l := append(make([]api.Timer, 0, 10), at(3, 4), at(5, 6), at(7, 8))
	out, _ := sleep.Put(l, at(5, 1))
	more, _ := sleep.Put(l, at(9, 1))
	_, rest := sleep.Due(l, 3)
	if !slices.Equal(l, list(at(3, 4), at(5, 6), at(7, 8))) || l[:4][3] != (api.Timer{}) {
		t.Error("an argument is changed")
	}
	for i := range l {
		l[i] = at(99, 99)
	}
	if !slices.Equal(out, list(at(3, 4), at(5, 1), at(5, 6), at(7, 8))) || !slices.Equal(more, list(at(3, 4), at(5, 6), at(7, 8), at(9, 1))) || !slices.Equal(rest, list(at(5, 6), at(7, 8))) {
		t.Error("an answer shares memory with an argument")
	}
}
