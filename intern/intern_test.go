package intern_test

import (
	"math"
	"math/rand"
	"slices"
	"strconv"
	"strings"
	"testing"

	"shuttlecock/api"
	"shuttlecock/intern"
	"shuttlecock/sample"
)

func empty(t api.Table) bool {
	return len(t.Strings) == 0 && len(t.Stacks) == 0
}

func clone(t api.Table) api.Table {
	out := api.Table{Strings: slices.Clone(t.Strings)}
	for _, l := range t.Stacks {
		out.Stacks = append(out.Stacks, slices.Clone(l))
	}
	return out
}

func long(n int) string {
	return strings.Repeat("x", n)
}

// texts is n different strings.
func texts(n int) []string {
	var out []string
	for i := range n {
		out = append(out, "s"+strconv.Itoa(i))
	}
	return out
}

// stacks is n different stacks of the first string.
func stacks(n int) [][][2]int {
	var out [][][2]int
	for i := range n {
		out = append(out, [][2]int{{1, i}})
	}
	return out
}

func frames(n, line int) [][2]int {
	out := make([][2]int, n)
	for i := range out {
		out[i] = [2]int{1, line}
	}
	return out
}

func some() api.Table {
	return api.Table{
		Strings: []string{"main", "work", "yield"},
		Stacks:  [][][2]int{{{1, 5}}, {{2, 0}, {1, 5}}, {{1, 5}, {1, 5}}, {{3, api.Most - 1}}},
	}
}

func good() []api.Table {
	return []api.Table{
		{},
		{Strings: []string{}, Stacks: [][][2]int{}},
		{Strings: []string{"a"}},
		{Strings: []string{"a", "b", "A", "\x00", "aa"}},
		{Strings: []string{long(1000), long(999)}},
		some(),
		{Strings: []string{"a"}, Stacks: [][][2]int{{{1, 0}}, {{1, 1}}, {{1, 0}, {1, 0}}, frames(100, 7), frames(99, 7)}},
		{Strings: []string{"a", "b"}, Stacks: [][][2]int{{{1, 2}, {2, 1}}, {{2, 1}, {1, 2}}, {{1, 1}, {2, 2}}}},
		{Strings: []string{"a", "b"}, Stacks: [][][2]int{{{1, 2}, {1, 3}}, {{1, 2}, {1, 4}}, {{1, 2}, {2, 3}}, {{2, 2}, {1, 3}}, {{1, 1}, {1, 3}}, {{1, 2}, {1, 3}, {1, 5}}, {{1, 2}, {1, 3}, {1, 6}}}},
		{Strings: texts(300), Stacks: [][][2]int{{{1, 300}}, {{300, 1}}, {{1, 3}, {2, 1}}, {{1, 3}}}},
		{Strings: texts(10000)},
		{Strings: []string{"a"}, Stacks: stacks(10000)},
	}
}

func wrong() []api.Table {
	return []api.Table{
		{Strings: []string{""}},
		{Strings: []string{"a", ""}},
		{Strings: []string{long(1001)}},
		{Strings: []string{"a", "a"}},
		{Strings: []string{"a", "b", "c", "a"}},
		{Strings: texts(10001)},
		{Strings: []string{"a"}, Stacks: stacks(10001)},
		{Strings: []string{"a"}, Stacks: [][][2]int{{}}},
		{Strings: []string{"a"}, Stacks: [][][2]int{{{1, 1}}, nil}},
		{Strings: []string{"a"}, Stacks: [][][2]int{frames(101, 3)}},
		{Strings: []string{"a"}, Stacks: [][][2]int{{{1, 1}}, {{1, 1}}}},
		{Strings: []string{"a"}, Stacks: [][][2]int{{{1, 1}, {1, 2}}, {{1, 3}}, {{1, 1}, {1, 2}}}},
		{Strings: []string{"a"}, Stacks: [][][2]int{{{0, 1}}}},
		{Strings: []string{"a"}, Stacks: [][][2]int{{{2, 1}}}},
		{Strings: []string{"a"}, Stacks: [][][2]int{{{-1, 1}}}},
		{Strings: []string{"a"}, Stacks: [][][2]int{{{math.MinInt, 1}}}},
		{Strings: []string{"a"}, Stacks: [][][2]int{{{math.MaxInt, 1}}}},
		{Strings: []string{"a"}, Stacks: [][][2]int{{{1, -1}}}},
		{Strings: []string{"a"}, Stacks: [][][2]int{{{1, api.Most}}}},
		{Strings: []string{"a"}, Stacks: [][][2]int{{{1, 1}, {1, math.MinInt}}}},
		{Strings: []string{"a"}, Stacks: [][][2]int{{{1, 1}, {2, 1}}}},
		{Stacks: [][][2]int{{{1, 1}}}},
	}
}

func TestMay(t *testing.T) {
	for i, x := range good() {
		if !intern.May(x) {
			t.Errorf("good table %d may not be", i)
		}
	}
	for i, x := range wrong() {
		if intern.May(x) {
			t.Errorf("wrong table %d may be", i)
		}
	}
}

func TestName(t *testing.T) {
	for i, x := range good() {
		for _, id := range []int{math.MinInt, -1, len(x.Strings) + 1, len(x.Strings) + 2, math.MaxInt} {
			if s, ok := intern.Name(x, id); s != "" || ok {
				t.Errorf("table %d: Name(%d) = %q, %v", i, id, s, ok)
			}
		}
		if s, ok := intern.Name(x, 0); s != "" || !ok {
			t.Errorf("table %d: Name(0) = %q, %v", i, s, ok)
		}
		for id := 1; id <= len(x.Strings); id += 1 + len(x.Strings)/20 {
			if s, ok := intern.Name(x, id); s != x.Strings[id-1] || !ok {
				t.Errorf("table %d: Name(%d) = %q, %v", i, id, s, ok)
			}
		}
	}
	for i, x := range wrong() {
		for id := -1; id < 4; id++ {
			if s, ok := intern.Name(x, id); s != "" || ok {
				t.Errorf("wrong table %d: Name(%d) = %q, %v", i, id, s, ok)
			}
		}
	}
}

func TestFrames(t *testing.T) {
	for i, x := range good() {
		for _, id := range []int{math.MinInt, -1, len(x.Stacks) + 1, len(x.Stacks) + 2, math.MaxInt} {
			if l, ok := intern.Frames(x, id); len(l) != 0 || ok {
				t.Errorf("table %d: Frames(%d) = %v, %v", i, id, l, ok)
			}
		}
		if l, ok := intern.Frames(x, 0); len(l) != 0 || !ok {
			t.Errorf("table %d: Frames(0) = %v, %v", i, l, ok)
		}
		for id := 1; id <= len(x.Stacks); id += 1 + len(x.Stacks)/20 {
			var want []api.Frame
			for _, f := range x.Stacks[id-1] {
				want = append(want, api.Frame{Func: x.Strings[f[0]-1], Line: f[1]})
			}
			if l, ok := intern.Frames(x, id); !slices.Equal(l, want) || !ok {
				t.Errorf("table %d: Frames(%d) = %v, %v, want %v", i, id, l, ok, want)
			}
		}
	}
	for i, x := range wrong() {
		for id := -1; id < 4; id++ {
			if l, ok := intern.Frames(x, id); len(l) != 0 || ok {
				t.Errorf("wrong table %d: Frames(%d) = %v, %v", i, id, l, ok)
			}
		}
	}
}

func TestString(t *testing.T) {
	x, ids := api.Table{}, []int(nil)
	for _, s := range []string{"a", "b", "a", "", "c", "b", long(1000), "", long(999)} {
		id := 0
		x, id = intern.String(x, s)
		ids = append(ids, id)
	}
	if !slices.Equal(ids, []int{1, 2, 1, 0, 3, 2, 4, 0, 5}) {
		t.Errorf("numbers: %v", ids)
	}
	if !sample.SameTable(x, api.Table{Strings: []string{"a", "b", "c", long(1000), long(999)}}) {
		t.Errorf("table: %v", x)
	}
	for i, x := range good() {
		if y, id := intern.String(x, ""); !sample.SameTable(x, y) || id != 0 {
			t.Errorf("table %d: the empty string is %d", i, id)
		}
		for id := 1; id <= len(x.Strings); id += 1 + len(x.Strings)/5 {
			if y, got := intern.String(x, x.Strings[id-1]); !sample.SameTable(x, y) || got != id {
				t.Errorf("table %d: string %d is %d", i, id, got)
			}
		}
		if y, id := intern.String(x, long(1001)); !empty(y) || id != 0 {
			t.Errorf("table %d: a string of 1001 bytes is %d", i, id)
		}
		y, id := intern.String(x, "new")
		want := clone(x)
		want.Strings = append(want.Strings, "new")
		if len(x.Strings) == 10000 {
			if !empty(y) || id != 0 {
				t.Errorf("table %d: string 10001 is %d", i, id)
			}
		} else if !sample.SameTable(y, want) || id != len(want.Strings) {
			t.Errorf("table %d: a new string is %d", i, id)
		}
	}
	for i, x := range wrong() {
		for _, s := range []string{"", "a", "new"} {
			if y, id := intern.String(x, s); !empty(y) || id != 0 {
				t.Errorf("wrong table %d: %q is %d", i, s, id)
			}
		}
	}
}

func TestStringUpToTheLimit(t *testing.T) {
	x, id := intern.String(api.Table{Strings: texts(9999)}, "last")
	if id != 10000 || len(x.Strings) != 10000 {
		t.Errorf("string 10000 is %d", id)
	}
	if y, id := intern.String(x, "more"); !empty(y) || id != 0 {
		t.Errorf("string 10001 is %d", id)
	}
	if y, id := intern.String(x, "last"); !sample.SameTable(x, y) || id != 10000 {
		t.Errorf("string 10000 is %d again", id)
	}
}

func at(name string, line int) api.Frame {
	return api.Frame{Func: name, Line: line}
}

func TestStack(t *testing.T) {
	many := slices.Repeat([]api.Frame{at("m", 1)}, 100)
	x := api.Table{Strings: []string{"z"}}
	for i, c := range []struct {
		l    []api.Frame
		want int
	}{
		{[]api.Frame{at("a", 1)}, 1},
		{[]api.Frame{at("a", 2)}, 2},
		{[]api.Frame{at("a", 1)}, 1},
		{nil, 0},
		{[]api.Frame{at("b", 1), at("c", 0), at("b", 7), at("a", 1)}, 3},
		{[]api.Frame{at("a", 1), at("b", 7), at("c", 0), at("b", 1)}, 4},
		{[]api.Frame{at("b", 1), at("c", 0), at("b", 7), at("a", 1)}, 3},
		{[]api.Frame{}, 0},
		{[]api.Frame{at("z", api.Most-1)}, 5},
		{[]api.Frame{at("a", 1), at("a", 1)}, 6},
		{many, 7},
		{many[1:], 8},
		{many, 7},
	} {
		id := 0
		if x, id = intern.Stack(x, c.l); id != c.want {
			t.Errorf("stack %d is %d, want %d", i, id, c.want)
		}
	}
	m := func(n int) [][2]int { return slices.Repeat([][2]int{{5, 1}}, n) }
	want := api.Table{
		Strings: []string{"z", "a", "b", "c", "m"},
		Stacks:  [][][2]int{{{2, 1}}, {{2, 2}}, {{3, 1}, {4, 0}, {3, 7}, {2, 1}}, {{2, 1}, {3, 7}, {4, 0}, {3, 1}}, {{1, api.Most - 1}}, {{2, 1}, {2, 1}}, m(100), m(99)},
	}
	if !sample.SameTable(x, want) {
		t.Errorf("table: %v", x)
	}
}

func TestStacksThatAreAlmostTheSame(t *testing.T) {
	x := api.Table{}
	for i, l := range [][]api.Frame{
		{at("a", 1), at("b", 2), at("c", 3)},
		{at("a", 9), at("b", 2), at("c", 3)},
		{at("a", 1), at("b", 9), at("c", 3)},
		{at("a", 1), at("b", 2), at("c", 9)},
		{at("c", 1), at("b", 2), at("c", 3)},
		{at("a", 1), at("a", 2), at("c", 3)},
		{at("a", 1), at("b", 2), at("a", 3)},
		{at("a", 1), at("b", 2)},
	} {
		for range 2 {
			y, id := intern.Stack(x, l)
			if id != i+1 || !intern.May(y) {
				t.Errorf("stack %d is %d", i+1, id)
			}
			x = y
		}
	}
}

func TestStackErrors(t *testing.T) {
	for i, l := range [][]api.Frame{
		{at("", 1)},
		{at("main", 5), at("", 5)},
		{at("main", -1)},
		{at("main", math.MinInt)},
		{at("main", api.Most)},
		{at("main", 5), at("new", math.MaxInt)},
		{at(long(1001), 5)},
		{at("new", 1), at(long(1001), 5)},
		slices.Repeat([]api.Frame{at("main", 1)}, 101),
		slices.Repeat([]api.Frame{at("main", 1)}, 100000),
	} {
		if y, id := intern.Stack(some(), l); !empty(y) || id != 0 {
			t.Errorf("wrong stack %d is %d", i, id)
		}
	}
	for i, x := range wrong() {
		for _, l := range [][]api.Frame{nil, {at("a", 1)}, {at("a", 99)}, {at("new", 1)}} {
			if y, id := intern.Stack(x, l); !empty(y) || id != 0 {
				t.Errorf("wrong table %d: %v is %d", i, l, id)
			}
		}
	}
}

func TestStackUpToTheLimits(t *testing.T) {
	all := api.Table{Strings: texts(10000), Stacks: [][][2]int{{{10000, 3}}}}
	if y, id := intern.Stack(all, []api.Frame{at("s0", 1), at("new", 1)}); !empty(y) || id != 0 {
		t.Errorf("a stack with string 10001 is %d", id)
	}
	if y, id := intern.Stack(all, []api.Frame{at("s9999", 3)}); !sample.SameTable(y, all) || id != 1 {
		t.Errorf("a stack of full strings is %d", id)
	}
	if y, id := intern.Stack(all, []api.Frame{at("s9999", 4)}); len(y.Stacks) != 2 || id != 2 {
		t.Errorf("a new stack of full strings is %d", id)
	}
	last := api.Table{Strings: []string{"a"}, Stacks: stacks(9999)}
	full, id := intern.Stack(last, []api.Frame{at("a", 10001)})
	if len(full.Stacks) != 10000 || id != 10000 {
		t.Errorf("stack 10000 is %d", id)
	}
	if y, id := intern.Stack(full, []api.Frame{at("a", 10002)}); !empty(y) || id != 0 {
		t.Errorf("stack 10001 is %d", id)
	}
	if y, id := intern.Stack(full, []api.Frame{at("b", 1)}); !empty(y) || id != 0 {
		t.Errorf("stack 10001 with a new string is %d", id)
	}
	if y, id := intern.Stack(full, []api.Frame{at("a", 10001)}); !sample.SameTable(y, full) || id != 10000 {
		t.Errorf("stack 10000 is %d again", id)
	}
	if y, id := intern.Stack(full, nil); !sample.SameTable(y, full) || id != 0 {
		t.Errorf("no frames are %d", id)
	}
}

func TestNumbersStay(t *testing.T) {
	r := rand.New(rand.NewSource(9))
	x := api.Table{}
	names, lists := map[string]int{}, map[int][]api.Frame{}
	for range 400 {
		s := "n" + strconv.Itoa(r.Intn(40))
		id := 0
		x, id = intern.String(x, s)
		if old, ok := names[s]; ok && old != id {
			t.Fatalf("%q was %d and is %d", s, old, id)
		}
		names[s] = id
		var l []api.Frame
		for range 1 + r.Intn(3) {
			l = append(l, at("n"+strconv.Itoa(r.Intn(50)), r.Intn(3)))
		}
		x, id = intern.Stack(x, l)
		if old, ok := lists[id]; ok && !slices.Equal(old, l) {
			t.Fatalf("stack %d was %v and is %v", id, old, l)
		}
		lists[id] = l
		if !intern.May(x) {
			t.Fatal("the table is not valid any more")
		}
	}
	for s, id := range names {
		if got, ok := intern.Name(x, id); got != s || !ok {
			t.Errorf("Name(%d) = %q, %v, want %q", id, got, ok, s)
		}
	}
	for id, l := range lists {
		if got, ok := intern.Frames(x, id); !slices.Equal(got, l) || !ok {
			t.Errorf("Frames(%d) = %v, %v, want %v", id, got, ok, l)
		}
	}
	if len(lists) != len(x.Stacks) {
		t.Errorf("%d stacks of %d different ones", len(x.Stacks), len(lists))
	}
}

func scribble(t api.Table) {
	for i := range t.Strings {
		t.Strings[i] = "scribble"
	}
	for _, l := range t.Stacks {
		for i := range l {
			l[i] = [2]int{77, 77}
		}
	}
	clear(t.Stacks)
}

// roomy is a table whose slices have room behind their ends, which nobody may write to.
func roomy() api.Table {
	x := some()
	x.Strings = append(make([]string, 0, 20), x.Strings...)
	x.Stacks = append(make([][][2]int, 0, 20), x.Stacks...)
	return x
}

func TestAnswersAreNewMemory(t *testing.T) {
	for i, do := range []func(api.Table) (api.Table, int){
		func(x api.Table) (api.Table, int) { return intern.String(x, "") },
		func(x api.Table) (api.Table, int) { return intern.String(x, "main") },
		func(x api.Table) (api.Table, int) { return intern.String(x, "new") },
		func(x api.Table) (api.Table, int) { return intern.Stack(x, nil) },
		func(x api.Table) (api.Table, int) { return intern.Stack(x, []api.Frame{at("main", 5)}) },
		func(x api.Table) (api.Table, int) { return intern.Stack(x, []api.Frame{at("new", 5)}) },
	} {
		x := roomy()
		y, _ := do(x)
		if !sample.SameTable(x, some()) || x.Strings[:4][3] != "" || x.Stacks[:5][4] != nil {
			t.Errorf("call %d changes its argument", i)
		}
		keep := clone(y)
		scribble(x)
		if !sample.SameTable(y, keep) {
			t.Errorf("call %d: the answer shares memory with the argument", i)
		}
	}
	x := some()
	l, _ := intern.Frames(x, 2)
	l[0].Func = "scribble"
	if again, _ := intern.Frames(x, 2); again[0].Func != "work" || !sample.SameTable(x, some()) {
		t.Error("frames share memory with the table")
	}
}
