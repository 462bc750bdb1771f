package kind_test

import (
	"math"
	"slices"
	"strconv"
	"sync"
	"testing"

	"shuttlecock/api"
	"shuttlecock/kind"
)

type row struct {
	name string
	args []int
}

// rows is the chapter's table, in numbers.
func rows() map[int]row {
	return map[int]row{
		1:  {"procstart", []int{0, 2}},
		2:  {"procstop", nil},
		3:  {"create", []int{1, 4}},
		4:  {"start", []int{1, 2}},
		5:  {"stop", []int{3, 4}},
		6:  {"block", []int{3, 4}},
		7:  {"unblock", []int{1, 2, 4}},
		8:  {"exit", nil},
		9:  {"sysenter", []int{4}},
		10: {"sysexit", []int{5, 2}},
	}
}

func numbers() []int {
	out := []int{math.MinInt, -1 << 32, -256, -129, -128, -10, -1, 1 << 32, 1<<32 + 3, 256 + 3, 1<<62 + 3, math.MaxInt}
	for k := range 600 {
		out = append(out, k)
	}
	return out
}

func wantedName(k int) string {
	if k >= 128 && k <= 255 {
		return "exp" + strconv.Itoa(k)
	}
	return rows()[k].name
}

func TestKinds(t *testing.T) {
	for _, k := range numbers() {
		_, known := rows()[k]
		if kind.Known(k) != known {
			t.Errorf("Known(%d) = %v", k, kind.Known(k))
		}
		if exp := k >= 128 && k <= 255; kind.Exp(k) != exp {
			t.Errorf("Exp(%d) = %v", k, kind.Exp(k))
		}
		if name := kind.Name(k); name != wantedName(k) {
			t.Errorf("Name(%d) = %q", k, name)
		}
		if args := kind.Args(k); !slices.Equal(args, rows()[k].args) {
			t.Errorf("Args(%d) = %v", k, args)
		}
		if name := wantedName(k); name != "" && kind.Of(name) != k {
			t.Errorf("Of(%q) = %d", name, kind.Of(name))
		}
	}
}

func TestOfOtherNames(t *testing.T) {
	for _, name := range []string{"", " ", "Create", "CREATE", "creat", "created", " create", "create ", "none", "exp", "exp0", "exp1", "exp3",
		"exp127", "exp256", "exp0128", "exp 128", "exp+128", "exp-128", "Exp128", "exp12", "exp1280", "exp200 ", "exp0200", "200", "3", "procstart\x00"} {
		if k := kind.Of(name); k != 0 {
			t.Errorf("Of(%q) = %d", name, k)
		}
	}
}

func TestArgsAreNewMemory(t *testing.T) {
	for k := range rows() {
		args := kind.Args(k)
		for i := range args {
			args[i] = 99
		}
		if again := kind.Args(k); !slices.Equal(again, rows()[k].args) {
			t.Errorf("Args(%d) = %v after its answer was changed", k, again)
		}
	}
}

func TestTable(t *testing.T) {
	x := kind.New()
	calls := 0
	for _, k := range numbers() {
		if name := x.Name(k); name != kind.Name(k) || name != wantedName(k) {
			t.Errorf("Name(%d) = %q", k, name)
		}
		calls++
		if x.Known(k) != kind.Known(k) {
			t.Errorf("Known(%d) differs", k)
		}
		calls += 2
		if n := x.Asked(); n != calls {
			t.Fatalf("Asked = %d, want %d", n, calls)
		}
	}
}

func TestAskedOfANewTable(t *testing.T) {
	x := kind.New()
	for want := 1; want < 5; want++ {
		if n := x.Asked(); n != want {
			t.Errorf("Asked = %d, want %d", n, want)
		}
	}
	x.Known(1)
	if n := x.Asked(); n != 6 {
		t.Errorf("Asked after a Known = %d, want 6", n)
	}
	x.Name(1)
	if n := x.Asked(); n != 8 {
		t.Errorf("Asked after a Name = %d, want 8", n)
	}
	if n := kind.New().Asked(); n != 1 {
		t.Errorf("another table counts %d", n)
	}
	kind.Name(1)
	kind.Known(1)
	if n := x.Asked(); n != 9 {
		t.Errorf("the functions count: %d", n)
	}
}

func TestTableOfManyAskers(t *testing.T) {
	x := kind.New()
	const askers, each = 8, 300
	wrong := make([]int, askers)
	all := sync.WaitGroup{}
	for i := range askers {
		all.Add(1)
		go func() {
			defer all.Done()
			for n := range each {
				k := n % 260
				if x.Name(k) != wantedName(k) || x.Known(k) != (k >= 1 && k <= 10) || x.Asked() < 1 {
					wrong[i]++
				}
			}
		}()
	}
	all.Wait()
	for i, n := range wrong {
		if n > 0 {
			t.Errorf("asker %d: %d wrong answers", i, n)
		}
	}
	if n := x.Asked(); n != askers*each*3+1 {
		t.Errorf("Asked = %d, want %d", n, askers*each*3+1)
	}
}

func TestNilTable(t *testing.T) {
	var x *kind.Kinds
	for _, k := range []int{-1, 0, 1, api.KSysExit, api.KExp, 255} {
		if x.Name(k) != "" || x.Known(k) || x.Asked() != 0 {
			t.Errorf("a nil table answers for %d", k)
		}
	}
}
