package prog_test

import (
	"math"
	"math/rand"
	"slices"
	"strconv"
	"strings"
	"testing"

	"shuttlecock/api"
	"shuttlecock/prog"
)

func in(do, a int) api.Instr {
	return api.Instr{Do: do, A: a}
}

func same(a, b api.Program) bool {
	return slices.EqualFunc(a, b, func(x, y []api.Instr) bool { return slices.Equal(x, y) })
}

// of is a program of n functions, whose first one has the given instructions.
func of(n int, code ...api.Instr) api.Program {
	p := make(api.Program, n)
	p[0] = code
	return p
}

// texts are programs and how they are written.
func texts() map[string]api.Program {
	empties := make(api.Program, 8)
	works := strings.TrimSuffix(strings.Repeat("work; ", 20), "; ")
	return map[string]api.Program{
		"-":                                   of(1),
		"- | -":                               of(2),
		"- | - | - | - | - | - | - | -":       empties,
		"work":                                of(1, in(0, 0)),
		"spawn 0":                             of(1, in(1, 0)),
		"spawn 7 | - | - | - | - | - | - | -": of(8, in(1, 7)),
		"yield; sys":                          of(1, in(2, 0), in(5, 0)),
		"acquire 0; acquire 3":                of(1, in(3, 0), in(3, 3)),
		"release 0; release 3":                of(1, in(4, 0), in(4, 3)),
		"sleep 0; sleep 1000":                 of(1, in(6, 0), in(6, 1000)),
		"sleep 10; sleep 999":                 of(1, in(6, 10), in(6, 999)),
		"spawn 1; acquire 0 | release 0":      {{in(1, 1), in(3, 0)}, {in(4, 0)}},
		"- | work; work | - | yield":          {nil, {in(0, 0), in(0, 0)}, nil, {in(2, 0)}},
		works:                                 of(1, slices.Repeat([]api.Instr{in(0, 0)}, 20)...),
	}
}

func wrong() []api.Program {
	out := []api.Program{
		nil,
		{},
		make(api.Program, 9),
		make(api.Program, 100),
		of(1, slices.Repeat([]api.Instr{in(0, 0)}, 21)...),
		{nil, slices.Repeat([]api.Instr{in(2, 0)}, 21)},
		of(1, in(1, 1)),
		of(2, in(1, 2)),
		of(8, in(1, 8)),
		{nil, nil, {in(1, 3)}},
		{nil, {in(0, 0), in(7, 0)}},
	}
	for _, do := range []int{-1, 7, 8, math.MinInt, math.MaxInt} {
		out = append(out, of(1, in(do, 0)))
	}
	for do, most := range []int{0, 7, 0, 3, 3, 0, 1000} {
		for _, a := range []int{-1, most + 1, most + 100, math.MinInt, math.MaxInt} {
			out = append(out, of(8, in(do, a)))
		}
	}
	return out
}

func TestGoodPrograms(t *testing.T) {
	for s, p := range texts() {
		if !prog.May(p) {
			t.Errorf("%v may not be", p)
		}
		if got := prog.Print(p); got != s {
			t.Errorf("Print(%v) = %q, want %q", p, got, s)
		}
		if got, e := prog.Parse(s); !same(got, p) || e != api.OK {
			t.Errorf("Parse(%q) = %v, %d", s, got, e)
		}
	}
	for do, most := range []int{0, 7, 0, 3, 3, 0, 1000} {
		for a := range most + 1 {
			if p := of(8, in(do, a)); !prog.May(p) {
				t.Errorf("%v may not be", p)
			}
		}
	}
}

func TestWrongPrograms(t *testing.T) {
	for _, p := range wrong() {
		if prog.May(p) {
			t.Errorf("%v may be", p)
		}
		if s := prog.Print(p); s != "" {
			t.Errorf("Print(%v) = %q", p, s)
		}
		if l := prog.Stack(p, 0, 0); len(l) != 0 {
			t.Errorf("Stack(%v) = %v", p, l)
		}
	}
}

func TestParseErrors(t *testing.T) {
	for _, s := range []string{
		"", " ", "|", " | ", "- | ", " | -", "-|-", "- |-", "-| -", "-  |  -", "- | - ", " -", "- ", "--", "- -", "-\n", "-; -", "work; -", "-; work",
		"work;work", "work;  work", "work ;work", "work; ", "; work", "work ", " work", "Work", "WORK", "works", "wor", "work work", "work 0", "yield 0", "sys 0", "work 1",
		"spawn", "spawn ", "spawn  0", "spawn 00", "spawn +0", "spawn -0", "spawn -1", "spawn 0x0", "spawn 0.0", "spawn 1", "spawn a", "spawn 0 0", "spawn 0 ", "spawn 1 | - | ",
		"acquire", "acquire 4", "acquire -1", "acquire 03", "acquire 3 ", "release", "release 4", "release 10", "release 0_1",
		"sleep", "sleep 1001", "sleep 01", "sleep 1_0", "sleep 1e2", "sleep 10000", "sleep 18446744073709551616", "sleep 9223372036854775808", "sleep \u0661",
		"nothing", "work | nothing", "none", "0", "spawn 2 | -", "exit",
		"- | - | - | - | - | - | - | - | -",
		strings.TrimSuffix(strings.Repeat("work; ", 21), "; "),
		strings.Repeat("- | ", 100000) + "-",
		strings.Repeat("work; ", 100000) + "work",
		strings.Repeat(" | ", 9), strings.Repeat("; ", 20), "work\x00", "\xff",
	} {
		if p, e := prog.Parse(s); len(p) != 0 || e != api.ErrProg {
			t.Errorf("Parse(%.40q) = %v, %d", s, p, e)
		}
	}
}

func TestStack(t *testing.T) {
	p := api.Program{{in(0, 0), in(0, 0)}, nil, slices.Repeat([]api.Instr{in(0, 0)}, 20), nil, nil, nil, nil, {in(2, 0)}}
	for f := -2; f < 11; f++ {
		for pc := -2; pc < 25; pc++ {
			l := prog.Stack(p, f, pc)
			if f < 0 || f > 7 || pc < 0 || pc > len(p[f]) {
				if len(l) != 0 {
					t.Errorf("Stack(%d, %d) = %v", f, pc, l)
				}
				continue
			}
			if want := []api.Frame{{Func: "f" + strconv.Itoa(f), Line: pc + 1}}; !slices.Equal(l, want) {
				t.Errorf("Stack(%d, %d) = %v", f, pc, l)
			}
		}
	}
	for _, n := range []int{math.MinInt, math.MaxInt} {
		if len(prog.Stack(p, n, 0)) != 0 || len(prog.Stack(p, 0, n)) != 0 || len(prog.Stack(p, n, n)) != 0 {
			t.Errorf("a stack at %d", n)
		}
	}
}

// anyProgram is often valid, and seldom far from it.
func anyProgram(r *rand.Rand) api.Program {
	p := make(api.Program, 1+r.Intn(8))
	for i := range p {
		for range r.Intn(6) {
			do := r.Intn(7)
			a := 0
			switch do {
			case 1:
				a = r.Intn(len(p))
			case 3, 4:
				a = r.Intn(4)
			case 6:
				a = r.Intn(1001)
			}
			if r.Intn(100) == 0 {
				a++
			}
			p[i] = append(p[i], in(do, a))
		}
	}
	return p
}

// may is the chapter's definition.
func may(p api.Program) bool {
	for _, code := range p {
		for _, x := range code {
			most := []int{0, len(p) - 1, 0, 3, 3, 0, 1000}
			if x.A > most[x.Do] {
				return false
			}
		}
	}
	return true
}

func TestAnyProgramIsReadBack(t *testing.T) {
	r := rand.New(rand.NewSource(15))
	for range 5000 {
		p := anyProgram(r)
		want := may(p)
		if prog.May(p) != want {
			t.Fatalf("May(%v) = %v", p, !want)
		}
		s := prog.Print(p)
		if !want {
			if s != "" {
				t.Fatalf("Print(%v) = %q", p, s)
			}
			continue
		}
		if got, e := prog.Parse(s); !same(got, p) || e != api.OK {
			t.Fatalf("Parse(%q) = %v, %d, want %v", s, got, e, p)
		}
	}
}

func TestParseOfAnyText(t *testing.T) {
	r := rand.New(rand.NewSource(16))
	pieces := []string{"work", "spawn 0", "spawn 1", "yield", "acquire 2", "release 3", "sys", "sleep 5", "sleep", "; ", "; ", "; ", " | ", " | ", "-", " ", "0", "1"}
	for range 50000 {
		s := ""
		for range r.Intn(7) {
			s += pieces[r.Intn(len(pieces))]
		}
		p, e := prog.Parse(s)
		if e == api.OK && (!prog.May(p) || prog.Print(p) != s) || e != api.OK && (len(p) != 0 || e != api.ErrProg) {
			t.Fatalf("Parse(%q) = %v, %d", s, p, e)
		}
	}
}

func TestArgumentsStay(t *testing.T) {
	p := texts()["spawn 1; acquire 0 | release 0"]
	prog.May(p)
	prog.Print(p)
	prog.Stack(p, 0, 0)
	if !same(p, texts()["spawn 1; acquire 0 | release 0"]) {
		t.Error("an argument is changed")
	}
}
