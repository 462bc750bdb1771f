package desk_test

import (
	"fmt"
	"slices"
	"strings"
	"testing"

	"shuttlecock/api"
	"shuttlecock/desk"
	"shuttlecock/line"
	"shuttlecock/model"
	"shuttlecock/parse"
	"shuttlecock/prog"
	"shuttlecock/sample"
	"shuttlecock/state"
	"shuttlecock/tracer"
)

// talk is lines and the replies wanted, one after the other.
func talk(t *testing.T, name string, pairs ...string) {
	t.Helper()
	s := desk.New()
	var lines, replies []string
	for i := 0; i < len(pairs); i += 2 {
		lines, replies = append(lines, pairs[i]), append(replies, pairs[i+1]+"\n")
		if got := s.Do(pairs[i]); got != pairs[i+1]+"\n" {
			t.Errorf("%s: line %d, %q: %q, want %q", name, i/2+1, pairs[i], got, pairs[i+1])
		}
	}
	if got := desk.Answers(lines); !slices.Equal(got, replies) {
		t.Errorf("%s: Answers = %q, want %q", name, got, replies)
	}
}

func TestTheExample(t *testing.T) {
	out := desk.Answers([]string{"prog -", "trace 64", "step 1 0", "step 1 0", "step 1 0", "stop", "parse"})
	if len(out) != 7 || out[6] != "ok 1 3\n" {
		t.Errorf("%q", out)
	}
	talk(t, "example", "prog -", "ok", "trace 64", "ok", "step 1 0", "ok 1", "step 1 0", "ok 1", "step 1 0", "ok 1", "stop", "ok 55", "parse", "ok 1 3", "line 1", "spans 0-0:1:0 0-0:2:1")
}

func TestAnEmptySession(t *testing.T) {
	talk(t, "empty", "step 1 0", "none", "exit 1", "none", "tick 5", "none", "procs 2", "none", "trace 64", "none", "trace 0", "none",
		"flush 1", "none", "next", "none", "stop", "none", "place 1", "none", "parse", "error 10 at 0", "line 1", "spans", "line 0", "spans")
	if out := desk.Answers(nil); len(out) != 0 {
		t.Errorf("%q", out)
	}
}

func TestLinesThatAreNone(t *testing.T) {
	wrong := []string{"", " ", "what", "prog", "Prog -", "program -", "PARSE", "parse ", " parse", "parse 1", "parse\n", "parse\t", "next 1", "next ", "stop 0", "stop ",
		"step", "step 1", "step 1 ", "step  1 0", "step 1  0", "step 1 0 ", "step 1 0 0", "step 1 0 0 0", " step 1 0", "step 1 x", "step x 1", "step -1 0", "step +1 0", "step 01 0", "step 1 00",
		"step 1.0 0", "step 1,0", "step 0x1 0", "step 1_0 0", "step\t1 0", "Step 1 0", "step 12345678 0", "step 1 12345678", "step 1 10000000",
		"exit", "exit ", "exit 1 1", "exit 01", "exit 00", "exit 00000001", "exit -0", "exit 1e1", "exit a",
		"tick", "tick ", "tick 1 2", "tick -1", "tick 10000000", "tick 99999999999999999999", "procs", "procs 1 1", "procs 08", "procs two",
		"trace", "trace ", "trace 64 64", "trace 064", "trace -64", "flush", "flush 1 2", "flush 01", "flush x",
		"line", "line ", "line 1 2", "line -1", "line 01", "line \u0661", "place", "place 1 1", "place x", "place 0x1", "stopp", "sto", "none", "ok", "error 1", "off", "-",
		strings.Repeat("step 1 0", 100), strings.Repeat(" ", 100000), "step " + strings.Repeat("1 ", 100000), "exit " + strings.Repeat("1", 100000), "\x00", "\xff", "step\x001 0"}
	for _, before := range [][]string{nil, {"prog -"}, {"prog -", "trace 64"}} {
		out := desk.Answers(slices.Concat(before, wrong))
		for i, w := range wrong {
			if got := out[len(before)+i]; got != "what\n" {
				t.Errorf("after %q: %.40q: %q", before, w, got)
			}
		}
	}
}

func TestProg(t *testing.T) {
	talk(t, "prog", "prog ", "error 100", "prog  -", "error 100", "prog - ", "error 100", "prog x", "error 100", "prog spawn 1", "error 100", "place 1", "none",
		"prog work; spawn 1 | acquire 0", "ok", "place 1", "place 3 0", "step 1 0", "ok 1", "step 1 0", "ok 1", "place 1", "place 4 1", "prog x", "error 100", "place 1", "place 4 1",
		"prog -", "ok", "place 1", "place 3 0")
	talk(t, "prog ends tracing", "prog -", "ok", "trace 64", "ok", "prog x", "error 100", "flush 1", "ok", "prog -", "ok", "flush 1", "off", "stop", "off", "next", "off", "parse", "error 10 at 0")
}

func TestPlaces(t *testing.T) {
	talk(t, "places", "prog spawn 1; spawn 1; spawn 2; yield | acquire 3; sys | sleep 5", "ok",
		"place 0", "place 0 0", "place 1", "place 3 0", "place 2", "place 0 0", "place 9999999", "place 0 0",
		"step 1 0", "ok 1", "step 1 0", "ok 1", "step 1 0", "ok 1", "step 1 0", "ok 1", "step 1 0", "ok 1",
		"place 1", "place 4 1", "place 4", "place 1 1", "place 3", "place 2 1", "place 2", "place 2 1",
		"step 1 0", "ok 1", "place 1", "place 3 0", "step 1 0", "ok 1", "step 1 0", "ok 1", "place 4", "place 6 0",
		"step 1 0", "ok 1", "step 1 0", "ok 1", "place 2", "place 5 3", "tick 5", "ok 0", "step 1 0", "ok 2", "place 4", "place 4 1",
		"step 1 0", "ok 1", "place 4", "place 8 0", "procs 8", "ok 0", "step 8 1", "ok 1", "step 8 1", "ok 1", "place 3", "place 2 1", "place 1", "place 4 2")
}

func TestVictims(t *testing.T) {
	talk(t, "victims", "prog spawn 1; spawn 1; spawn 1; spawn 1; work | -", "ok", "step 1 0", "ok 1", "step 1 0", "ok 1",
		"step 1 0", "ok 1", "step 1 0", "ok 1", "step 1 0", "ok 1", "step 1 0", "ok 1", "procs 2", "ok 0",
		"step 2 1", "ok 1", "step 2 0", "ok 1", "place 2", "place 2 1", "step 2 0", "ok 1", "step 2 1", "ok 1",
		"place 2", "place 4 2", "place 3", "place 2 2", "place 4", "place 2 1", "place 5", "place 1 1")
}

func TestOff(t *testing.T) {
	talk(t, "off", "prog -", "ok", "flush 1", "off", "next", "off", "stop", "off", "trace 0", "error 1", "flush 1", "off", "trace 4097", "error 1", "stop", "off",
		"trace 1", "ok", "flush 7", "ok", "trace 0", "error 1", "next", "ok", "stop", "ok 75", "stop", "off", "parse", "ok 2 0", "trace 4096", "ok", "stop", "ok 40")
}

func TestATraceOfItsOwn(t *testing.T) {
	talk(t, "two traces", "prog yield", "ok", "trace 64", "ok", "step 1 0", "ok 1", "stop", "ok 49", "parse", "ok 1 1",
		"step 1 0", "ok 1", "parse", "ok 1 1", "trace 64", "ok", "step 1 0", "ok 1", "parse", "ok 1 1", "tick 7", "ok 0", "step 1 0", "ok 1", "stop", "ok 68", "parse", "ok 1 2", "line 1", "spans 0-0:2:1 0-7:1:0:yield 7-7:2:1", "line 2", "spans")
}

// session is a twin of the desk, by the samples' scheduler.
type session struct {
	s      api.State
	has    bool
	t      api.Tracer
	traces bool
	out    string
}

func (x *session) do(words string, n []int) string {
	none, off := !x.has, !x.traces
	switch words {
	case "parse":
		parts, at, e := parse.All(x.out)
		if e != api.OK {
			return fmt.Sprintf("error %d at %d", e, at)
		}
		return fmt.Sprintf("ok %d %d", len(parts), len(parse.Logs(parts)))
	case "line":
		parts, _, e := parse.All(x.out)
		if e != api.OK {
			return "spans"
		}
		return strings.TrimSuffix("spans "+line.Text(line.G(parts[0].Snap, parse.Logs(parts), n[0])), " ")
	}
	if none {
		return "none"
	}
	switch words {
	case "trace":
		if t, e := tracer.Start(n[0], model.Of(x.s)); e == api.OK {
			x.t, x.traces = t, true
			return "ok"
		}
		return "error 1"
	case "place":
		at := state.Place(x.s, n[0])
		return fmt.Sprintf("place %d %d", at.Kind, at.N)
	case "flush", "next", "stop":
		if off {
			return "off"
		}
		return x.end(words, n)
	}
	item := api.Item{Do: slices.Index([]string{"step", "exit", "tick", "procs"}, words), N: n[0], Victim: n[len(n)-1]}
	logs := sample.Do(&x.s, item)
	for _, l := range logs {
		if x.traces {
			x.t, _ = tracer.Put(x.t, l)
		}
	}
	return fmt.Sprintf("ok %d", len(logs))
}

func (x *session) end(words string, n []int) string {
	switch words {
	case "flush":
		x.t, _ = tracer.Flush(x.t, n[0])
	case "next":
		x.t, _ = tracer.Next(x.t, model.Of(x.s))
	default:
		x.out, _ = tracer.Stop(x.t)
		x.traces = false
		return fmt.Sprintf("ok %d", len(x.out))
	}
	return "ok"
}

func TestLongSessions(t *testing.T) {
	for n := range 40 {
		d := sample.NewDice(n)
		s := desk.New()
		x := &session{}
		if n%2 == 0 {
			p := sample.Program(n)
			x.s, _ = state.New(p, 1)
			x.has = true
			if got := s.Do("prog " + prog.Print(p)); got != "ok\n" {
				t.Fatalf("session %d: %q", n, got)
			}
		}
		for i := range 250 {
			words := []string{"step", "step", "step", "step", "step", "step", "step", "exit", "tick", "procs", "trace", "flush", "next", "stop", "parse", "line", "place"}[d.Roll(17)]
			if i == 5 {
				words = "trace"
			}
			if words == "stop" && d.Roll(3) > 0 || words == "trace" && x.traces {
				words = "step"
			}
			l := []int{d.Roll(9)}
			switch words {
			case "step":
				l = append(l, d.Roll(9))
			case "trace":
				l[0] = []int{0, 1, 16, 64, 4096, 4097}[d.Roll(6)]
			case "next", "stop", "parse":
				l = nil
			}
			text := words
			for _, k := range l {
				text += fmt.Sprintf(" %d", k)
			}
			want := x.do(words, l)
			if got := s.Do(text); got != want+"\n" {
				t.Fatalf("session %d, line %d, %q: %q, want %q", n, i, text, got, want)
			}
		}
	}
}

// What a session logs never makes the tracer fail but by a wrong size, so that only this error can be seen here.
func TestTrace(t *testing.T) {
	talk(t, "trace", "prog work", "ok", "trace 9999999", "error 1", "trace 64", "ok", "step 1 0", "ok 1", "flush 9999999", "ok", "flush 0", "ok", "next", "ok", "step 1 0", "ok 1", "next", "ok", "stop", "ok 128", "parse", "ok 3 2")
	talk(t, "flush", "prog work", "ok", "trace 64", "ok", "step 1 0", "ok 1", "flush 1", "ok", "step 1 0", "ok 1", "stop", "ok 58", "parse", "ok 1 2")
	talk(t, "a small size", "prog work", "ok", "trace 1", "ok", "step 1 0", "ok 1", "step 1 0", "ok 1", "stop", "ok 58", "parse", "ok 1 2")
	talk(t, "no flush", "prog work", "ok", "trace 64", "ok", "step 1 0", "ok 1", "flush 2", "ok", "step 1 0", "ok 1", "stop", "ok 53", "parse", "ok 1 2")
	talk(t, "a trace anew", "prog work", "ok", "trace 64", "ok", "step 1 0", "ok 1", "trace 64", "ok", "stop", "ok 40", "parse", "ok 1 0")
}

// lineOf is an item as a line, if there is one.
func lineOf(x api.Item) string {
	switch {
	case x.N < 0 || x.Victim < 0 || x.Do < 0 || x.Do >= api.Items:
		return "none"
	case x.Do == api.ItStep:
		return fmt.Sprintf("step %d %d", x.N, x.Victim)
	}
	return fmt.Sprintf("%s %d", []string{"", "exit", "tick", "procs"}[x.Do], x.N)
}

func TestTracingDoesNotAffectTheScheduler(t *testing.T) {
	for n := range 20 {
		plain, traced := desk.New(), desk.New()
		text := "prog " + prog.Print(sample.Program(n))
		plain.Do(text)
		traced.Do(text)
		traced.Do("trace 16")
		for i, x := range sample.Items(n, 120) {
			for _, l := range []string{lineOf(x), fmt.Sprintf("place %d", 1+i%5)} {
				if a, b := plain.Do(l), traced.Do(l); a != b {
					t.Fatalf("session %d, line %d, %q: %q, and %q where it is traced", n, i, l, a, b)
				}
			}
			if i%30 == 29 && traced.Do("next")+traced.Do("flush 1") != "ok\nok\n" {
				t.Fatalf("session %d, line %d: not traced", n, i)
			}
		}
	}
}

func TestSessionsAreApart(t *testing.T) {
	a, b := desk.New(), desk.New()
	a.Do("prog -")
	a.Do("trace 64")
	if got := b.Do("step 1 0"); got != "none\n" {
		t.Errorf("%q", got)
	}
	b.Do("prog -")
	if got := b.Do("stop"); got != "off\n" {
		t.Errorf("%q", got)
	}
	if got := a.Do("stop"); got != "ok 40\n" {
		t.Errorf("%q", got)
	}
	if got := b.Do("parse"); got != "error 10 at 0\n" {
		t.Errorf("%q", got)
	}
}

func TestNilSession(t *testing.T) {
	var s *desk.Session
	for _, l := range []string{"", "prog -", "parse", "what"} {
		if got := s.Do(l); got != "" {
			t.Errorf("%q: %q", l, got)
		}
	}
	var zero desk.Session
	if got := zero.Do("prog -"); got != "ok\n" {
		t.Errorf("%q", got)
	}
}
