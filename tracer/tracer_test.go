package tracer_test

import (
	"fmt"
	"math"
	"slices"
	"strconv"
	"strings"
	"testing"

	"shuttlecock/api"
	"shuttlecock/batch"
	"shuttlecock/event"
	"shuttlecock/sample"
	"shuttlecock/snap"
	"shuttlecock/table"
	"shuttlecock/tracer"
	"shuttlecock/wire"
)

func sameTracer(a, b api.Tracer) bool {
	return a.Size == b.Size && a.Gen == b.Gen && slices.Equal(a.Bufs, b.Bufs) && sample.SameTable(a.Table, b.Table) && a.Out == b.Out
}

func zero(x api.Tracer) bool {
	return sameTracer(x, api.Tracer{})
}

func at(name string, line int) []api.Frame {
	return []api.Frame{{Func: name, Line: line}}
}

func some() api.Table {
	return api.Table{Strings: []string{"f0", "yield"}, Stacks: [][][2]int{{{1, 5}}, {{1, 5}, {1, 6}}}}
}

// text writes a table and an event, so that they can be held against what is wanted.
func text(t api.Table, e api.Event) string {
	return fmt.Sprintf("%v %v %d %d %v %s", t.Strings, t.Stacks, e.Kind, e.Dt, e.Args, e.Text)
}

func TestEvent(t *testing.T) {
	two := []api.Frame{{Func: "f9", Line: 0}, {Func: "f0", Line: 7}}
	all := api.Log{Time: 99, M: -4, G: 3, P: 4, Seq: 5, Why: "yield", Stack: at("f0", 5)}
	rest := api.Log{Time: 99, M: -4, G: 3, P: 4, Seq: 5, Why: "acquire", Stack: two}
	bare := api.Log{G: 8}
	more := "[f0 yield f9] [[[1 5]] [[1 5] [1 6]] [[3 0] [1 7]]]"
	whole := "[f0 yield acquire f9] [[[1 5]] [[1 5] [1 6]] [[4 0] [1 7]]]"
	old := "[f0 yield] [[[1 5]] [[1 5] [1 6]]]"
	for i, c := range []struct {
		kind int
		l    api.Log
		want string
	}{
		{1, all, old + " 1 0 [4 5] "},
		{1, rest, old + " 1 0 [4 5] "},
		{1, bare, old + " 1 0 [0 0] "},
		{2, all, old + " 2 0 [] "},
		{2, rest, old + " 2 0 [] "},
		{3, all, old + " 3 0 [3 1] "},
		{3, rest, more + " 3 0 [3 3] "},
		{3, bare, old + " 3 0 [8 0] "},
		{4, all, old + " 4 0 [3 5] "},
		{4, rest, old + " 4 0 [3 5] "},
		{5, all, old + " 5 0 [2 1] "},
		{5, rest, whole + " 5 0 [3 3] "},
		{5, bare, old + " 5 0 [0 0] "},
		{6, all, old + " 6 0 [2 1] "},
		{6, rest, whole + " 6 0 [3 3] "},
		{6, bare, old + " 6 0 [0 0] "},
		{7, all, old + " 7 0 [3 5 1] "},
		{7, rest, more + " 7 0 [3 5 3] "},
		{8, all, old + " 8 0 [] "},
		{8, rest, old + " 8 0 [] "},
		{9, all, old + " 9 0 [1] "},
		{9, rest, more + " 9 0 [3] "},
		{10, all, old + " 10 0 [4 5] "},
		{10, rest, old + " 10 0 [4 5] "},
		{10, bare, old + " 10 0 [0 0] "},
	} {
		c.l.Kind = c.kind
		y, e, ok := tracer.Event(some(), c.l)
		if got := text(y, e); got != c.want || !ok {
			t.Errorf("case %d: %q, %v, want %q", i, got, ok, c.want)
		}
	}
}

func TestEventErrors(t *testing.T) {
	good := api.Log{G: 3, P: 4, Seq: 5, Why: "yield", Stack: at("f0", 5)}
	change := func(do func(*api.Log)) api.Log {
		l := good
		do(&l)
		return l
	}
	texts := func(n int) []string {
		var out []string
		for i := range n {
			out = append(out, "s"+strconv.Itoa(i))
		}
		return out
	}
	emptyFunc := change(func(l *api.Log) { l.Stack = at("", 5) })
	wrongLine := change(func(l *api.Log) { l.Stack = at("f0", -1) })
	longWhy := change(func(l *api.Log) { l.Why = strings.Repeat("x", 1001) })
	tooDeep := change(func(l *api.Log) { l.Stack = slices.Repeat(at("f0", 5), 101) })
	wrongG := change(func(l *api.Log) { l.G = -1 })
	wrongP := change(func(l *api.Log) { l.P = api.Most })
	wrongSeq := change(func(l *api.Log) { l.Seq = math.MinInt })
	newWhy := change(func(l *api.Log) { l.Why = "new" })
	full := api.Table{Strings: append(texts(9998), "f0", "yield")}
	for i, c := range []struct {
		t     api.Table
		l     api.Log
		wrong []int
	}{
		{some(), emptyFunc, []int{3, 5, 6, 7, 9}},
		{some(), wrongLine, []int{3, 5, 6, 7, 9}},
		{some(), tooDeep, []int{3, 5, 6, 7, 9}},
		{some(), longWhy, []int{5, 6}},
		{some(), wrongG, []int{3, 4, 7}},
		{some(), wrongP, []int{1, 10}},
		{some(), wrongSeq, []int{1, 4, 7, 10}},
		{full, good, nil},
		{full, newWhy, []int{5, 6}},
		{api.Table{Strings: []string{"a", "a"}}, good, []int{1, 2, 3, 4, 5, 6, 7, 8, 9, 10}},
		{api.Table{Stacks: [][][2]int{{}}}, api.Log{}, []int{1, 2, 3, 4, 5, 6, 7, 8, 9, 10}},
	} {
		for k := 1; k <= 10; k++ {
			c.l.Kind = k
			y, e, ok := tracer.Event(c.t, c.l)
			if ok == slices.Contains(c.wrong, k) {
				t.Errorf("case %d, kind %d: %v", i, k, ok)
			}
			if !ok && text(y, e) != text(api.Table{}, api.Event{}) {
				t.Errorf("case %d, kind %d: an answer beside false", i, k)
			}
		}
	}
	for _, k := range []int{0, -1, 11, 127, 128, 200, 255, math.MinInt, math.MaxInt} {
		good.Kind = k
		if y, e, ok := tracer.Event(some(), good); ok || text(y, e) != text(api.Table{}, api.Event{}) {
			t.Errorf("kind %d: %v", k, ok)
		}
	}
}

func TestStart(t *testing.T) {
	for n := range 100 {
		x := sample.Snap(sample.State(n))
		for _, size := range []int{1, 2, 64, 4095, 4096} {
			want := api.Tracer{Size: size, Gen: 1, Out: wire.Header() + batch.Encode(api.Batch{Gen: 1, Base: x.Time, Body: snap.Encode(x)})}
			if got, e := tracer.Start(size, x); !sameTracer(got, want) || e != api.OK {
				t.Fatalf("sample %d: Start(%d) = %+v, %d", n, size, got, e)
			}
		}
	}
	for _, size := range []int{0, -1, 4097, math.MinInt, math.MaxInt} {
		if got, e := tracer.Start(size, api.Snap{}); !zero(got) || e != api.ErrArg {
			t.Errorf("Start(%d) = %+v, %d", size, got, e)
		}
	}
	for i, x := range wrongSnaps() {
		if got, e := tracer.Start(64, x); !zero(got) || e != api.ErrArg {
			t.Errorf("Start of wrong snapshot %d = %+v, %d", i, got, e)
		}
	}
}

func wrongSnaps() []api.Snap {
	return []api.Snap{
		{Time: -1},
		{Time: api.Most},
		{Gs: []api.GStat{{G: 1, Status: 2, M: 1}}},
		{Ps: []api.PStat{{M: 1}, {M: 1}}},
		{Ps: make([]api.PStat, 65)},
	}
}

func must(t *testing.T) func(api.Tracer, api.Errno) api.Tracer {
	return func(x api.Tracer, e api.Errno) api.Tracer {
		t.Helper()
		if e != api.OK {
			t.Fatalf("error %d", e)
		}
		return x
	}
}

func TestTheExample(t *testing.T) {
	x := must(t)(tracer.Start(64, api.Snap{Time: 5}))
	out, e := tracer.Stop(x)
	if want := "SHTL\x01" + "B\x01\x00\x05\x03\x05\x00\x00" + "B\x01\x01\x00\x02\x00\x00"; out != want || e != api.OK {
		t.Errorf("%q, %d, want %q", out, e, want)
	}
}

func TestPutByHand(t *testing.T) {
	x := must(t)(tracer.Start(7, api.Snap{}))
	begin := x.Out
	x = must(t)(tracer.Put(x, api.Log{Time: 10, M: 5, Kind: api.KExit, G: 9, Why: "no", Stack: at("no", 1)}))
	want := api.Tracer{Size: 7, Gen: 1, Bufs: []api.Buf{{M: 5, Base: 10, Last: 10, Body: "\x08\x00"}}, Out: begin}
	if !sameTracer(x, want) {
		t.Fatalf("%+v, want %+v", x, want)
	}
	x = must(t)(tracer.Put(x, api.Log{Time: 12, M: 2, Kind: api.KStop, G: 1, Why: "yield", Stack: at("f0", 3)}))
	want.Bufs = []api.Buf{{M: 2, Base: 12, Last: 12, Body: "\x05\x00\x01\x01"}, {M: 5, Base: 10, Last: 10, Body: "\x08\x00"}}
	want.Table = api.Table{Strings: []string{"yield", "f0"}, Stacks: [][][2]int{{{2, 3}}}}
	if !sameTracer(x, want) {
		t.Fatalf("%+v, want %+v", x, want)
	}
	x = must(t)(tracer.Put(x, api.Log{Time: 11, M: 5, Kind: api.KSysEnter, Stack: at("f0", 3)}))
	want.Bufs[1] = api.Buf{M: 5, Base: 10, Last: 11, Body: "\x08\x00\x09\x01\x01"}
	if !sameTracer(x, want) {
		t.Fatalf("%+v, want %+v", x, want)
	}
	x = must(t)(tracer.Put(x, api.Log{Time: 11, M: 5, Kind: api.KProcStop, P: 7}))
	want.Bufs[1] = api.Buf{M: 5}
	want.Out += "B\x01\x06\x0a\x07\x08\x00\x09\x01\x01\x02\x00"
	if !sameTracer(x, want) {
		t.Fatalf("%+v, want %+v", x, want)
	}
	x = must(t)(tracer.Put(x, api.Log{Time: 4, M: 5, Kind: api.KExit}))
	want.Bufs[1] = api.Buf{M: 5, Base: 4, Last: 4, Body: "\x08\x00"}
	if !sameTracer(x, want) {
		t.Fatalf("%+v, want %+v", x, want)
	}
	y := must(t)(tracer.Next(x, api.Snap{Time: 20}))
	end := "B\x01\x03\x0c\x04\x05\x00\x01\x01" + "B\x01\x06\x04\x02\x08\x00" + batch.Encode(api.Batch{Gen: 1, Stream: 1, Body: table.Encode(want.Table)})
	next := api.Tracer{Size: 7, Gen: 2, Out: want.Out + end + "B\x02\x00\x14\x03\x14\x00\x00"}
	if !sameTracer(y, next) {
		t.Fatalf("%+v, want %+v", y, next)
	}
	if out, e := tracer.Stop(x); out != want.Out+end || e != api.OK {
		t.Fatalf("%q, %d, want %q", out, e, want.Out+end)
	}
	if out, e := tracer.Stop(y); out != next.Out+"B\x02\x01\x00\x02\x00\x00" || e != api.OK {
		t.Fatalf("%q, %d", out, e)
	}
}

func TestFlush(t *testing.T) {
	x := must(t)(tracer.Start(64, api.Snap{}))
	for _, m := range []int{3, 8} {
		x = must(t)(tracer.Put(x, api.Log{Time: m, M: m, Kind: api.KExit}))
	}
	for _, m := range []int{0, -1, 1, 4, 9, math.MinInt, math.MaxInt} {
		if y := must(t)(tracer.Flush(x, m)); !sameTracer(x, y) {
			t.Errorf("Flush of M %d: %+v", m, y)
		}
	}
	want := api.Tracer{Size: 64, Gen: 1, Out: x.Out + "B\x01\x09\x08\x02\x08\x00", Bufs: []api.Buf{x.Bufs[0], {M: 8}}}
	y := must(t)(tracer.Flush(x, 8))
	if !sameTracer(y, want) {
		t.Errorf("%+v, want %+v", y, want)
	}
	if z := must(t)(tracer.Flush(y, 8)); !sameTracer(z, y) {
		t.Errorf("a second Flush: %+v", z)
	}
}

func TestPutErrors(t *testing.T) {
	x := must(t)(tracer.Start(64, api.Snap{}))
	x = must(t)(tracer.Put(x, api.Log{Time: 10, M: 3, Kind: api.KExit}))
	for i, l := range []api.Log{
		{Time: 10, M: 0, Kind: api.KExit},
		{Time: 10, M: -1, Kind: api.KExit},
		{Time: 10, M: math.MinInt, Kind: api.KExit},
		{Time: 10, M: 3, Kind: 0},
		{Time: 10, M: 3, Kind: 11},
		{Time: 10, M: 3, Kind: 200},
		{Time: 9, M: 3, Kind: api.KExit},
		{Time: -1, M: 4, Kind: api.KExit},
		{Time: api.Most, M: 3, Kind: api.KExit},
		{Time: math.MaxInt, M: 4, Kind: api.KExit},
		{Time: 10, M: 3, Kind: api.KStart, G: -1},
		{Time: 10, M: 3, Kind: api.KStart, Seq: api.Most},
		{Time: 10, M: 3, Kind: api.KSysEnter, Stack: at("", 1)},
		{Time: 10, M: 3, Kind: api.KSysEnter, Stack: at("f", -1)},
		{Time: 10, M: 3, Kind: api.KBlock, Why: strings.Repeat("x", 1001)},
	} {
		if y, e := tracer.Put(x, l); !zero(y) || e != api.ErrTracer {
			t.Errorf("case %d: %+v, %d", i, y, e)
		}
	}
	if _, e := tracer.Put(x, api.Log{Time: 9, M: 4, Kind: api.KExit}); e != api.OK {
		t.Errorf("another M at an earlier time: %d", e)
	}
}

func TestAnMWithoutAStream(t *testing.T) {
	for _, m := range []int{api.Most - 1, api.Most, math.MaxInt} {
		l := api.Log{Time: 1, M: m, Kind: api.KExit}
		x := must(t)(tracer.Put(must(t)(tracer.Start(64, api.Snap{})), l))
		if y, e := tracer.Flush(x, m); !zero(y) || e != api.ErrTracer {
			t.Errorf("Flush of M %d: %d", m, e)
		}
		if y, e := tracer.Next(x, api.Snap{}); !zero(y) || e != api.ErrTracer {
			t.Errorf("Next with M %d: %d", m, e)
		}
		if y, e := tracer.Next(x, api.Snap{Time: -1}); !zero(y) || e != api.ErrArg {
			t.Errorf("a wrong Next with M %d: %d", m, e)
		}
		if out, e := tracer.Stop(x); out != "" || e != api.ErrTracer {
			t.Errorf("Stop with M %d: %d", m, e)
		}
		small := must(t)(tracer.Start(1, api.Snap{}))
		if y, e := tracer.Put(small, l); !zero(y) || e != api.ErrTracer {
			t.Errorf("Put of M %d: %d", m, e)
		}
	}
	x := must(t)(tracer.Put(must(t)(tracer.Start(1, api.Snap{})), api.Log{M: api.Most - 2, Kind: api.KExit}))
	if out, e := tracer.Stop(x); e != api.OK || !strings.Contains(out, wire.Nums(1, api.Most-1, 0)) {
		t.Errorf("the greatest M: %d", e)
	}
}

func TestATableThatIsTooLong(t *testing.T) {
	x := must(t)(tracer.Start(64, api.Snap{}))
	for i := range 66 {
		x = must(t)(tracer.Put(x, api.Log{M: 1, Kind: api.KBlock, Why: strings.Repeat("x", 900) + strconv.Itoa(100+i)}))
		if i == 50 {
			if _, e := tracer.Stop(x); e != api.OK {
				t.Errorf("a table of 51 strings: %d", e)
			}
		}
	}
	x = must(t)(tracer.Put(x, api.Log{M: 1, Kind: api.KBlock, Why: strings.Repeat("y", 1000)}))
	for i := range 6 {
		x = must(t)(tracer.Put(x, api.Log{M: 1, Kind: api.KBlock, Why: strings.Repeat("z", 990) + strconv.Itoa(i)}))
	}
	if out, e := tracer.Stop(x); out != "" || e != api.ErrTracer {
		t.Errorf("Stop: %d bytes, %d", len(out), e)
	}
	if y, e := tracer.Next(x, api.Snap{}); !zero(y) || e != api.ErrTracer {
		t.Errorf("Next: %d", e)
	}
	if y, e := tracer.Flush(x, 1); e != api.OK || zero(y) {
		t.Errorf("Flush: %d", e)
	}
}

func TestNextErrors(t *testing.T) {
	x := must(t)(tracer.Start(64, api.Snap{}))
	for i, s := range wrongSnaps() {
		if y, e := tracer.Next(x, s); !zero(y) || e != api.ErrArg {
			t.Errorf("wrong snapshot %d: %+v, %d", i, y, e)
		}
	}
}

// twin writes a trace by the chapter's words, with maps for what is interned.
type twin struct {
	size, gen int
	out       string
	names     map[string]int
	texts     []string
	stacks    []string
	frames    [][][2]int
	bufs      map[int]*api.Buf
}

func (w *twin) begin(x api.Snap) {
	w.gen++
	w.names, w.texts, w.stacks, w.frames, w.bufs = map[string]int{}, nil, nil, nil, map[int]*api.Buf{}
	w.out += batch.Encode(api.Batch{Gen: w.gen, Base: x.Time, Body: snap.Encode(x)})
}

func (w *twin) text(s string) int {
	if s != "" && w.names[s] == 0 {
		w.texts = append(w.texts, s)
		w.names[s] = len(w.texts)
	}
	return w.names[s]
}

func (w *twin) stack(l []api.Frame) int {
	if len(l) == 0 {
		return 0
	}
	var fs [][2]int
	for _, f := range l {
		fs = append(fs, [2]int{w.text(f.Func), f.Line})
	}
	if i := slices.Index(w.stacks, fmt.Sprint(fs)); i >= 0 {
		return i + 1
	}
	w.stacks, w.frames = append(w.stacks, fmt.Sprint(fs)), append(w.frames, fs)
	return len(w.stacks)
}

func (w *twin) put(l api.Log) {
	var args []int
	switch l.Kind {
	case 1, 10:
		args = []int{l.P, l.Seq}
	case 3:
		args = []int{l.G, w.stack(l.Stack)}
	case 4:
		args = []int{l.G, l.Seq}
	case 5, 6:
		why := w.text(l.Why)
		args = []int{why, w.stack(l.Stack)}
	case 7:
		args = []int{l.G, l.Seq, w.stack(l.Stack)}
	case 9:
		args = []int{w.stack(l.Stack)}
	}
	b := w.bufs[l.M]
	if b == nil {
		b = &api.Buf{M: l.M}
		w.bufs[l.M] = b
	}
	if b.Body == "" {
		b.Base, b.Last = l.Time, l.Time
	}
	b.Body += event.Encode(api.Event{Kind: l.Kind, Dt: l.Time - b.Last, Args: args})
	b.Last = l.Time
	if len(b.Body) >= w.size {
		w.seal(l.M)
	}
}

func (w *twin) seal(m int) {
	if b := w.bufs[m]; b != nil && b.Body != "" {
		w.out += batch.Encode(api.Batch{Gen: w.gen, Stream: m + 1, Base: b.Base, Body: b.Body})
		*b = api.Buf{M: m}
	}
}

func (w *twin) end() {
	for _, b := range w.list() {
		w.seal(b.M)
	}
	w.out += batch.Encode(api.Batch{Gen: w.gen, Stream: 1, Body: table.Encode(api.Table{Strings: w.texts, Stacks: w.frames})})
}

func (w *twin) list() []api.Buf {
	var out []api.Buf
	for _, b := range w.bufs {
		out = append(out, *b)
	}
	slices.SortFunc(out, func(a, b api.Buf) int { return a.M - b.M })
	return out
}

func (w *twin) tracer() api.Tracer {
	return api.Tracer{Size: w.size, Gen: w.gen, Out: w.out, Bufs: w.list(), Table: api.Table{Strings: w.texts, Stacks: w.frames}}
}

func TestTracesOfManyScripts(t *testing.T) {
	for n := range 80 {
		s := sample.State(n)
		if len(s.Gs) > 200 {
			continue
		}
		d := sample.NewDice(n)
		size := []int{1, 2, 10, 30, 64, 500, 4096}[n%7]
		x := must(t)(tracer.Start(size, sample.Snap(s)))
		w := &twin{size: size, out: "SHTL\x01"}
		w.begin(sample.Snap(s))
		for i, item := range sample.Items(n+50, 150) {
			for _, l := range sample.Do(&s, item) {
				x = must(t)(tracer.Put(x, l))
				w.put(l)
			}
			if d.Roll(8) == 0 {
				m := d.Roll(10)
				x = must(t)(tracer.Flush(x, m))
				w.seal(m)
			}
			if d.Roll(40) == 0 {
				x = must(t)(tracer.Next(x, sample.Snap(s)))
				w.end()
				w.begin(sample.Snap(s))
			}
			if !sameTracer(x, w.tracer()) {
				t.Fatalf("script %d, item %d: %+v, want %+v", n, i, x, w.tracer())
			}
		}
		out, e := tracer.Stop(x)
		w.end()
		if out != w.out || e != api.OK {
			t.Fatalf("script %d: %q, %d, want %q", n, out, e, w.out)
		}
	}
}

// streams are the events of each M and their times, as they stand in a trace of one generation.
func streams(t *testing.T, s string) map[int]string {
	out := map[int]string{}
	for at := 5; at < len(s); {
		b, next, e := batch.Decode(s, at)
		if e != api.OK {
			t.Fatalf("a batch at %d: %d", at, e)
		}
		at = next
		if b.Stream < 2 {
			continue
		}
		events, times, _, e := batch.Events(b)
		if e != api.OK {
			t.Fatalf("the events of stream %d: %d", b.Stream, e)
		}
		for i, x := range events {
			out[b.Stream] += fmt.Sprint(times[i], x.Kind, x.Args, ";")
		}
	}
	return out
}

func TestSizesAndFlushesDoNotChangeTheStreams(t *testing.T) {
	for n := range 30 {
		var want map[int]string
		for _, size := range []int{1, 5, 16, 200, 4096} {
			s := sample.State(n)
			x := must(t)(tracer.Start(size, sample.Snap(s)))
			d := sample.NewDice(size)
			for _, item := range sample.Items(n, 100) {
				for _, l := range sample.Do(&s, item) {
					x = must(t)(tracer.Put(x, l))
				}
				x = must(t)(tracer.Flush(x, d.Roll(30)))
			}
			out, _ := tracer.Stop(x)
			got := streams(t, out)
			if want == nil {
				want = got
			}
			if fmt.Sprint(got) != fmt.Sprint(want) {
				t.Fatalf("script %d, size %d: %v, want %v", n, size, got, want)
			}
		}
	}
}

// Any other tracer may answer anything, but every call ends.
func TestOtherTracers(t *testing.T) {
	for _, x := range []api.Tracer{
		{},
		{Size: -1, Gen: -5, Bufs: []api.Buf{{M: -3, Body: "x"}}},
		{Size: 10, Gen: math.MaxInt, Bufs: []api.Buf{{M: 5, Body: "x"}, {M: 2, Body: "\x08"}, {M: 5}}},
		{Size: 10, Gen: 1, Table: api.Table{Strings: []string{"", ""}}},
		{Size: math.MaxInt, Gen: 1, Bufs: []api.Buf{{M: 1, Base: -1, Last: math.MinInt, Body: strings.Repeat("x", 70000)}}},
	} {
		for k := range 12 {
			for _, m := range []int{-3, 0, 1, 2, 5, math.MaxInt} {
				tracer.Put(x, api.Log{Time: 5, M: m, Kind: k, Why: "w", Stack: at("f", 1)})
				tracer.Flush(x, m)
			}
		}
		tracer.Next(x, api.Snap{})
		tracer.Stop(x)
	}
}

func TestAnswersAreNewMemory(t *testing.T) {
	first := func() api.Tracer {
		x := must(t)(tracer.Start(64, api.Snap{}))
		for _, m := range []int{3, 8} {
			x = must(t)(tracer.Put(x, api.Log{Time: m, M: m, Kind: api.KBlock, Why: "why", Stack: at("f0", m)}))
		}
		return x
	}
	for i, do := range []func(api.Tracer) (api.Tracer, api.Errno){
		func(x api.Tracer) (api.Tracer, api.Errno) {
			return tracer.Put(x, api.Log{Time: 9, M: 3, Kind: api.KExit})
		},
		func(x api.Tracer) (api.Tracer, api.Errno) {
			return tracer.Put(x, api.Log{Time: 9, M: 5, Kind: api.KBlock, Why: "new", Stack: at("f1", 2)})
		},
		func(x api.Tracer) (api.Tracer, api.Errno) { return tracer.Flush(x, 3) },
		func(x api.Tracer) (api.Tracer, api.Errno) { return tracer.Flush(x, 4) },
		func(x api.Tracer) (api.Tracer, api.Errno) { return tracer.Next(x, api.Snap{}) },
	} {
		x := first()
		y := must(t)(do(x))
		if !sameTracer(x, first()) {
			t.Errorf("call %d changes its argument", i)
		}
		want := must(t)(do(first()))
		clear(x.Bufs)
		clear(x.Table.Strings)
		for _, l := range x.Table.Stacks {
			clear(l)
		}
		if !sameTracer(y, want) {
			t.Errorf("call %d: the answer shares memory with the argument", i)
		}
	}
	for k := 1; k <= 10; k++ {
		x := some()
		y, _, _ := tracer.Event(x, api.Log{Kind: k})
		clear(x.Strings)
		for _, l := range x.Stacks {
			clear(l)
		}
		if !sample.SameTable(y, some()) {
			t.Errorf("Event of kind %d shares memory with the table", k)
		}
	}
}
