package parse_test

import (
	"slices"
	"testing"

	"shuttlecock/api"
	"shuttlecock/batch"
	"shuttlecock/event"
	"shuttlecock/merge"
	"shuttlecock/model"
	"shuttlecock/parse"
	"shuttlecock/sample"
	"shuttlecock/snap"
	"shuttlecock/split"
	"shuttlecock/table"
	"shuttlecock/tracer"
)

func sameParts(a, b []api.Part) bool {
	return slices.EqualFunc(a, b, func(x, y api.Part) bool { return sample.SameSnap(x.Snap, y.Snap) && sample.SameLogs(x.Logs, y.Logs) })
}

// traced is a trace of a script from a sample's state on, with what was logged in each generation, the snapshots and where generations end.
type traced struct {
	out   string
	logs  [][]api.Log
	snaps []api.Snap
	ends  []int
}

func trace(t *testing.T, n, size, length int) traced {
	t.Helper()
	s := sample.State(n)
	d := sample.NewDice(n)
	x, e := tracer.Start(size, model.Of(s))
	r := traced{logs: [][]api.Log{nil}, snaps: []api.Snap{model.Of(s)}}
	must := func(y api.Tracer, e api.Errno) {
		if e != api.OK {
			t.Fatalf("trace %d: %d", n, e)
		}
		x = y
	}
	must(x, e)
	for _, item := range sample.Items(n, length) {
		for _, l := range sample.Do(&s, item) {
			must(tracer.Put(x, l))
			r.logs[len(r.logs)-1] = append(r.logs[len(r.logs)-1], l)
		}
		if d.Roll(9) == 0 {
			must(tracer.Flush(x, d.Roll(9)))
		}
		if d.Roll(30) == 0 {
			now := model.Of(s)
			must(tracer.Next(x, now))
			begin := batch.Encode(api.Batch{Gen: x.Gen, Base: now.Time, Body: snap.Encode(now)})
			r.ends = append(r.ends, len(x.Out)-len(begin))
			r.logs, r.snaps = append(r.logs, nil), append(r.snaps, now)
		}
	}
	r.out, e = tracer.Stop(x)
	must(x, e)
	r.ends = append(r.ends, len(r.out))
	return r
}

func which(l []api.Log, ok func(api.Log) bool) []api.Log {
	var out []api.Log
	for _, x := range l {
		if ok(x) {
			out = append(out, x)
		}
	}
	return out
}

func TestEveryTraceIsAccepted(t *testing.T) {
	for n := range 150 {
		r := trace(t, n, []int{1, 3, 20, 64, 300, 4096}[n%6], 200)
		parts, at, e := parse.All(r.out)
		if e != api.OK || at != len(r.out) || len(parts) != len(r.logs) {
			t.Fatalf("trace %d: %d parts, %d, %d", n, len(parts), at, e)
		}
		for i, p := range parts {
			want := r.logs[i]
			if !sample.SameSnap(p.Snap, r.snaps[i]) || len(p.Logs) != len(want) {
				t.Fatalf("trace %d, part %d: %+v", n, i, p.Snap)
			}
			for k := 1; k < 70; k++ {
				for _, of := range []func(api.Log) bool{
					func(l api.Log) bool { return l.M == k },
					func(l api.Log) bool { return l.G == k },
					func(l api.Log) bool { return l.P == k },
				} {
					if got := which(p.Logs, of); !sample.SameLogs(got, which(want, of)) {
						t.Fatalf("trace %d, part %d, number %d: %+v, want %+v", n, i, k, got, which(want, of))
					}
				}
			}
		}
		again, at, e := parse.Salvage(r.out)
		if !sameParts(again, parts) || at != len(r.out) || e != api.OK {
			t.Fatalf("trace %d: Salvage: %d parts, %d, %d", n, len(again), at, e)
		}
		possible(t, n, parts)
	}
}

// possible checks that parts are transitions one after the other, at times that don't decrease.
func possible(t *testing.T, n int, parts []api.Part) {
	t.Helper()
	x := api.Snap{}
	for i, p := range parts {
		if i > 0 && (!slices.Equal(p.Snap.Ps, x.Ps) || !slices.Equal(p.Snap.Gs, x.Gs) || p.Snap.Time < x.Time) {
			t.Fatalf("trace %d, part %d: begins with %+v after %+v", n, i, p.Snap, x)
		}
		x = p.Snap
		for _, l := range p.Logs {
			next, ok := model.Apply(x, l)
			if !ok || l.Time < x.Time {
				t.Fatalf("trace %d, part %d: %+v is not possible", n, i, l)
			}
			x = next
		}
	}
}

func TestTruncatedTraces(t *testing.T) {
	for n := range 5 {
		r := trace(t, n, 10+n*20, 80)
		whole, _, _ := parse.All(r.out)
		for cut := range len(r.out) {
			done := 0
			for done < len(r.ends) && r.ends[done] <= cut {
				done++
			}
			parts, at, e := parse.Salvage(r.out[:cut])
			_, wat, we := split.Salvage(r.out[:cut])
			if !sameParts(parts, whole[:done]) || at != wat || e != we || at < 0 || at > cut {
				t.Fatalf("trace %d, cut at %d: %d parts, %d, %d, want %d, %d, %d", n, cut, len(parts), at, e, done, wat, we)
			}
			if we != api.OK {
				done = 0
			}
			if parts, at, e := parse.All(r.out[:cut]); !sameParts(parts, whole[:done]) || at != wat || e != we {
				t.Fatalf("trace %d, cut at %d: All: %d parts, %d, %d", n, cut, len(parts), at, e)
			}
		}
	}
}

// twin is the chapter's words, by split and merge.
func twin(s string, all bool) ([]api.Part, int, api.Errno) {
	gens, at, e := split.Salvage(s)
	if all && e != api.OK {
		return nil, at, e
	}
	var out []api.Part
	var last api.Snap
	for i, g := range gens {
		logs, end, _, no := merge.Gen(g)
		if i > 0 && (g.Snap.Time < last.Time || !slices.Equal(g.Snap.Ps, last.Ps) || !slices.Equal(g.Snap.Gs, last.Gs)) {
			no = api.ErrParse
		}
		if no != api.OK {
			if all {
				out = nil
			}
			return out, g.At, no
		}
		out, last = append(out, api.Part{Snap: g.Snap, Logs: logs}), end
	}
	return out, at, e
}

func check(t *testing.T, name, s string) api.Errno {
	t.Helper()
	parts, at, e := parse.All(s)
	want, wat, we := twin(s, true)
	if !sameParts(parts, want) || at != wat || e != we {
		t.Fatalf("%s: All(%q) = %+v, %d, %d, want %+v, %d, %d", name, s, parts, at, e, want, wat, we)
	}
	if at < 0 || at > len(s) || e != api.OK && len(parts) > 0 {
		t.Fatalf("%s: All(%q) = %d parts, %d, %d", name, s, len(parts), at, e)
	}
	possible(t, 0, parts)
	parts, at, no := parse.Salvage(s)
	want, wat, we = twin(s, false)
	if !sameParts(parts, want) || at != wat || no != we {
		t.Fatalf("%s: Salvage(%q) = %+v, %d, %d, want %+v, %d, %d", name, s, parts, at, no, want, wat, we)
	}
	possible(t, 0, parts)
	return e
}

const head = "SHTL\x01"

func begin(gen int, x api.Snap) string {
	return batch.Encode(api.Batch{Gen: gen, Base: x.Time, Body: snap.Encode(x)})
}

func end(gen int, names ...string) string {
	return batch.Encode(api.Batch{Gen: gen, Stream: 1, Body: table.Encode(api.Table{Strings: names})})
}

func ms(gen, m, base int, events ...api.Event) string {
	body := ""
	for _, e := range events {
		body += event.Encode(e)
	}
	return batch.Encode(api.Batch{Gen: gen, Stream: m + 1, Base: base, Body: body})
}

// one has P 1 on M 1, which runs G 1; ended is what is left of it when G 1 has ended.
func one(time int) api.Snap {
	return api.Snap{Time: time, Ps: []api.PStat{{M: 1, Seq: 1}}, Gs: []api.GStat{{G: 1, Status: 2, M: 1, Seq: 1}}}
}

func ended(time int) api.Snap {
	return api.Snap{Time: time, Ps: []api.PStat{{M: 1, Seq: 1}}}
}

func TestErrors(t *testing.T) {
	exit := api.Event{Kind: api.KExit}
	first := head + begin(1, one(5)) + ms(1, 1, 7, exit) + end(1)
	stuck := head + begin(1, one(5)) + ms(1, 2, 7, exit) + end(1)
	auto := head + begin(1, one(5)) + ms(1, 1, 7, api.Event{Kind: api.KBlock, Args: []int{2, 0}}) + end(1, "a")
	changed := func(do func(*api.Snap)) api.Snap {
		x := ended(7)
		do(&x)
		return x
	}
	for i, c := range []struct {
		s         string
		parts, at int
		all       int
		e, whole  api.Errno
	}{
		{"", 0, 0, 0, api.ErrShort, api.ErrShort},
		{"x", 0, 0, 0, api.ErrMagic, api.ErrMagic},
		{head, 0, 5, 5, api.ErrShort, api.ErrShort},
		{stuck, 0, 5, 5, api.ErrStuck, api.ErrStuck},
		{auto, 0, 5, 5, api.ErrAuto, api.ErrAuto},
		{stuck + "x", 0, 5, len(stuck), api.ErrStuck, api.ErrBatch},
		{auto + begin(2, ended(7)), 0, 5, len(auto) + len(begin(2, ended(7))), api.ErrAuto, api.ErrShort},
		{first + "x", 1, len(first), len(first), api.ErrBatch, api.ErrBatch},
		{first + begin(2, ended(6)) + end(2), 1, len(first), len(first), api.ErrParse, api.ErrParse},
		{first + begin(2, ended(0)) + end(2), 1, len(first), len(first), api.ErrParse, api.ErrParse},
		{first + begin(2, one(7)) + end(2), 1, len(first), len(first), api.ErrParse, api.ErrParse},
		{first + begin(2, changed(func(x *api.Snap) { x.Ps[0].Seq = 2 })) + end(2), 1, len(first), len(first), api.ErrParse, api.ErrParse},
		{first + begin(2, changed(func(x *api.Snap) { x.Ps[0].M = 2 })) + end(2), 1, len(first), len(first), api.ErrParse, api.ErrParse},
		{first + begin(2, changed(func(x *api.Snap) { x.Ps = append(x.Ps, api.PStat{}) })) + end(2), 1, len(first), len(first), api.ErrParse, api.ErrParse},
		{first + begin(2, changed(func(x *api.Snap) { x.Ps = nil })) + end(2), 1, len(first), len(first), api.ErrParse, api.ErrParse},
		{first + begin(2, changed(func(x *api.Snap) { x.Gs = []api.GStat{{G: 2, Status: 1}} })) + end(2), 1, len(first), len(first), api.ErrParse, api.ErrParse},
		{first + begin(2, one(7)) + ms(2, 2, 7, exit) + end(2), 1, len(first), len(first), api.ErrParse, api.ErrParse},
		{first + begin(2, one(7)) + end(2) + "x", 1, len(first), len(first) + len(begin(2, one(7))+end(2)), api.ErrParse, api.ErrBatch},
		{first + begin(2, ended(7)) + ms(2, 1, 7, exit) + end(2), 1, len(first), len(first), api.ErrStuck, api.ErrStuck},
		{first + begin(2, ended(7)) + ms(2, 1, 7, api.Event{Kind: api.KSysEnter, Args: []int{1}}) + end(2), 1, len(first), len(first), api.ErrAuto, api.ErrAuto},
		{first + begin(2, ended(7)) + end(2) + begin(3, ended(6)) + end(3), 2, len(first) + len(begin(2, ended(7))+end(2)), len(first) + len(begin(2, ended(7))+end(2)), api.ErrParse, api.ErrParse},
	} {
		check(t, "case", c.s)
		parts, at, e := parse.Salvage(c.s)
		if len(parts) != c.parts || at != c.at || e != c.e {
			t.Errorf("case %d: Salvage: %d parts, %d, %d, want %d, %d, %d", i, len(parts), at, e, c.parts, c.at, c.e)
		}
		parts, at, e = parse.All(c.s)
		if len(parts) != 0 || at != c.all || e != c.whole {
			t.Errorf("case %d: All: %d parts, %d, %d, want %d, %d", i, len(parts), at, e, c.all, c.whole)
		}
	}
	good := first + begin(2, ended(90)) + end(2)
	parts, at, e := parse.All(good)
	want := []api.Part{{Snap: one(5), Logs: []api.Log{{Time: 7, M: 1, Kind: api.KExit, G: 1}}}, {Snap: ended(90)}}
	if !sameParts(parts, want) || at != len(good) || e != api.OK {
		t.Errorf("%+v, %d, %d", parts, at, e)
	}
}

func TestSpoiltTraces(t *testing.T) {
	seen := map[api.Errno]int{}
	for n := range 30 {
		if n%10 == 9 {
			continue
		}
		r := trace(t, n, 16, 60)
		d := sample.NewDice(n)
		for range 120 {
			raw := []byte(r.out)
			for range 1 + d.Roll(2) {
				switch i := 5 + d.Roll(len(raw)-5); d.Roll(3) {
				case 0:
					raw[i] = byte(d.Roll(256))
				case 1:
					raw[i]++
				default:
					raw[i] ^= 1
				}
			}
			seen[check(t, "spoilt", string(raw))]++
		}
	}
	for _, e := range []api.Errno{api.OK, api.ErrAuto, api.ErrStuck, api.ErrParse, api.ErrSplit, api.ErrShort} {
		if seen[e] < 3 {
			t.Errorf("error %d came up %d times", e, seen[e])
		}
	}
}

func TestLogs(t *testing.T) {
	if l := parse.Logs(nil); len(l) != 0 {
		t.Errorf("%+v", l)
	}
	stack := []api.Frame{{Func: "f", Line: 3}}
	parts := []api.Part{{}, {Snap: one(5), Logs: []api.Log{{Time: 9, M: 1}, {Time: 3, Why: "w", Stack: stack}}}, {}, {Logs: []api.Log{{Kind: 77}}}}
	want := []api.Log{{Time: 9, M: 1}, {Time: 3, Why: "w", Stack: slices.Clone(stack)}, {Kind: 77}}
	l := parse.Logs(parts)
	if !sample.SameLogs(l, want) {
		t.Errorf("%+v, want %+v", l, want)
	}
	stack[0].Line = 99
	parts[1].Logs[0].Time = 99
	if !sample.SameLogs(l, want) {
		t.Error("the answer shares memory with the argument")
	}
	for n := range 20 {
		r := trace(t, n, 64, 100)
		parts, _, _ := parse.All(r.out)
		var all []api.Log
		for _, p := range parts {
			all = append(all, p.Logs...)
		}
		if got := parse.Logs(parts); !sample.SameLogs(got, all) {
			t.Fatalf("trace %d: %d entries, want %d", n, len(got), len(all))
		}
	}
}
