package split_test

import (
	"fmt"
	"slices"
	"strings"
	"testing"

	"shuttlecock/api"
	"shuttlecock/batch"
	"shuttlecock/event"
	"shuttlecock/model"
	"shuttlecock/sample"
	"shuttlecock/snap"
	"shuttlecock/split"
	"shuttlecock/table"
	"shuttlecock/tracer"
	"shuttlecock/wire"
)

func show(l []api.Gen) string {
	return fmt.Sprintf("%v", l)
}

// trace writes what a script does, in generations, and its length after each.
func trace(t *testing.T, n int) (string, []int) {
	t.Helper()
	s := sample.State(n)
	if len(s.Gs) > 60 {
		s = sample.State(n + 1)
	}
	d := sample.NewDice(n)
	x, e := tracer.Start(1+d.Roll(80), model.Of(s))
	var cuts []int
	for _, item := range sample.Items(n, 100) {
		for _, l := range sample.Do(&s, item) {
			if e == api.OK {
				x, e = tracer.Put(x, l)
			}
		}
		if d.Roll(25) == 0 && e == api.OK {
			x, e = tracer.Next(x, model.Of(s))
			cuts = append(cuts, len(x.Out)-len(batch.Encode(api.Batch{Gen: x.Gen, Base: s.Clock, Body: snap.Encode(model.Of(s))})))
		}
	}
	if e != api.OK {
		t.Fatalf("trace %d: %d", n, e)
	}
	out, e := tracer.Stop(x)
	if e != api.OK {
		t.Fatalf("trace %d: %d", n, e)
	}
	return out, append(cuts, len(out))
}

// twin splits by the chapter's rules, batch for batch.
func twin(s string) ([]api.Gen, int, api.Errno) {
	var out []api.Gen
	if _, e := wire.Head(s); e != api.OK {
		return nil, 0, e
	}
	var open *api.Gen
	for at := 5; at < len(s); {
		b, next, e := batch.Decode(s, at)
		switch {
		case e != api.OK:
		case open == nil:
			x, no := snap.Decode(b.Body)
			switch {
			case b.Stream != 0 || b.Gen != len(out)+1:
				e = api.ErrSplit
			case no != api.OK:
				e = no
			case b.Base != x.Time:
				e = api.ErrSplit
			}
			open = &api.Gen{Gen: b.Gen, At: at, Snap: x}
		case b.Gen != open.Gen || b.Stream == 0:
			e = api.ErrSplit
		case b.Stream == 1:
			open.Table, _, e = table.Decode(b.Body)
			if e == api.OK && b.Base != 0 {
				e = api.ErrSplit
			}
			if e == api.OK {
				out = append(out, *open)
				open = nil
			}
		default:
			e = add(open, b)
		}
		if e != api.OK {
			return out, at, e
		}
		at = next
	}
	if open != nil || len(out) == 0 {
		return out, len(s), api.ErrShort
	}
	return out, len(s), api.OK
}

// add appends a batch's events to its stream, which stays in its place among the others.
func add(g *api.Gen, b api.Batch) api.Errno {
	events, times, _, e := batch.Events(b)
	if e != api.OK {
		return e
	}
	i := 0
	for i < len(g.Streams) && g.Streams[i].M < b.Stream-1 {
		i++
	}
	there := i < len(g.Streams) && g.Streams[i].M == b.Stream-1
	last := g.Snap.Time
	if there && len(g.Streams[i].Times) > 0 {
		last = slices.Max(g.Streams[i].Times)
	}
	if b.Base < last {
		return api.ErrSplit
	}
	if !there {
		g.Streams = slices.Insert(g.Streams, i, api.Stream{M: b.Stream - 1})
	}
	g.Streams[i].Events = append(g.Streams[i].Events, events...)
	g.Streams[i].Times = append(g.Streams[i].Times, times...)
	return api.OK
}

func check(t *testing.T, name, s string) api.Errno {
	t.Helper()
	want, wat, we := twin(s)
	l, at, e := split.Salvage(s)
	if show(l) != show(want) || at != wat || e != we {
		t.Fatalf("%s: Salvage(%q) = %v, %d, %d, want %v, %d, %d", name, s, l, at, e, want, wat, we)
	}
	if we != api.OK {
		want = nil
	}
	l, at, e = split.All(s)
	if show(l) != show(want) || at != wat || e != we {
		t.Fatalf("%s: All(%q) = %v, %d, %d, want %v, %d, %d", name, s, l, at, e, want, wat, we)
	}
	return e
}

func TestTraces(t *testing.T) {
	most := 0
	for n := range 60 {
		s, cuts := trace(t, n)
		if e := check(t, "trace", s); e != api.OK {
			t.Fatalf("trace %d: %d", n, e)
		}
		l, _, _ := split.All(s)
		if len(l) != len(cuts) || l[0].At != 5 {
			t.Fatalf("trace %d: %d generations, want %d", n, len(l), len(cuts))
		}
		for i := 1; i < len(l); i++ {
			if l[i].At != cuts[i-1] || l[i].Gen != i+1 {
				t.Fatalf("trace %d: generation %d at %d, want %d", n, l[i].Gen, l[i].At, cuts[i-1])
			}
		}
		most = max(most, len(l))
	}
	if most < 5 {
		t.Errorf("at most %d generations", most)
	}
}

func TestTruncatedTraces(t *testing.T) {
	for n := range 6 {
		s, cuts := trace(t, n)
		whole, _, _ := split.All(s)
		for cut := range len(s) {
			check(t, "cut", s[:cut])
			done := 0
			for done < len(cuts) && cuts[done] <= cut {
				done++
			}
			l, at, e := split.Salvage(s[:cut])
			if show(l) != show(whole[:done]) || at < 0 || at > cut {
				t.Fatalf("trace %d, cut at %d: %d generations, want %d", n, cut, len(l), done)
			}
			if closed := slices.Contains(cuts, cut); closed != (e == api.OK) || !closed && e != api.ErrShort {
				t.Fatalf("trace %d, cut at %d: %d", n, cut, e)
			}
		}
	}
}

// b, sn, tb and ms are batches: any, a snapshot's at a time, a table's, and one of M m with events of the given Dts.
func b(gen, stream, base int, body string) string {
	return batch.Encode(api.Batch{Gen: gen, Stream: stream, Base: base, Body: body})
}

func sn(gen, time int) string {
	return b(gen, 0, time, snap.Encode(api.Snap{Time: time}))
}

func tb(gen int) string {
	return b(gen, 1, 0, "\x00\x00")
}

func ms(gen, m, base int, dts ...int) string {
	body := ""
	for _, dt := range dts {
		body += event.Encode(api.Event{Kind: 8, Dt: dt})
	}
	return b(gen, m+1, base, body)
}

const head = "SHTL\x01"

func TestErrors(t *testing.T) {
	for i, c := range []struct {
		good string
		bad  string
		want api.Errno
	}{
		{"", "", api.ErrShort},
		{"", "SHT", api.ErrShort},
		{"", "SHTL", api.ErrShort},
		{"", "SHTX", api.ErrMagic},
		{"", "XHTL\x01", api.ErrMagic},
		{"", "SHTL\x02" + sn(1, 0) + tb(1), api.ErrMagic},
		{head, "", api.ErrShort},
		{head, "x", api.ErrBatch},
		{head, "B", api.ErrShort},
		{head, "B\x80\x00", api.ErrLong},
		{head, sn(1, 5)[:4], api.ErrShort},
		{head, "B\x00\x00\x00\x00", api.ErrBatch},
		{head, tb(1), api.ErrSplit},
		{head, ms(1, 1, 0, 0), api.ErrSplit},
		{head, sn(2, 0), api.ErrSplit},
		{head, b(2, 0, 0, ""), api.ErrSplit},
		{head, b(1, 1, 0, "\x80\x00"), api.ErrSplit},
		{head, b(1, 0, 0, ""), api.ErrShort},
		{head, b(1, 0, 0, "\x00"), api.ErrShort},
		{head, b(1, 0, 0, "\x80\x00"), api.ErrLong},
		{head, b(1, 0, 0, "\x00\x00\x00\x00"), api.ErrSnap},
		{head, b(1, 0, 9, "\x00\x00\x00\x00"), api.ErrSnap},
		{head, b(1, 0, 0, "\x00\x41"), api.ErrSnap},
		{head, b(1, 0, 6, snap.Encode(api.Snap{Time: 5})), api.ErrSplit},
		{head, b(1, 0, 4, snap.Encode(api.Snap{Time: 5})), api.ErrSplit},
		{head, b(1, 0, 0, snap.Encode(api.Snap{Time: 5})), api.ErrSplit},
		{head + sn(1, 5), "", api.ErrShort},
		{head + sn(1, 5), sn(1, 5), api.ErrSplit},
		{head + sn(1, 5), sn(2, 5), api.ErrSplit},
		{head + sn(1, 5), tb(2), api.ErrSplit},
		{head + sn(1, 5), ms(2, 1, 5, 0), api.ErrSplit},
		{head + sn(1, 5), b(2, 1, 0, "\x80\x00"), api.ErrSplit},
		{head + sn(1, 5), b(2, 2, 5, "\x0b"), api.ErrSplit},
		{head + sn(1, 5), "C", api.ErrBatch},
		{head + sn(1, 5), b(1, 1, 0, ""), api.ErrShort},
		{head + sn(1, 5), b(1, 1, 0, "\x00\x80\x00"), api.ErrLong},
		{head + sn(1, 5), b(1, 1, 0, "\x00\x00\x00"), api.ErrTable},
		{head + sn(1, 5), b(1, 1, 7, "\x00\x00\x00"), api.ErrTable},
		{head + sn(1, 5), b(1, 1, 1, "\x00\x00"), api.ErrSplit},
		{head + sn(1, 5), b(1, 1, 5, "\x00\x00"), api.ErrSplit},
		{head + sn(1, 5), b(1, 2, 5, "\x0b"), api.ErrKind},
		{head + sn(1, 5), b(1, 2, 5, "\x08"), api.ErrShort},
		{head + sn(1, 5), b(1, 2, 5, "\x08\x80\x00"), api.ErrLong},
		{head + sn(1, 5), b(1, 2, 5, "\x08\x00\x08\x80\x00"), api.ErrLong},
		{head + sn(1, 5), b(1, 2, 4, "\x0b"), api.ErrKind},
		{head + sn(1, 5), b(1, 2, api.Most-1, "\x08\x01"), api.ErrLong},
		{head + sn(1, 5), ms(1, 1, 4, 0), api.ErrSplit},
		{head + sn(1, 5), ms(1, 1, 4, 1), api.ErrSplit},
		{head + sn(1, 5), ms(1, 1, 4), api.ErrSplit},
		{head + sn(1, 5) + ms(1, 1, 5, 0), ms(1, 2, 4, 0), api.ErrSplit},
		{head + sn(1, 5) + ms(1, 1, 5, 2, 3), ms(1, 1, 9, 0), api.ErrSplit},
		{head + sn(1, 5) + ms(1, 1, 5, 2, 3), ms(1, 1, 9), api.ErrSplit},
		{head + sn(1, 5) + ms(1, 1, 9), ms(1, 1, 4, 0), api.ErrSplit},
		{head + sn(1, 5) + ms(1, 1, 9, 0) + ms(1, 1, 20), ms(1, 1, 8), api.ErrSplit},
		{head + sn(1, 5) + ms(1, 1, 5, 2), "", api.ErrShort},
		{head + sn(1, 5) + tb(1), tb(1), api.ErrSplit},
		{head + sn(1, 5) + tb(1), sn(1, 5), api.ErrSplit},
		{head + sn(1, 5) + tb(1), sn(3, 5), api.ErrSplit},
		{head + sn(1, 5) + tb(1), ms(1, 1, 5, 0), api.ErrSplit},
		{head + sn(1, 5) + tb(1), ms(2, 1, 5, 0), api.ErrSplit},
		{head + sn(1, 5) + tb(1), "\x00", api.ErrBatch},
		{head + sn(1, 5) + tb(1) + sn(2, 7), tb(1), api.ErrSplit},
		{head + sn(1, 5) + tb(1) + sn(2, 7), ms(2, 1, 6, 0), api.ErrSplit},
		{head + sn(1, 5) + ms(1, 1, 50, 0) + tb(1) + sn(2, 7) + ms(2, 1, 7, 0), "", api.ErrShort},
	} {
		s := c.good + c.bad
		check(t, "case", s)
		l, at, e := split.Salvage(s)
		if at != len(c.good) || e != c.want || len(l) != strings.Count(c.good, tb(1)) {
			t.Errorf("case %d: Salvage = %v, %d, %d, want %d, %d", i, l, at, e, len(c.good), c.want)
		}
		if l, at, e := split.All(s); len(l) != 0 || at != len(c.good) || e != c.want {
			t.Errorf("case %d: All = %v, %d, %d, want %d, %d", i, l, at, e, len(c.good), c.want)
		}
		check(t, "case and more", s+"more")
	}
}

func TestGoodTraces(t *testing.T) {
	for i, c := range []struct{ s, want string }{
		{head + sn(1, 0) + tb(1), "[{1 5 {0 [] []} {[] []} []}]"},
		{head + sn(1, 5) + ms(1, 1, 5) + tb(1), "[{1 5 {5 [] []} {[] []} [{1 [] []}]}]"},
		{head + sn(1, 5) + ms(1, 7, 5, 0, 2) + ms(1, 3, 6, 0) + ms(1, 7, 7, 1) + tb(1), "[{1 5 {5 [] []} {[] []} [{3 [{8 0 [] }] [6]} {7 [{8 0 [] } {8 2 [] } {8 1 [] }] [5 7 8]}]}]"},
		{head + sn(1, 5) + ms(1, 1, 90) + ms(1, 1, 5, 0) + tb(1), "[{1 5 {5 [] []} {[] []} [{1 [{8 0 [] }] [5]}]}]"},
		{head + sn(1, 5) + tb(1) + sn(2, 3) + ms(2, 1, 3, 0) + tb(2), "[{1 5 {5 [] []} {[] []} []} {2 20 {3 [] []} {[] []} [{1 [{8 0 [] }] [3]}]}]"},
		{head + sn(1, 0) + b(1, 3, 0, "\xc8\x01\x02ab") + b(1, 1, 0, "\x01\x01\x01s\x00"), "[{1 5 {0 [] []} {[s] []} [{2 [{200 1 [] ab}] [1]}]}]"},
	} {
		check(t, "good", c.s)
		if l, at, e := split.All(c.s); show(l) != c.want || at != len(c.s) || e != api.OK {
			t.Errorf("case %d: %v, %d, %d, want %s", i, l, at, e, c.want)
		}
	}
}

// batches cuts a trace behind its header.
func batches(s string) []api.Batch {
	var out []api.Batch
	for at := 5; at < len(s); {
		b, next, e := batch.Decode(s, at)
		if e != api.OK {
			return out
		}
		out, at = append(out, b), next
	}
	return out
}

func TestSpoiltTraces(t *testing.T) {
	seen := map[api.Errno]int{}
	for n := range 40 {
		s, _ := trace(t, n)
		d := sample.NewDice(n)
		for range 150 {
			l := batches(s)
			for range 1 + d.Roll(2) {
				i := d.Roll(len(l))
				x := &l[i]
				switch d.Roll(8) {
				case 0:
					x.Gen += d.Roll(3) - 1
				case 1:
					x.Stream = max(0, x.Stream+d.Roll(3)-1)
				case 2:
					x.Base = max(0, x.Base+d.Roll(7)-3)
				case 3:
					j := d.Roll(len(l))
					l[i], l[j] = l[j], l[i]
				case 4:
					l = slices.Delete(l, i, i+1)
				case 5:
					l = slices.Insert(l, d.Roll(len(l)), l[i])
				default:
					body := []byte(x.Body)
					if len(body) > 0 {
						body[d.Roll(len(body))] = byte(d.Roll(256))
					}
					x.Body = string(body)
				}
				if len(l) == 0 {
					l = batches(s)
				}
			}
			out := head
			for _, x := range l {
				out += batch.Encode(x)
			}
			if d.Roll(4) == 0 {
				raw := []byte(out)
				raw[d.Roll(len(raw))] = byte(d.Roll(256))
				out = string(raw)
			}
			seen[check(t, "spoilt", out)]++
		}
	}
	for _, e := range []api.Errno{api.OK, api.ErrSplit, api.ErrShort, api.ErrSnap, api.ErrTable, api.ErrKind, api.ErrBatch, api.ErrMagic} {
		if seen[e] < 3 {
			t.Errorf("error %d came up %d times", e, seen[e])
		}
	}
}
