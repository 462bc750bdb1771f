package buf_test

import (
	"math"
	"slices"
	"strings"
	"testing"

	"shuttlecock/api"
	"shuttlecock/batch"
	"shuttlecock/buf"
	"shuttlecock/event"
	"shuttlecock/sample"
)

const most = api.Most - 1

func ev(kind int, args ...int) api.Event {
	return api.Event{Kind: kind, Args: args}
}

func withDt(e api.Event, dt int) api.Event {
	e.Dt = dt
	return e
}

func TestTheExample(t *testing.T) {
	b, ok1 := buf.Put(api.Buf{M: 3}, 100, ev(8))
	b, ok2 := buf.Put(b, 105, ev(4, 7, 2))
	want := api.Buf{M: 3, Base: 100, Last: 105, Body: "\x08\x00\x04\x05\x07\x02"}
	if b != want || !ok1 || !ok2 {
		t.Errorf("%+v, %v, %v", b, ok1, ok2)
	}
}

func TestPut(t *testing.T) {
	for i, c := range []struct {
		b    api.Buf
		time int
		e    api.Event
		want api.Buf
	}{
		{api.Buf{}, 0, ev(8), api.Buf{Body: "\x08\x00"}},
		{api.Buf{M: 5}, most, ev(8), api.Buf{M: 5, Base: most, Last: most, Body: "\x08\x00"}},
		{api.Buf{M: 5, Base: 9, Last: 50}, 7, ev(8), api.Buf{M: 5, Base: 7, Last: 7, Body: "\x08\x00"}},
		{api.Buf{M: 5, Base: -9, Last: -50}, 7, ev(8), api.Buf{M: 5, Base: 7, Last: 7, Body: "\x08\x00"}},
		{api.Buf{M: -5}, 7, ev(8), api.Buf{M: -5, Base: 7, Last: 7, Body: "\x08\x00"}},
		{api.Buf{M: 1}, 3, withDt(ev(8), 77), api.Buf{M: 1, Base: 3, Last: 3, Body: "\x08\x00"}},
		{api.Buf{M: 1}, 3, withDt(ev(8), -1), api.Buf{M: 1, Base: 3, Last: 3, Body: "\x08\x00"}},
		{api.Buf{M: 1, Base: 3, Last: 9, Body: "xyz"}, 9, ev(8), api.Buf{M: 1, Base: 3, Last: 9, Body: "xyz\x08\x00"}},
		{api.Buf{M: 1, Base: 3, Last: 9, Body: "xyz"}, 309, withDt(ev(8), 4), api.Buf{M: 1, Base: 3, Last: 309, Body: "xyz\x08\xac\x02"}},
		{api.Buf{M: 1, Base: 0, Last: 0, Body: "x"}, most, ev(8), api.Buf{M: 1, Last: most, Body: "x" + event.Encode(withDt(ev(8), most))}},
		{api.Buf{M: 1, Base: 3, Last: 9, Body: "x"}, 10, api.Event{Kind: 200, Text: "ab"}, api.Buf{M: 1, Base: 3, Last: 10, Body: "x\xc8\x01\x02ab"}},
		{api.Buf{M: 1, Last: 9, Body: strings.Repeat("x", 100000)}, 10, ev(8), api.Buf{M: 1, Last: 10, Body: strings.Repeat("x", 100000) + "\x08\x01"}},
	} {
		if b, ok := buf.Put(c.b, c.time, c.e); b != c.want || !ok {
			t.Errorf("case %d: %.200v, %v, want %.200v", i, b, ok, c.want)
		}
	}
}

func TestPutErrors(t *testing.T) {
	some := api.Buf{M: 1, Base: 3, Last: 9, Body: "xyz"}
	for i, c := range []struct {
		b    api.Buf
		time int
		e    api.Event
	}{
		{api.Buf{M: 1}, -1, ev(8)},
		{api.Buf{M: 1}, math.MinInt, ev(8)},
		{api.Buf{M: 1}, api.Most, ev(8)},
		{api.Buf{M: 1}, math.MaxInt, ev(8)},
		{some, -1, ev(8)},
		{some, api.Most, ev(8)},
		{some, 8, ev(8)},
		{some, 0, ev(8)},
		{some, 3, ev(8)},
		{api.Buf{M: 1, Last: most, Body: "x"}, most - 1, ev(8)},
		{api.Buf{M: 1, Last: api.Most, Body: "x"}, most, ev(8)},
		{api.Buf{M: 1, Last: math.MaxInt, Body: "x"}, most, ev(8)},
		{api.Buf{M: 1, Last: -1, Body: "x"}, most, ev(8)},
		{api.Buf{M: 1, Last: math.MinInt, Body: "x"}, 0, ev(8)},
		{api.Buf{M: 1, Last: math.MinInt, Body: "x"}, most, ev(8)},
		{api.Buf{M: 1, Last: math.MinInt / 2, Body: "x"}, most, ev(8)},
		{some, 10, ev(0)},
		{some, 10, ev(11)},
		{some, 10, ev(8, 1)},
		{some, 10, ev(4, 1)},
		{some, 10, ev(4, 1, -1)},
		{some, 10, ev(4, api.Most, 1)},
		{some, 10, api.Event{Kind: 8, Text: "a"}},
		{some, 10, api.Event{Kind: 200, Args: []int{1}}},
		{api.Buf{M: 1}, 10, ev(127)},
		{api.Buf{M: 1}, 10, ev(256)},
		{api.Buf{}, 10, api.Event{}},
	} {
		if b, ok := buf.Put(c.b, c.time, c.e); b != (api.Buf{}) || ok {
			t.Errorf("case %d: %+v, %v", i, b, ok)
		}
	}
}

func TestSeal(t *testing.T) {
	full := strings.Repeat("x", 65536)
	for i, b := range []api.Buf{
		{M: 1, Base: 3, Last: 9, Body: "xyz"},
		{M: 1, Body: "x"},
		{M: 700, Base: most, Last: 5, Body: "xyz"},
		{M: 700, Base: 5, Last: -5, Body: full},
		{M: most - 1, Base: 5, Last: 5, Body: "x"},
	} {
		for _, gen := range []int{1, 2, most} {
			out, rest, ok := buf.Seal(b, gen)
			want := api.Batch{Gen: gen, Stream: b.M + 1, Base: b.Base, Body: b.Body}
			if out != want || rest != (api.Buf{M: b.M}) || !ok {
				t.Errorf("case %d: %.100v, %+v, %v", i, out, rest, ok)
			}
		}
	}
	good := api.Buf{M: 1, Base: 3, Last: 9, Body: "xyz"}
	for i, c := range []struct {
		b   api.Buf
		gen int
	}{
		{good, 0},
		{good, -1},
		{good, api.Most},
		{good, math.MinInt},
		{good, math.MaxInt},
		{api.Buf{M: 1, Base: 3, Last: 9}, 1},
		{api.Buf{M: 1}, 1},
		{api.Buf{M: 0, Base: 3, Last: 9, Body: "xyz"}, 1},
		{api.Buf{M: -1, Base: 3, Last: 9, Body: "xyz"}, 1},
		{api.Buf{M: math.MinInt, Base: 3, Last: 9, Body: "xyz"}, 1},
		{api.Buf{M: most, Base: 3, Last: 9, Body: "xyz"}, 1},
		{api.Buf{M: math.MaxInt, Base: 3, Last: 9, Body: "xyz"}, 1},
		{api.Buf{M: 1, Base: -1, Last: 9, Body: "xyz"}, 1},
		{api.Buf{M: 1, Base: api.Most, Last: 9, Body: "xyz"}, 1},
		{api.Buf{M: 1, Base: 3, Last: 9, Body: full + "x"}, 1},
		{api.Buf{}, 1},
	} {
		if out, rest, ok := buf.Seal(c.b, c.gen); out != (api.Batch{}) || rest != (api.Buf{}) || ok {
			t.Errorf("wrong case %d: %.100v, %.100v, %v", i, out, rest, ok)
		}
	}
}

func TestFull(t *testing.T) {
	for _, n := range []int{0, 1, 5, 4096} {
		b := api.Buf{Body: strings.Repeat("x", n)}
		for _, size := range []int{n - 1, n, 0, -1, math.MinInt} {
			if size <= n && !buf.Full(b, size) {
				t.Errorf("%d bytes are not full for %d", n, size)
			}
		}
		for _, size := range []int{n + 1, n + 2, 1 << 40, math.MaxInt} {
			if buf.Full(b, size) {
				t.Errorf("%d bytes are full for %d", n, size)
			}
		}
	}
}

func TestWhatWasPutIsSealed(t *testing.T) {
	for n := range 200 {
		d := sample.NewDice(n)
		b := api.Buf{M: 1 + d.Roll(50)}
		m := b.M
		now := d.Roll(1000)
		for round := range 3 {
			var want []api.Event
			var times []int
			base := now
			for i := range 1 + d.Roll(30) {
				e := []api.Event{ev(8), ev(4, d.Roll(500), 2), ev(7, 1, d.Roll(300), 3), {Kind: 130, Text: "\x08\x00"}, ev(2)}[d.Roll(5)]
				next, ok := buf.Put(b, now, e)
				if !ok {
					t.Fatalf("round %d: Put at %d failed", round, now)
				}
				dt := 0
				if i > 0 {
					dt = now - times[i-1]
				}
				want, times = append(want, withDt(e, dt)), append(times, now)
				b = next
				now += d.Roll(2) * d.Roll(400)
			}
			out, rest, ok := buf.Seal(b, round+1)
			if !ok || out.Gen != round+1 || out.Stream != m+1 || out.Base != base || rest != (api.Buf{M: m}) {
				t.Fatalf("round %d: %+v, %+v, %v", round, out, rest, ok)
			}
			got, gotTimes, _, e := batch.Events(out)
			same := func(a, b api.Event) bool {
				return a.Kind == b.Kind && a.Dt == b.Dt && a.Text == b.Text && slices.Equal(a.Args, b.Args)
			}
			if e != api.OK || !slices.EqualFunc(got, want, same) || !slices.Equal(gotTimes, times) {
				t.Fatalf("round %d: %+v at %v, want %+v at %v", round, got, gotTimes, want, times)
			}
			b = rest
		}
	}
}

func TestArgumentsStay(t *testing.T) {
	e := withDt(ev(4, 7, 2), 55)
	buf.Put(api.Buf{M: 1, Last: 1, Body: "x"}, 9, e)
	if e.Dt != 55 || !slices.Equal(e.Args, []int{7, 2}) {
		t.Error("an argument is changed")
	}
}
