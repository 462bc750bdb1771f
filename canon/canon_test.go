package canon_test

import (
	"math"
	"slices"
	"strconv"
	"strings"
	"testing"

	"shuttlecock/api"
	"shuttlecock/batch"
	"shuttlecock/canon"
	"shuttlecock/event"
	"shuttlecock/model"
	"shuttlecock/parse"
	"shuttlecock/sample"
	"shuttlecock/snap"
	"shuttlecock/tracer"
)

// parts are generations of what a script logs from a sample's state on.
func parts(n, length int) []api.Part {
	s := sample.State(n)
	d := sample.NewDice(n)
	out := []api.Part{{Snap: model.Of(s)}}
	for _, item := range sample.Items(n, length) {
		out[len(out)-1].Logs = append(out[len(out)-1].Logs, sample.Do(&s, item)...)
		if d.Roll(25) == 0 {
			out = append(out, api.Part{Snap: model.Of(s)})
		}
	}
	return out
}

// written is P26.1 in the chapter's words, by the tracer.
func written(l []api.Part, size int) (string, api.Errno) {
	if len(l) == 0 {
		return "", api.ErrArg
	}
	var t api.Tracer
	var e api.Errno
	for i, p := range l {
		if i == 0 {
			t, e = tracer.Start(size, p.Snap)
		} else {
			t, e = tracer.Next(t, p.Snap)
		}
		if e != api.OK {
			return "", e
		}
		for _, x := range p.Logs {
			if t, e = tracer.Put(t, x); e != api.OK {
				return "", e
			}
		}
	}
	return tracer.Stop(t)
}

func sameLogs(t *testing.T, a, b []api.Part, ms int) bool {
	t.Helper()
	of := func(l []api.Log, m int) []api.Log {
		return slices.DeleteFunc(slices.Clone(l), func(x api.Log) bool { return x.M != m })
	}
	return slices.EqualFunc(a, b, func(x, y api.Part) bool {
		for m := range ms {
			if !sample.SameLogs(of(x.Logs, m), of(y.Logs, m)) {
				return false
			}
		}
		return sample.SameSnap(x.Snap, y.Snap) && len(x.Logs) == len(y.Logs)
	})
}

func TestEncode(t *testing.T) {
	for n := range 80 {
		l := parts(n, 120)
		for _, size := range []int{1, 7, 64, 4096} {
			want, we := written(l, size)
			s, e := canon.Encode(l, size)
			if s != want || e != we || e != api.OK {
				t.Fatalf("script %d, size %d: %d bytes, %d, want %d, %d", n, size, len(s), e, len(want), we)
			}
			back, _, e := parse.All(s)
			if e != api.OK || !sameLogs(t, back, l, 40) {
				t.Fatalf("script %d, size %d: not read back: %d", n, size, e)
			}
		}
	}
	s, e := canon.Encode([]api.Part{{Snap: api.Snap{Time: 5}}, {Snap: api.Snap{Time: 6}}}, 64)
	if want := "SHTL\x01" + "B\x01\x00\x05\x03\x05\x00\x00" + "B\x01\x01\x00\x02\x00\x00" + "B\x02\x00\x06\x03\x06\x00\x00" + "B\x02\x01\x00\x02\x00\x00"; s != want || e != api.OK {
		t.Errorf("%q, %d, want %q", s, e, want)
	}
}

func TestEncodeErrors(t *testing.T) {
	good := api.Part{Snap: api.Snap{Time: 5}}
	wrong := api.Part{Snap: api.Snap{Time: -1}}
	exit := api.Log{Time: 5, M: 1, Kind: api.KExit}
	with := func(l ...api.Log) api.Part { return api.Part{Snap: good.Snap, Logs: l} }
	var long []api.Log
	for i := range 80 {
		long = append(long, api.Log{M: 1, Time: 5, Kind: api.KBlock, Why: strings.Repeat("x", 900) + strconv.Itoa(i)})
	}
	for i, c := range []struct {
		l    []api.Part
		size int
		want api.Errno
	}{
		{nil, 64, api.ErrArg},
		{[]api.Part{}, 64, api.ErrArg},
		{nil, 0, api.ErrArg},
		{[]api.Part{good}, 0, api.ErrArg},
		{[]api.Part{good}, -1, api.ErrArg},
		{[]api.Part{good}, 4097, api.ErrArg},
		{[]api.Part{good}, math.MinInt, api.ErrArg},
		{[]api.Part{good}, math.MaxInt, api.ErrArg},
		{[]api.Part{wrong}, 64, api.ErrArg},
		{[]api.Part{{Snap: wrong.Snap, Logs: []api.Log{{}}}}, 64, api.ErrArg},
		{[]api.Part{with(api.Log{})}, 0, api.ErrArg},
		{[]api.Part{with(api.Log{})}, 64, api.ErrTracer},
		{[]api.Part{with(exit, api.Log{Time: 5, M: 0, Kind: api.KExit})}, 64, api.ErrTracer},
		{[]api.Part{with(exit, api.Log{Time: 4, M: 1, Kind: api.KExit})}, 64, api.ErrTracer},
		{[]api.Part{good, wrong}, 64, api.ErrArg},
		{[]api.Part{good, wrong, with(api.Log{})}, 64, api.ErrArg},
		{[]api.Part{with(api.Log{}), wrong}, 64, api.ErrTracer},
		{[]api.Part{good, with(exit), with(exit, api.Log{M: 1})}, 64, api.ErrTracer},
		{[]api.Part{with(api.Log{Time: 5, M: math.MaxInt, Kind: api.KExit})}, 64, api.ErrTracer},
		{[]api.Part{with(api.Log{Time: 5, M: math.MaxInt, Kind: api.KExit}), good}, 64, api.ErrTracer},
		{[]api.Part{with(long...)}, 64, api.ErrTracer},
		{[]api.Part{with(long...), wrong}, 64, api.ErrArg},
	} {
		if s, e := canon.Encode(c.l, c.size); s != "" || e != c.want {
			t.Errorf("case %d: %d bytes, %d, want %d", i, len(s), e, c.want)
		}
	}
}

func TestAgain(t *testing.T) {
	for n := range 60 {
		l := parts(n, 100)
		s, e := written(l, 30)
		if e != api.OK {
			t.Fatal(e)
		}
		first, _, _ := parse.All(s)
		for _, size := range []int{1, 30, 500, 4096} {
			again, e := canon.Again(s, size)
			if want, we := written(first, size); again != want || e != we || e != api.OK {
				t.Fatalf("script %d, size %d: %d bytes, %d, want %d, %d", n, size, len(again), e, len(want), we)
			}
			back, _, e := parse.All(again)
			if e != api.OK || !sameLogs(t, back, l, 40) {
				t.Fatalf("script %d, size %d: not read back: %d", n, size, e)
			}
			if third, e := canon.Again(again, size); third != again || e != api.OK {
				t.Fatalf("script %d, size %d: written a third time: %d", n, size, e)
			}
		}
	}
}

func TestAgainWithoutExperimentalEvents(t *testing.T) {
	x := api.Snap{Time: 5, Ps: []api.PStat{{M: 1}}, Gs: []api.GStat{{G: 1, Status: 2, M: 1}}}
	odd := event.Encode(api.Event{Kind: 200, Dt: 3, Text: "odd"})
	body := odd + event.Encode(api.Event{Kind: api.KExit, Dt: 1}) + odd
	begin := "SHTL\x01" + batch.Encode(api.Batch{Gen: 1, Base: 5, Body: snap.Encode(x)})
	end := batch.Encode(api.Batch{Gen: 1, Stream: 1, Body: "\x00\x00"})
	s := begin + batch.Encode(api.Batch{Gen: 1, Stream: 2, Base: 6, Body: body}) + batch.Encode(api.Batch{Gen: 1, Stream: 9, Base: 6}) + end
	want := begin + batch.Encode(api.Batch{Gen: 1, Stream: 2, Base: 10, Body: "\x08\x00"}) + end
	if got, e := canon.Again(s, 64); got != want || e != api.OK {
		t.Errorf("%q, %d, want %q", got, e, want)
	}
}

func TestAgainErrors(t *testing.T) {
	s, _ := written(parts(3, 60), 64)
	for i, c := range []struct {
		s    string
		size int
		want api.Errno
	}{
		{"", 64, api.ErrShort},
		{"", 0, api.ErrShort},
		{"x", 64, api.ErrMagic},
		{"SHTL\x01", 64, api.ErrShort},
		{"SHTL\x01x", 64, api.ErrBatch},
		{s[:len(s)-1], 64, api.ErrShort},
		{s + "x", -1, api.ErrBatch},
		{s, 0, api.ErrArg},
		{s, 4097, api.ErrArg},
		{s, -1, api.ErrArg},
	} {
		if got, e := canon.Again(c.s, c.size); got != "" || e != c.want {
			t.Errorf("case %d: %d bytes, %d, want %d", i, len(got), e, c.want)
		}
	}
	for cut := range len(s) {
		_, _, want := parse.All(s[:cut])
		if got, e := canon.Again(s[:cut], 64); got != "" && e != api.OK || e != want {
			t.Fatalf("cut at %d: %d, want %d", cut, e, want)
		}
	}
}
