package batch_test

import (
	"fmt"
	"math"
	"math/rand"
	"slices"
	"strings"
	"testing"

	"shuttlecock/api"
	"shuttlecock/batch"
	"shuttlecock/event"
	"shuttlecock/varint"
	"shuttlecock/wire"
)

func full(n int) string {
	return strings.Repeat("b", n)
}

func good() []api.Batch {
	out := []api.Batch{
		{Gen: 1},
		{Gen: 1, Stream: 0, Base: 5, Body: "x"},
		{Gen: 2, Stream: 1, Base: 0, Body: "\x00\xff"},
		{Gen: api.Most - 1, Stream: api.Most - 1, Base: api.Most - 1, Body: full(127)},
		{Gen: 1, Stream: 2, Base: 100, Body: full(128)},
		{Gen: 300, Stream: 300, Base: 300, Body: full(65535)},
		{Gen: 1, Stream: 2, Base: 3, Body: full(65536)},
	}
	r := rand.New(rand.NewSource(6))
	for range 100 {
		out = append(out, api.Batch{Gen: 1 + r.Intn(api.Most-1)>>r.Intn(62), Stream: r.Intn(api.Most) >> r.Intn(62), Base: r.Intn(api.Most) >> r.Intn(62), Body: full(r.Intn(300))})
	}
	return out
}

func wrong() []api.Batch {
	return []api.Batch{
		{},
		{Gen: 0, Stream: 1, Base: 1, Body: "x"},
		{Gen: -1},
		{Gen: math.MinInt},
		{Gen: api.Most},
		{Gen: math.MaxInt},
		{Gen: 1, Stream: -1},
		{Gen: 1, Stream: api.Most},
		{Gen: 1, Stream: math.MinInt},
		{Gen: 1, Base: -1},
		{Gen: 1, Base: api.Most},
		{Gen: 1, Base: math.MaxInt},
		{Gen: 1, Body: full(65537)},
		{Gen: 1, Stream: 2, Base: 3, Body: full(200000)},
	}
}

func TestMayAndEncode(t *testing.T) {
	for _, b := range good() {
		if !batch.May(b) {
			t.Errorf("%d, %d, %d with %d bytes may not be", b.Gen, b.Stream, b.Base, len(b.Body))
		}
		want := "B" + varint.Put(b.Gen) + varint.Put(b.Stream) + varint.Put(b.Base) + varint.Put(len(b.Body)) + b.Body
		if got := batch.Encode(b); got != want {
			t.Errorf("Encode of %d, %d, %d with %d bytes = %.40q", b.Gen, b.Stream, b.Base, len(b.Body), got)
		}
	}
	for i, b := range wrong() {
		if batch.May(b) || batch.Encode(b) != "" {
			t.Errorf("wrong batch %d may be", i)
		}
	}
}

func TestDecodeReadsWhatEncodeWrote(t *testing.T) {
	for _, b := range good() {
		s := batch.Encode(b)
		for _, before := range []string{"", "B", "\xff\xff"} {
			for _, after := range []string{"", "B", "\x80"} {
				d, at, e := batch.Decode(before+s+after, len(before))
				if d != b || at != len(before)+len(s) || e != api.OK {
					t.Errorf("batch %d, %d, %d: at %d, error %d", b.Gen, b.Stream, b.Base, at, e)
				}
			}
		}
	}
}

func TestDecodeOfACutBatch(t *testing.T) {
	for _, b := range good() {
		s := batch.Encode(b)
		for cut := 0; cut < len(s); cut += 1 + len(s)/200 {
			if d, at, e := batch.Decode(s[:cut], 0); d != (api.Batch{}) || at != 0 || e != api.ErrShort {
				t.Errorf("cut at %d of %d: %d, %d", cut, len(s), at, e)
			}
		}
	}
}

func TestDecodeErrors(t *testing.T) {
	for _, c := range []struct {
		s    string
		at   int
		want api.Errno
	}{
		{"", -1, api.ErrArg},
		{"", 1, api.ErrArg},
		{"B\x01\x00\x00\x00", -1, api.ErrArg},
		{"B\x01\x00\x00\x00", 6, api.ErrArg},
		{"B\x01\x00\x00\x00", math.MinInt, api.ErrArg},
		{"B\x01\x00\x00\x00", math.MaxInt, api.ErrArg},
		{"", 0, api.ErrShort},
		{"B\x01\x00\x00\x00", 5, api.ErrShort},
		{"A\x01\x00\x00\x00", 0, api.ErrBatch},
		{"b\x01\x00\x00\x00", 0, api.ErrBatch},
		{"\x00", 0, api.ErrBatch},
		{"B\x01\x00\x00\x00", 1, api.ErrBatch},
		{"C\x80\x00", 0, api.ErrBatch},
		{"B", 0, api.ErrShort},
		{"B\x81", 0, api.ErrShort},
		{"B\x81\x00\x00\x00\x00", 0, api.ErrLong},
		{"B\x01\x80\x00\x00\x00", 0, api.ErrLong},
		{"B\x01\x00\x80\x00\x00", 0, api.ErrLong},
		{"B\x01\x00\x00\x80\x00", 0, api.ErrLong},
		{"B\x01\x00\x00\x03ab", 0, api.ErrShort},
		{"B\x00\x00\x00\x03ab", 0, api.ErrShort},
		{"B\x00\x00\x00\x80\x00", 0, api.ErrLong},
		{"B\x00\x00\x00\x00", 0, api.ErrBatch},
		{"B\x00\x00\x00\x02ab", 0, api.ErrBatch},
		{"B" + wire.Nums(1, 2, 3) + wire.Text(full(65537)), 0, api.ErrBatch},
		{"B" + wire.Nums(1, 2, 3, 65537) + full(65536), 0, api.ErrShort},
		{"B" + wire.Nums(1, 2, 3, api.Most-1) + full(10), 0, api.ErrShort},
	} {
		if b, at, e := batch.Decode(c.s, c.at); b != (api.Batch{}) || at != 0 || e != c.want {
			t.Errorf("Decode(%.40q, %d) = %d, %d, want error %d", c.s, c.at, at, e, c.want)
		}
	}
}

func TestDecodeOfAnyBytes(t *testing.T) {
	r := rand.New(rand.NewSource(7))
	for range 20000 {
		b := make([]byte, r.Intn(10))
		for i := range b {
			b[i] = []byte{'B', 0, 1, 2, 3, 127, 128, 255}[r.Intn(8)]
		}
		if len(b) > 0 && r.Intn(4) > 0 {
			b[0] = 'B'
		}
		d, at, e := batch.Decode(string(b), 0)
		if e == api.OK && (!batch.May(d) || batch.Encode(d) != string(b[:at])) || e != api.OK && (d != api.Batch{} || at != 0) {
			t.Fatalf("Decode(%q) = %+v, %d, %d", b, d, at, e)
		}
	}
}

// body is the encoding of events of kind procstop, or of the kinds that follow it, with these Dts.
func body(dts ...int) (string, []api.Event) {
	s, events := strings.Builder{}, []api.Event(nil)
	for i, dt := range dts {
		e := []api.Event{{Kind: 2, Dt: dt}, {Kind: 4, Dt: dt, Args: []int{i, 2}}, {Kind: 200, Dt: dt, Text: "\x02\x00"}, {Kind: 7, Dt: dt, Args: []int{1, 300, i}}}[i%4]
		events = append(events, e)
		s.WriteString(event.Encode(e))
	}
	return s.String(), events
}

func show(l []api.Event) string {
	s := ""
	for _, e := range l {
		s += fmt.Sprintf("(%d %d %v %q)", e.Kind, e.Dt, e.Args, e.Text)
	}
	return s
}

func TestEvents(t *testing.T) {
	for _, c := range []struct {
		base  int
		dts   []int
		times []int
	}{
		{0, nil, nil},
		{100, nil, nil},
		{100, []int{5, 0}, []int{105, 105}},
		{0, []int{0}, []int{0}},
		{7, []int{0, 1, 2, 3, 0, 300}, []int{7, 8, 10, 13, 13, 313}},
		{api.Most - 1, []int{0, 0}, []int{api.Most - 1, api.Most - 1}},
		{0, []int{api.Most - 1, 0}, []int{api.Most - 1, api.Most - 1}},
		{api.Most - 11, []int{4, 6}, []int{api.Most - 7, api.Most - 1}},
	} {
		s, want := body(c.dts...)
		for _, stream := range []int{0, 1, 2, 9} {
			events, times, at, e := batch.Events(api.Batch{Gen: 1, Stream: stream, Base: c.base, Body: s})
			if show(events) != show(want) || !slices.Equal(times, c.times) || at != 0 || e != api.OK {
				t.Errorf("base %d, %v: %s, %v, %d, %d", c.base, c.dts, show(events), times, at, e)
			}
		}
	}
}

func TestEventsOfAnyDts(t *testing.T) {
	r := rand.New(rand.NewSource(8))
	for range 300 {
		base, now := r.Intn(1<<40), 0
		var dts, wanted []int
		now = base
		for range r.Intn(60) {
			dts = append(dts, r.Intn(1<<40)>>r.Intn(41))
			now += dts[len(dts)-1]
			wanted = append(wanted, now)
		}
		s, want := body(dts...)
		events, times, at, e := batch.Events(api.Batch{Gen: 3, Stream: 2, Base: base, Body: s})
		if show(events) != show(want) || !slices.Equal(times, wanted) || at != 0 || e != api.OK {
			t.Fatalf("base %d, %v: %v, %d, %d", base, dts, times, at, e)
		}
		if !slices.IsSorted(times) {
			t.Fatalf("times decrease: %v", times)
		}
	}
}

func TestEventsErrors(t *testing.T) {
	three, _ := body(1, 2, 3)
	two, _ := body(1, 2)
	far, _ := body(1, 2, api.Most-4)
	for i, c := range []struct {
		b    api.Batch
		at   int
		want api.Errno
	}{
		{api.Batch{Gen: 1, Body: three + "\x00"}, len(three), api.ErrKind},
		{api.Batch{Gen: 1, Body: "\x0b" + three}, 0, api.ErrKind},
		{api.Batch{Gen: 1, Body: three[:len(three)-1]}, len(two), api.ErrShort},
		{api.Batch{Gen: 1, Body: three + "\x02\x80\x00"}, len(three), api.ErrLong},
		{api.Batch{Gen: 1, Body: three + "\x02"}, len(three), api.ErrShort},
		{api.Batch{Gen: 1, Base: 1, Body: far}, len(two), api.ErrLong},
		{api.Batch{Gen: 1, Base: api.Most - 1, Body: "\x02\x01"}, 0, api.ErrLong},
		{api.Batch{Gen: 1, Base: api.Most - 1, Body: "\x02\x00\x02\x01\x00"}, 2, api.ErrLong},
		{api.Batch{Gen: 1, Base: api.Most - 1, Body: event.Encode(api.Event{Kind: 2, Dt: api.Most - 1})}, 0, api.ErrLong},
		{api.Batch{Gen: 1, Base: api.Most - 1, Body: "\xff\x01\x00"}, 0, api.ErrLong},
		{api.Batch{Gen: 1, Base: api.Most - 1, Body: "\xff\x01\x01"}, 0, api.ErrShort},
	} {
		events, times, at, e := batch.Events(c.b)
		if len(events) != 0 || len(times) != 0 || at != c.at || e != c.want {
			t.Errorf("case %d: %d events, %v, %d, %d, want %d, %d", i, len(events), times, at, e, c.at, c.want)
		}
	}
	if events, times, at, e := batch.Events(api.Batch{Gen: 1, Body: far}); len(events) != 3 || times[2] != api.Most-1 || at != 0 || e != api.OK {
		t.Errorf("the greatest time: %v, %d, %d", times, at, e)
	}
	for i, b := range wrong() {
		if events, times, at, e := batch.Events(b); len(events) != 0 || len(times) != 0 || at != 0 || e != api.ErrBatch {
			t.Errorf("wrong batch %d: %d, %d", i, at, e)
		}
	}
	if _, _, at, e := batch.Events(api.Batch{Body: three + "\x00"}); at != 0 || e != api.ErrBatch {
		t.Errorf("a wrong batch with a wrong body: %d, %d", at, e)
	}
}

func TestEventsOfAFullBody(t *testing.T) {
	events, times, at, e := batch.Events(api.Batch{Gen: 1, Base: 9, Body: strings.Repeat("\x02\x01", 32768)})
	if len(events) != 32768 || len(times) != 32768 || at != 0 || e != api.OK || times[32767] != 9+32768 {
		t.Errorf("%d events, %d times, %d, %d", len(events), len(times), at, e)
	}
}
