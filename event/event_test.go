package event_test

import (
	"math"
	"math/rand"
	"slices"
	"strings"
	"testing"

	"shuttlecock/api"
	"shuttlecock/event"
	"shuttlecock/kind"
	"shuttlecock/varint"
	"shuttlecock/wire"
)

func same(a, b api.Event) bool {
	return a.Kind == b.Kind && a.Dt == b.Dt && a.Text == b.Text && slices.Equal(a.Args, b.Args)
}

func zero(e api.Event) bool {
	return e.Kind == 0 && e.Dt == 0 && e.Text == "" && len(e.Args) == 0
}

// counts is how many arguments the kinds 1 to 10 have, by the chapter of kinds.
func counts() []int {
	return []int{0, 2, 0, 2, 2, 2, 2, 3, 0, 1, 2}
}

func ofKind(k int, n int) api.Event {
	return api.Event{Kind: k, Args: make([]int, n)}
}

func TestMay(t *testing.T) {
	for k := -3; k < 600; k++ {
		for n := range 6 {
			want := k >= 1 && k <= 10 && n == counts()[min(max(k, 0), 10)] || k >= 128 && k <= 255 && n == 0
			if event.May(ofKind(k, n)) != want {
				t.Errorf("May of kind %d with %d arguments = %v", k, n, !want)
			}
		}
	}
}

func TestMayNumbers(t *testing.T) {
	good := []int{0, 1, 127, 1 << 40, api.Most - 1}
	wrong := []int{-1, math.MinInt, api.Most, math.MaxInt}
	for k := 1; k <= 10; k++ {
		for _, n := range good {
			e := ofKind(k, counts()[k])
			e.Dt = n
			for i := range e.Args {
				e.Args[i] = n
			}
			if !event.May(e) {
				t.Errorf("%+v may not be", e)
			}
		}
		for _, n := range wrong {
			e := ofKind(k, counts()[k])
			for i := range e.Args {
				e.Args[i] = n
				if event.May(e) || event.Encode(e) != "" {
					t.Errorf("%+v may be", e)
				}
				e.Args[i] = 0
			}
			e.Dt = n
			if event.May(e) || event.Encode(e) != "" {
				t.Errorf("%+v may be", e)
			}
		}
	}
	for _, n := range wrong {
		if e := (api.Event{Kind: 200, Dt: n}); event.May(e) || event.Encode(e) != "" {
			t.Errorf("%+v may be", e)
		}
	}
	for _, n := range good {
		if e := (api.Event{Kind: 200, Dt: n, Text: "x"}); !event.May(e) {
			t.Errorf("%+v may not be", e)
		}
	}
}

func TestMayText(t *testing.T) {
	for k := 1; k <= 10; k++ {
		e := ofKind(k, counts()[k])
		e.Text = "a"
		if event.May(e) || event.Encode(e) != "" {
			t.Errorf("%+v may be", e)
		}
	}
	for _, k := range []int{128, 200, 255} {
		for _, text := range []string{"", "a", "\x00\xff", strings.Repeat("x", 70000)} {
			if e := (api.Event{Kind: k, Text: text}); !event.May(e) {
				t.Errorf("kind %d with %d bytes may not be", k, len(text))
			}
			if e := (api.Event{Kind: k, Text: text, Args: []int{0}}); event.May(e) || event.Encode(e) != "" {
				t.Errorf("kind %d with an argument may be", k)
			}
		}
	}
	if event.May(api.Event{}) || event.Encode(api.Event{}) != "" {
		t.Error("the zero event may be")
	}
}

// oracle is the encoding by the promise's words.
func oracle(e api.Event) string {
	s := string([]byte{byte(e.Kind)}) + varint.Put(e.Dt)
	if e.Kind >= 128 {
		return s + wire.Text(e.Text)
	}
	return s + wire.Nums(e.Args...)
}

func anyEvents() []api.Event {
	r := rand.New(rand.NewSource(4))
	num := func() int { return r.Intn(api.Most) >> r.Intn(62) }
	out := []api.Event{{Kind: 4, Dt: 300, Args: []int{7, 2}}, {Kind: 2, Dt: api.Most - 1}}
	for range 20 {
		for k := 1; k <= 10; k++ {
			e := api.Event{Kind: k, Dt: num()}
			for range counts()[k] {
				e.Args = append(e.Args, num())
			}
			out = append(out, e)
		}
		for _, k := range []int{128, 129, 128 + r.Intn(128), 255} {
			out = append(out, api.Event{Kind: k, Dt: num(), Text: strings.Repeat("\x04", r.Intn(300))})
		}
	}
	return out
}

func TestEncode(t *testing.T) {
	if s := event.Encode(api.Event{Kind: 4, Dt: 300, Args: []int{7, 2}}); s != "\x04\xac\x02\x07\x02" {
		t.Errorf("the chapter's example: %q", s)
	}
	for _, e := range anyEvents() {
		if s := event.Encode(e); s != oracle(e) {
			t.Errorf("Encode(%+v) = %q, want %q", e, s, oracle(e))
		}
	}
}

func TestDecodeReadsWhatEncodeWrote(t *testing.T) {
	for _, e := range anyEvents() {
		s := event.Encode(e)
		for _, before := range []string{"", "\x00", "\xff\x80\x80"} {
			for _, after := range []string{"", "\x00", "\x80"} {
				d, at, no := event.Decode(before+s+after, len(before))
				if !same(d, e) || at != len(before)+len(s) || no != api.OK {
					t.Errorf("Decode of %+v = %+v, %d, %d", e, d, at, no)
				}
			}
		}
	}
}

func TestDecodeInARow(t *testing.T) {
	s := strings.Builder{}
	for _, e := range anyEvents() {
		s.WriteString(event.Encode(e))
	}
	at := 0
	for _, e := range anyEvents() {
		d, next, no := event.Decode(s.String(), at)
		if !same(d, e) || no != api.OK {
			t.Fatalf("at %d: %+v, %d, want %+v", at, d, no, e)
		}
		at = next
	}
	if at != s.Len() {
		t.Errorf("ends at %d of %d", at, s.Len())
	}
}

func TestDecodeOfACutEvent(t *testing.T) {
	for _, e := range anyEvents() {
		s := event.Encode(e)
		for cut := range len(s) {
			if d, at, no := event.Decode("z"+s[:cut], 1); !zero(d) || at != 0 || no != api.ErrShort {
				t.Errorf("Decode(%q) = %+v, %d, %d", s[:cut], d, at, no)
			}
		}
	}
}

func TestDecodeErrors(t *testing.T) {
	for _, c := range []struct {
		s    string
		at   int
		want api.Errno
	}{
		{"", -1, api.ErrArg},
		{"", 1, api.ErrArg},
		{"\x02\x00", -1, api.ErrArg},
		{"\x02\x00", 3, api.ErrArg},
		{"\x02\x00", math.MinInt, api.ErrArg},
		{"\x02\x00", math.MaxInt, api.ErrArg},
		{"", 0, api.ErrShort},
		{"\x02\x00", 2, api.ErrShort},
		{"\x00", 0, api.ErrKind},
		{"\x0b", 0, api.ErrKind},
		{"\x0b\x80\x00", 0, api.ErrKind},
		{"\x7f\x00", 0, api.ErrKind},
		{"\x02\x00", 1, api.ErrKind},
		{"\x02", 0, api.ErrShort},
		{"\x02\x80", 0, api.ErrShort},
		{"\x02\x80\x00", 0, api.ErrLong},
		{"\x04\x80\x00\x80", 0, api.ErrLong},
		{"\x04\x00\x80\x00", 0, api.ErrLong},
		{"\x04\x00\x01\x80\x00", 0, api.ErrLong},
		{"\x04\x00\x01", 0, api.ErrShort},
		{"\x04\x00\x01\x80", 0, api.ErrShort},
		{"\x04\x00" + strings.Repeat("\xff", 9), 0, api.ErrLong},
		{"\x80", 0, api.ErrShort},
		{"\x80\x00", 0, api.ErrShort},
		{"\xff\x00\x05abcd", 0, api.ErrShort},
		{"\xff\x00\x85\x00abcde", 0, api.ErrLong},
		{"\xff\x80\x00\x01a", 0, api.ErrLong},
		{"\xff\x00" + varint.Put(api.Most-1), 0, api.ErrShort},
	} {
		if e, at, no := event.Decode(c.s, c.at); !zero(e) || at != 0 || no != c.want {
			t.Errorf("Decode(%q, %d) = %+v, %d, %d, want error %d", c.s, c.at, e, at, no, c.want)
		}
	}
}

func TestDecodeOfEachKind(t *testing.T) {
	for k := range 256 {
		s := string([]byte{byte(k)}) + strings.Repeat("\x00", 8)
		e, at, no := event.Decode(s, 0)
		switch {
		case k >= 1 && k <= 10:
			if e.Kind != k || len(e.Args) != counts()[k] || at != 2+counts()[k] || no != api.OK {
				t.Errorf("kind %d: %+v, %d, %d", k, e, at, no)
			}
		case k >= 128:
			if e.Kind != k || at != 3 || no != api.OK || !kind.Exp(e.Kind) {
				t.Errorf("kind %d: %+v, %d, %d", k, e, at, no)
			}
		default:
			if !zero(e) || at != 0 || no != api.ErrKind {
				t.Errorf("kind %d: %+v, %d, %d", k, e, at, no)
			}
		}
	}
}

func TestDecodeOfAnyBytes(t *testing.T) {
	r := rand.New(rand.NewSource(5))
	for range 20000 {
		b := make([]byte, r.Intn(12))
		for i := range b {
			b[i] = []byte{0, 1, 2, 3, 4, 7, 9, 10, 11, 127, 128, 200, 255, byte(r.Intn(256))}[r.Intn(14)]
		}
		e, at, no := event.Decode(string(b), 0)
		if no != api.OK {
			if !zero(e) || at != 0 {
				t.Fatalf("Decode(%q) = %+v, %d, %d", b, e, at, no)
			}
			continue
		}
		if !event.May(e) || event.Encode(e) != string(b[:at]) {
			t.Fatalf("Decode(%q) = %+v, %d", b, e, at)
		}
	}
}

func TestArgumentsStay(t *testing.T) {
	args := []int{7, 2}
	event.Encode(api.Event{Kind: 4, Args: args})
	event.May(api.Event{Kind: 4, Args: args})
	if !slices.Equal(args, []int{7, 2}) {
		t.Error("an argument is changed")
	}
}
