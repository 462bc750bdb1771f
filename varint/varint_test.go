package varint_test

import (
	"math"
	"math/rand"
	"strings"
	"testing"

	"shuttlecock/api"
	"shuttlecock/varint"
)

// edges are the numbers about which an encoding's length changes, and those about the greatest one.
func edges() []int {
	out := []int{0, 1, 2, 63, 64, 100, 300, api.Most - 2, api.Most - 1}
	for bits := 7; bits < 62; bits += 7 {
		out = append(out, 1<<bits-1, 1<<bits, 1<<bits+1)
	}
	r := rand.New(rand.NewSource(1))
	for range 2000 {
		out = append(out, r.Intn(api.Most)>>r.Intn(62))
	}
	return out
}

// oracle encodes by the promise's words: bits in a row, cut in groups from the lowest on.
func oracle(n int) string {
	var groups []byte
	for {
		groups = append(groups, byte(n&127))
		n >>= 7
		if n == 0 {
			break
		}
	}
	for i := range groups[:len(groups)-1] {
		groups[i] |= 128
	}
	return string(groups)
}

func TestPutAndLen(t *testing.T) {
	for _, n := range edges() {
		want := oracle(n)
		if s := varint.Put(n); s != want {
			t.Errorf("Put(%d) = %q, want %q", n, s, want)
		}
		if l := varint.Len(n); l != len(want) {
			t.Errorf("Len(%d) = %d, want %d", n, l, len(want))
		}
	}
	if s := varint.Put(300); s != "\xac\x02" {
		t.Errorf("Put(300) = %q", s)
	}
	if s := varint.Put(0); s != "\x00" {
		t.Errorf("Put(0) = %q", s)
	}
	if s := varint.Put(api.Most - 1); s != strings.Repeat("\xff", 8)+"\x3f" {
		t.Errorf("Put of the greatest number = %q", s)
	}
}

func TestPutAndLenOfWrongNumbers(t *testing.T) {
	for _, n := range []int{-1, -2, -128, -300, math.MinInt, math.MinInt + 1, -api.Most, api.Most, api.Most + 1, math.MaxInt} {
		if s := varint.Put(n); s != "" {
			t.Errorf("Put(%d) = %q", n, s)
		}
		if l := varint.Len(n); l != 0 {
			t.Errorf("Len(%d) = %d", n, l)
		}
	}
}

func TestTakeReadsWhatPutWrote(t *testing.T) {
	for _, n := range edges() {
		s := varint.Put(n)
		for _, before := range []string{"", "x", "\x80\x80", "\xff\x00"} {
			for _, after := range []string{"", "y", "\x00", "\xff"} {
				m, at, e := varint.Take(before+s+after, len(before))
				if m != n || at != len(before)+len(s) || e != api.OK {
					t.Errorf("Take(%q, %d) = %d, %d, %d, want %d", before+s+after, len(before), m, at, e, n)
				}
			}
		}
	}
}

func TestTakeInARow(t *testing.T) {
	all := strings.Builder{}
	for _, n := range edges() {
		all.WriteString(varint.Put(n))
	}
	at := 0
	for _, n := range edges() {
		m, next, e := varint.Take(all.String(), at)
		if m != n || next != at+varint.Len(n) || e != api.OK {
			t.Fatalf("at %d: %d, %d, %d, want %d", at, m, next, e, n)
		}
		at = next
	}
}

func TestNoEncodingIsAPrefix(t *testing.T) {
	for _, n := range edges() {
		s := varint.Put(n)
		for cut := range len(s) {
			if m, at, e := varint.Take(s[:cut], 0); m != 0 || at != 0 || e != api.ErrShort {
				t.Errorf("Take(%q, 0) = %d, %d, %d", s[:cut], m, at, e)
			}
		}
	}
	seen := map[string]int{}
	for _, n := range edges() {
		if m, ok := seen[varint.Put(n)]; ok && m != n {
			t.Errorf("%d and %d have one encoding", n, m)
		}
		seen[varint.Put(n)] = n
	}
}

func TestTakeErrors(t *testing.T) {
	high := strings.Repeat("\x80", 20)
	full := strings.Repeat("\xff", 20)
	for _, c := range []struct {
		s    string
		at   int
		want api.Errno
	}{
		{"", -1, api.ErrArg},
		{"", 1, api.ErrArg},
		{"a", 2, api.ErrArg},
		{"\x80", -1, api.ErrArg},
		{"\x80", 2, api.ErrArg},
		{"abc", math.MinInt, api.ErrArg},
		{"abc", math.MaxInt, api.ErrArg},
		{"", 0, api.ErrShort},
		{"a", 1, api.ErrShort},
		{"\x80", 0, api.ErrShort},
		{"\x80", 1, api.ErrShort},
		{"a\xff\xff", 1, api.ErrShort},
		{high[:8], 0, api.ErrShort},
		{full[:8], 0, api.ErrShort},
		{"\x00" + full[:8], 1, api.ErrShort},
		{high[:9], 0, api.ErrLong},
		{full[:9], 0, api.ErrLong},
		{high[:10], 0, api.ErrLong},
		{full[:9], 1, api.ErrShort},
		{high, 11, api.ErrLong},
		{high, 12, api.ErrShort},
		{"\x80\x00", 0, api.ErrLong},
		{"\xff\x00", 0, api.ErrLong},
		{"\xac\x82\x00", 0, api.ErrLong},
		{"\x80\x00\x01", 0, api.ErrLong},
		{high[:8] + "\x00", 0, api.ErrLong},
		{full[:8] + "\x40", 0, api.ErrLong},
		{high[:8] + "\x40", 0, api.ErrLong},
		{full[:8] + "\x7f", 0, api.ErrLong},
		{high[:9] + "\x01", 0, api.ErrLong},
		{full[:9] + "\x00", 0, api.ErrLong},
	} {
		if n, at, e := varint.Take(c.s, c.at); n != 0 || at != 0 || e != c.want {
			t.Errorf("Take(%q, %d) = %d, %d, %d, want error %d", c.s, c.at, n, at, e, c.want)
		}
	}
}

// wanted is Take by the promise's words alone: the number of which an encoding stands there, or the first error.
func wanted(s string, at int) (int, int, api.Errno) {
	if at < 0 || at > len(s) {
		return 0, 0, api.ErrArg
	}
	rest := s[at:]
	end := strings.IndexFunc(string(latin(rest)), func(r rune) bool { return r < 128 })
	if end < 0 && len(rest) < 9 {
		return 0, 0, api.ErrShort
	}
	for l := 1; l <= 9 && l <= len(rest); l++ {
		n := 0
		for i := range l {
			n |= int(rest[i]&127) << (7 * i)
		}
		if n < api.Most && n >= 0 && oracle(n) == rest[:l] {
			return n, at + l, api.OK
		}
	}
	return 0, 0, api.ErrLong
}

func latin(s string) []rune {
	var out []rune
	for i := range len(s) {
		out = append(out, rune(s[i]))
	}
	return out
}

func TestTakeOfAnyBytes(t *testing.T) {
	r := rand.New(rand.NewSource(2))
	some := []byte{0, 1, 2, 63, 64, 127, 128, 129, 255, 128, 255, 200}
	for range 20000 {
		b := make([]byte, r.Intn(13))
		for i := range b {
			b[i] = some[r.Intn(len(some))]
		}
		if r.Intn(2) == 0 {
			for i := range min(8, len(b)) {
				b[i] |= 128
			}
		}
		at := r.Intn(len(b)+3) - 1
		if r.Intn(2) == 0 {
			at = 0
		}
		n, next, e := varint.Take(string(b), at)
		wn, wnext, we := wanted(string(b), at)
		if n != wn || next != wnext || e != we {
			t.Fatalf("Take(%q, %d) = %d, %d, %d, want %d, %d, %d", b, at, n, next, e, wn, wnext, we)
		}
	}
}
