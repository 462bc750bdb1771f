package wire_test

import (
	"math"
	"math/rand"
	"strings"
	"testing"

	"shuttlecock/api"
	"shuttlecock/varint"
	"shuttlecock/wire"
)

func TestText(t *testing.T) {
	for _, s := range []string{"", "a", "ab", "\x00\xff", strings.Repeat("x", 127), strings.Repeat("y", 128), strings.Repeat("z", 20000)} {
		if got := wire.Text(s); got != varint.Put(len(s))+s {
			t.Errorf("Text of %d bytes = %q", len(s), got)
		}
	}
	if got := wire.Text("ab"); got != "\x02ab" {
		t.Errorf("Text(ab) = %q", got)
	}
}

func TestNums(t *testing.T) {
	for _, c := range []struct {
		l    []int
		want string
	}{
		{nil, ""},
		{[]int{}, ""},
		{[]int{0}, "\x00"},
		{[]int{300}, "\xac\x02"},
		{[]int{1, 300, 0, 128}, "\x01\xac\x02\x00\x80\x01"},
		{[]int{api.Most - 1, 5}, strings.Repeat("\xff", 8) + "\x3f\x05"},
		{[]int{-1}, ""},
		{[]int{1, 2, -1}, ""},
		{[]int{-1, 1, 2}, ""},
		{[]int{1, api.Most, 2}, ""},
		{[]int{1, 2, math.MaxInt}, ""},
		{[]int{math.MinInt, 2}, ""},
	} {
		if got := wire.Nums(c.l...); got != c.want {
			t.Errorf("Nums(%v) = %q, want %q", c.l, got, c.want)
		}
	}
}

func TestHeader(t *testing.T) {
	if h := wire.Header(); h != "SHTL\x01" {
		t.Errorf("Header = %q", h)
	}
	for _, c := range []struct {
		s    string
		at   int
		want api.Errno
	}{
		{"SHTL\x01", 5, api.OK},
		{"SHTL\x01and more", 5, api.OK},
		{"SHTL\x01\x01", 5, api.OK},
		{"", 0, api.ErrShort},
		{"S", 0, api.ErrShort},
		{"SH", 0, api.ErrShort},
		{"SHT", 0, api.ErrShort},
		{"SHTL", 0, api.ErrShort},
		{"SHTL\x02", 0, api.ErrMagic},
		{"SHTL\x00", 0, api.ErrMagic},
		{"SHTL1", 0, api.ErrMagic},
		{"s", 0, api.ErrMagic},
		{"SHTl", 0, api.ErrMagic},
		{"HTL\x01", 0, api.ErrMagic},
		{" SHTL\x01", 0, api.ErrMagic},
		{"shtl\x01", 0, api.ErrMagic},
		{"SX", 0, api.ErrMagic},
	} {
		if at, e := wire.Head(c.s); at != c.at || e != c.want {
			t.Errorf("Head(%q) = %d, %d, want %d, %d", c.s, at, e, c.at, c.want)
		}
	}
}

func TestReadBack(t *testing.T) {
	r := wire.New(wire.Nums(300) + wire.Text("ab"))
	if n, s := r.Num(), r.Text(); n != 300 || s != "ab" || !r.Done() {
		t.Error(n, s, r.Done())
	}
	if e, at := r.Err(); e != api.OK || at != 0 {
		t.Error(e, at)
	}
}

func TestReaderMoves(t *testing.T) {
	r := wire.New("\xac\x02\xfeabc\x02xyz\x00")
	steps := []struct {
		do   func() any
		want any
		at   int
	}{
		{func() any { return r.At() }, 0, 0},
		{func() any { return r.Num() }, 300, 2},
		{func() any { return r.Byte() }, 254, 3},
		{func() any { return r.Take(0) }, "", 3},
		{func() any { return r.Take(3) }, "abc", 6},
		{func() any { return r.Done() }, false, 6},
		{func() any { return r.Text() }, "xy", 9},
		{func() any { return r.Byte() }, int('z'), 10},
		{func() any { return r.Text() }, "", 11},
		{func() any { return r.Done() }, true, 11},
		{func() any { return r.Take(0) }, "", 11},
		{func() any { return r.Done() }, true, 11},
	}
	for i, s := range steps {
		if got := s.do(); got != s.want || r.At() != s.at {
			t.Errorf("step %d: %v at %d, want %v at %d", i, got, r.At(), s.want, s.at)
		}
		if e, at := r.Err(); e != api.OK || at != 0 {
			t.Errorf("step %d: error %d at %d", i, e, at)
		}
	}
}

// reads are the four methods that read, with the empty answer as ok.
func reads() map[string]func(*wire.Reader) bool {
	return map[string]func(*wire.Reader) bool{
		"Num":     func(r *wire.Reader) bool { return r.Num() == 0 },
		"Byte":    func(r *wire.Reader) bool { return r.Byte() == 0 },
		"Text":    func(r *wire.Reader) bool { return r.Text() == "" },
		"Take 1":  func(r *wire.Reader) bool { return r.Take(1) == "" },
		"Take 0":  func(r *wire.Reader) bool { return r.Take(0) == "" },
		"Take -1": func(r *wire.Reader) bool { return r.Take(-1) == "" },
	}
}

func TestReaderErrors(t *testing.T) {
	num := func(r *wire.Reader) bool { return r.Num() == 0 }
	byte1 := func(r *wire.Reader) bool { return r.Byte() == 0 }
	text := func(r *wire.Reader) bool { return r.Text() == "" }
	take := func(n int) func(r *wire.Reader) bool {
		return func(r *wire.Reader) bool { return r.Take(n) == "" }
	}
	for i, c := range []struct {
		s    string
		do   func(*wire.Reader) bool
		want api.Errno
	}{
		{"", num, api.ErrShort},
		{"\x80", num, api.ErrShort},
		{"\x80\x00rest", num, api.ErrLong},
		{strings.Repeat("\xff", 9), num, api.ErrLong},
		{"", byte1, api.ErrShort},
		{"", text, api.ErrShort},
		{"\xff", text, api.ErrShort},
		{"\x81\x00a", text, api.ErrLong},
		{"\x01", text, api.ErrShort},
		{"\x05abcd", text, api.ErrShort},
		{varint.Put(api.Most-1) + "abcd", text, api.ErrShort},
		{"", take(1), api.ErrShort},
		{"abc", take(4), api.ErrShort},
		{"abc", take(math.MaxInt), api.ErrShort},
		{"abc", take(-1), api.ErrArg},
		{"", take(-1), api.ErrArg},
		{"abc", take(math.MinInt), api.ErrArg},
	} {
		for _, before := range []string{"", "\x07", "\xff\xff"} {
			r := wire.New(before + c.s)
			r.Take(len(before))
			if !c.do(r) {
				t.Errorf("case %d: an answer beside an error", i)
			}
			if e, at := r.Err(); e != c.want || at != len(before) {
				t.Errorf("case %d: error %d at %d, want %d at %d", i, e, at, c.want, len(before))
			}
			for name, read := range reads() {
				if !read(r) {
					t.Errorf("case %d: %s reads on after an error", i, name)
				}
				if e, at := r.Err(); e != c.want || at != len(before) || r.At() != len(before) || r.Done() {
					t.Errorf("case %d: after %s: error %d at %d, at %d, done %v", i, name, e, at, r.At(), r.Done())
				}
			}
		}
	}
}

func TestErrorAtTheEndIsNotDone(t *testing.T) {
	r := wire.New("a")
	r.Byte()
	if !r.Done() {
		t.Error("not done at the end")
	}
	r.Byte()
	if r.Done() {
		t.Error("done with an error")
	}
	if e, at := r.Err(); e != api.ErrShort || at != 1 || r.At() != 1 {
		t.Error(e, at, r.At())
	}
}

func TestEmptyReader(t *testing.T) {
	r := wire.New("")
	if e, at := r.Err(); e != api.OK || at != 0 || r.At() != 0 || !r.Done() {
		t.Error(e, at, r.At(), r.Done())
	}
}

func TestNilReader(t *testing.T) {
	var r *wire.Reader
	for name, read := range reads() {
		if !read(r) {
			t.Errorf("%s of a nil reader", name)
		}
	}
	if r.At() != 0 || r.Done() {
		t.Error(r.At(), r.Done())
	}
	if e, at := r.Err(); e != api.ErrArg || at != 0 {
		t.Error(e, at)
	}
}

func TestReadersAreApart(t *testing.T) {
	a, b := wire.New("\x01\x02"), wire.New("\x01\x02")
	a.Num()
	a.Take(-1)
	if e, _ := b.Err(); e != api.OK || b.At() != 0 || b.Num() != 1 {
		t.Error("one reader moved another")
	}
}

func TestReadBackAnything(t *testing.T) {
	r := rand.New(rand.NewSource(3))
	for range 500 {
		var s string
		var nums []int
		var texts []string
		for range r.Intn(20) {
			n := r.Intn(api.Most) >> r.Intn(62)
			text := strings.Repeat("q", r.Intn(300))
			nums, texts = append(nums, n), append(texts, text)
			s += wire.Nums(n) + wire.Text(text)
		}
		x := wire.New(s)
		for i := range nums {
			if n, text := x.Num(), x.Text(); n != nums[i] || text != texts[i] {
				t.Fatalf("%d, %q, want %d, %q", n, text, nums[i], texts[i])
			}
		}
		if e, at := x.Err(); !x.Done() || x.At() != len(s) || e != api.OK || at != 0 {
			t.Fatal("not done at the end")
		}
	}
}
