package ring_test

import (
	"math"
	"math/rand"
	"slices"
	"testing"

	"shuttlecock/api"
	"shuttlecock/ring"
)

// laid is the ring whose list begins at index head.
func laid(head int, l ...int) api.Ring {
	r := api.Ring{Head: head, N: len(l)}
	for i, g := range l {
		r.Buf[(head+i)%8] = g
	}
	return r
}

func counted(n, from int) []int {
	var out []int
	for i := range n {
		out = append(out, from+i*7)
	}
	return out
}

func wrong() []api.Ring {
	out := []api.Ring{
		{Head: -1},
		{Head: 8},
		{Head: math.MinInt},
		{Head: math.MaxInt},
		{N: -1},
		{N: 9},
		{N: math.MinInt},
		{N: math.MaxInt},
		{Head: math.MaxInt, N: math.MaxInt},
		{Buf: [8]int{1, 2, 3, 4, 5, 6, 7, 8}, N: 9},
		{Buf: [8]int{1, 2, 3, 4, 5, 6, 7, 8}, N: 8, Head: 8},
		{N: 1},
		{N: 8},
		{Buf: [8]int{1}},
		{Buf: [8]int{1, 2}, N: 1},
		{Buf: [8]int{1, 2}, N: 3},
		{Buf: [8]int{1, -2}, N: 2},
		{Buf: [8]int{0, 2}, N: 2},
		{Buf: [8]int{-1}},
		{Buf: [8]int{1, math.MinInt}, N: 2},
		{Buf: [8]int{1, 2, 0, 0, 0, 0, 0, 9}, N: 2},
		{Buf: [8]int{1, 2, 0, 0, 0, 0, 0, -9}, N: 2},
		{Buf: [8]int{1, 2}, N: 2, Head: 1},
		{Buf: [8]int{1, 2}, N: 2, Head: 7},
	}
	for head := range 8 {
		for n := 1; n <= 8; n++ {
			a, b := laid(head, counted(n, 1)...), laid(head, counted(n, 1)...)
			a.Buf[(head+n-1)%8] = 0
			b.Buf[head] = -1
			out = append(out, a, b)
			if n < 8 {
				c := laid(head, counted(n, 1)...)
				c.Buf[(head+n)%8] = 1
				d := laid(head, counted(n, 1)...)
				d.Buf[(head+7)%8] = 3
				out = append(out, c, d)
			}
		}
	}
	return out
}

func TestGoodRings(t *testing.T) {
	for head := range 8 {
		for n := range 9 {
			want := counted(n, 1)
			r := laid(head, want...)
			if !ring.May(r) {
				t.Errorf("%v may not be", r)
			}
			if l := ring.List(r); !slices.Equal(l, want) {
				t.Errorf("List(%v) = %v, want %v", r, l, want)
			}
		}
	}
	if r := laid(6, math.MaxInt, 1, 1, 1); !ring.May(r) || !slices.Equal(ring.List(r), []int{math.MaxInt, 1, 1, 1}) {
		t.Errorf("List(%v) = %v", r, ring.List(r))
	}
}

func TestWrongRings(t *testing.T) {
	zero := api.Ring{}
	for _, r := range wrong() {
		if ring.May(r) {
			t.Errorf("%v may be", r)
		}
		if l := ring.List(r); len(l) != 0 {
			t.Errorf("List(%v) = %v", r, l)
		}
		if x, ok := ring.Push(r, 5); x != zero || ok {
			t.Errorf("Push(%v) = %v, %v", r, x, ok)
		}
		if x, g, ok := ring.Pop(r); x != zero || g != 0 || ok {
			t.Errorf("Pop(%v) = %v, %d, %v", r, x, g, ok)
		}
		if x, l := ring.Half(r); x != zero || len(l) != 0 {
			t.Errorf("Half(%v) = %v, %v", r, x, l)
		}
	}
}

func TestOf(t *testing.T) {
	for n := range 9 {
		want := counted(n, 3)
		if r, ok := ring.Of(want); r != laid(0, want...) || !ok {
			t.Errorf("Of(%v) = %v, %v", want, r, ok)
		}
	}
	if r, ok := ring.Of([]int{5, 5, math.MaxInt}); r != laid(0, 5, 5, math.MaxInt) || !ok {
		t.Errorf("Of the same twice: %v, %v", r, ok)
	}
	for _, l := range [][]int{counted(9, 1), counted(100, 1), {0}, {-1}, {1, 2, 0}, {1, -1, 2}, {math.MinInt}, {0, 1}, append(counted(7, 1), 0), append(counted(8, 1), 0)} {
		if r, ok := ring.Of(l); r != (api.Ring{}) || ok {
			t.Errorf("Of(%v) = %v, %v", l, r, ok)
		}
	}
}

func TestPush(t *testing.T) {
	for head := range 8 {
		for n := range 9 {
			old := counted(n, 1)
			r := laid(head, old...)
			x, ok := ring.Push(r, 99)
			if n == 8 {
				if x != (api.Ring{}) || ok {
					t.Errorf("Push(%v) = %v, %v", r, x, ok)
				}
				continue
			}
			if want := laid(head, append(slices.Clone(old), 99)...); x != want || !ok {
				t.Errorf("Push(%v) = %v, %v, want %v", r, x, ok, want)
			}
			for _, g := range []int{0, -1, math.MinInt} {
				if x, ok := ring.Push(r, g); x != (api.Ring{}) || ok {
					t.Errorf("Push(%v, %d) = %v, %v", r, g, x, ok)
				}
			}
		}
	}
}

func TestPop(t *testing.T) {
	for head := range 8 {
		if x, g, ok := ring.Pop(laid(head)); x != laid(head) || g != 0 || ok {
			t.Errorf("Pop of an empty ring at %d = %v, %d, %v", head, x, g, ok)
		}
		for n := 1; n < 9; n++ {
			l := counted(n, 4)
			if x, g, ok := ring.Pop(laid(head, l...)); x != laid((head+1)%8, l[1:]...) || g != 4 || !ok {
				t.Errorf("Pop(%v) = %v, %d, %v", laid(head, l...), x, g, ok)
			}
		}
	}
}

func TestHalf(t *testing.T) {
	if r, _ := ring.Of([]int{1, 2, 3}); true {
		if x, l := ring.Half(r); x != laid(2, 3) || !slices.Equal(l, []int{1, 2}) {
			t.Errorf("the chapter's example: %v, %v", x, l)
		}
	}
	for head := range 8 {
		for n := range 9 {
			l := counted(n, 4)
			cut := []int{0, 1, 1, 2, 2, 3, 3, 4, 4}[n]
			x, got := ring.Half(laid(head, l...))
			if x != laid((head+cut)%8, l[cut:]...) || !slices.Equal(got, l[:cut]) {
				t.Errorf("Half(%v) = %v, %v", laid(head, l...), x, got)
			}
		}
	}
}

func TestQueueOfAnyCalls(t *testing.T) {
	rnd := rand.New(rand.NewSource(14))
	r, want := api.Ring{}, []int(nil)
	for i := range 20000 {
		switch rnd.Intn(6) {
		case 0, 1, 2:
			x, ok := ring.Push(r, i+1)
			if ok != (len(want) < 8) {
				t.Fatalf("Push onto %d: %v", len(want), ok)
			}
			if ok {
				r, want = x, append(want, i+1)
			}
		case 3, 4:
			x, g, ok := ring.Pop(r)
			if ok != (len(want) > 0) || ok && g != want[0] {
				t.Fatalf("Pop of %v: %d, %v", want, g, ok)
			}
			if ok {
				want = want[1:]
			}
			r = x
		default:
			x, l := ring.Half(r)
			if n := (len(want) + 1) / 2; !slices.Equal(l, want[:n]) {
				t.Fatalf("Half of %v: %v", want, l)
			}
			r, want = x, want[len(l):]
		}
		if !ring.May(r) || !slices.Equal(ring.List(r), want) {
			t.Fatalf("%v, want the list %v", r, want)
		}
	}
}
