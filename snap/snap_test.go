package snap_test

import (
	"math"
	"math/rand"
	"slices"
	"testing"

	"shuttlecock/api"
	"shuttlecock/snap"
	"shuttlecock/varint"
	"shuttlecock/wire"
)

func p(m, seq int) api.PStat {
	return api.PStat{M: m, Seq: seq}
}

func g(n, status, m, seq int) api.GStat {
	return api.GStat{G: n, Status: status, M: m, Seq: seq}
}

func of(time int, ps []api.PStat, gs ...api.GStat) api.Snap {
	return api.Snap{Time: time, Ps: ps, Gs: gs}
}

func ps(l ...api.PStat) []api.PStat {
	return l
}

func same(a, b api.Snap) bool {
	return a.Time == b.Time && slices.Equal(a.Ps, b.Ps) && slices.Equal(a.Gs, b.Gs)
}

// many is a snapshot of so many Ps, each with an M of its number, and so many Gs, the first ones running.
func many(np, ng int) api.Snap {
	s := api.Snap{}
	for i := range np {
		s.Ps = append(s.Ps, p(i+1, i))
	}
	for i := range ng {
		if i < np {
			s.Gs = append(s.Gs, g(i+1, 2, i+1, 0))
		} else {
			s.Gs = append(s.Gs, g(i+1, 1+i%2*2, 0, i))
		}
	}
	return s
}

const most = api.Most - 1

func good() []api.Snap {
	return []api.Snap{
		{},
		{Time: most},
		{Ps: []api.PStat{}, Gs: []api.GStat{}},
		of(5, ps(p(1, 2)), g(1, 2, 1, 3)),
		of(0, ps(p(0, 0), p(0, most), p(0, 7))),
		of(0, ps(p(most, 0))),
		of(0, ps(p(3, 1), p(0, 1), p(2, 1)), g(1, 2, 2, 0), g(5, 2, 3, 0)),
		of(0, nil, g(1, 1, 0, most), g(most, 3, 0, 0)),
		of(0, nil, g(7, 4, 1, 0), g(8, 4, 2, 0), g(9, 4, most, 0)),
		of(9, ps(p(1, 0), p(2, 0)), g(1, 4, 3, 1), g(2, 2, 2, 1), g(3, 1, 0, 1), g(4, 3, 0, 1), g(500, 4, 4, 1)),
		many(64, 1000),
		many(64, 0),
		many(0, 1000),
		many(64, 10),
		many(8, 300),
	}
}

func wrong() []api.Snap {
	one := ps(p(1, 0))
	out := []api.Snap{
		many(65, 0),
		many(65, 3),
		many(0, 1001),
		many(64, 1001),
		of(0, ps(p(1, 0), p(1, 0))),
		of(0, ps(p(1, 0), p(2, 0), p(0, 0), p(1, 5))),
		of(0, one, g(0, 1, 0, 0)),
		of(0, one, g(2, 1, 0, 0), g(1, 1, 0, 0)),
		of(0, one, g(1, 1, 0, 0), g(1, 1, 0, 0)),
		of(0, one, g(1, 1, 0, 0), g(3, 1, 0, 0), g(3, 3, 0, 0)),
		of(0, one, g(1, 1, 0, 0), g(3, 1, 0, 0), g(2, 3, 0, 0)),
		of(0, one, g(1, 1, 1, 0)),
		of(0, one, g(1, 1, 2, 0)),
		of(0, one, g(1, 3, 1, 0)),
		of(0, one, g(1, 3, 2, 0)),
		of(0, one, g(1, 2, 0, 0)),
		of(0, one, g(1, 2, 2, 0)),
		of(0, nil, g(1, 2, 1, 0)),
		of(0, ps(p(0, 0)), g(1, 2, 0, 0)),
		of(0, one, g(1, 2, 1, 0), g(2, 2, 1, 0)),
		of(0, ps(p(1, 0), p(2, 0)), g(1, 2, 2, 0), g(2, 2, 1, 0), g(3, 2, 2, 0)),
		of(0, one, g(1, 4, 0, 0)),
		of(0, one, g(1, 4, 1, 0)),
		of(0, one, g(1, 4, 2, 0), g(2, 4, 2, 0)),
		of(0, one, g(1, 2, 1, 0), g(2, 4, 1, 0)),
		of(0, one, g(1, 4, 1, 0), g(2, 2, 1, 0)),
		of(0, one, g(1, 4, 2, 0), g(2, 2, 2, 0)),
		of(0, one, g(1, 0, 0, 0)),
		of(0, one, g(1, 5, 0, 0)),
		of(0, one, g(1, 6, 0, 0)),
		of(0, one, g(1, 5, 1, 0)),
		of(0, one, g(1, 0, 1, 0)),
		of(0, one, g(1, 6, 2, 0)),
	}
	for _, n := range []int{-1, math.MinInt, api.Most, math.MaxInt} {
		out = append(out,
			of(n, one), of(0, ps(p(n, 0))), of(0, ps(p(0, n))), of(0, ps(p(1, 0), p(2, n))),
			of(0, one, g(n, 1, 0, 0)), of(0, one, g(1, n, 0, 0)), of(0, one, g(1, 1, n, 0)), of(0, one, g(1, 1, 0, n)),
			of(0, one, g(1, 2, n, 0)), of(0, one, g(1, 4, n, 0)), of(0, one, g(1, 2, 1, n)), of(0, one, g(1, 4, 2, n)), of(0, one, g(1, 3, 0, n)))
	}
	return out
}

// bytesOf is the encoding by the promise's words, of any snapshot whose numbers have one.
func bytesOf(s api.Snap) string {
	out := varint.Put(s.Time) + varint.Put(len(s.Ps))
	for _, p := range s.Ps {
		out += varint.Put(p.M) + varint.Put(p.Seq)
	}
	out += varint.Put(len(s.Gs))
	for _, g := range s.Gs {
		out += varint.Put(g.G) + varint.Put(g.Status) + varint.Put(g.M) + varint.Put(g.Seq)
	}
	return out
}

// numbers tells whether all of a snapshot's numbers have an encoding.
func numbers(s api.Snap) bool {
	l := []int{s.Time}
	for _, p := range s.Ps {
		l = append(l, p.M, p.Seq)
	}
	for _, g := range s.Gs {
		l = append(l, g.G, g.Status, g.M, g.Seq)
	}
	return slices.Min(l) >= 0 && slices.Max(l) < api.Most
}

func TestGoodSnapshots(t *testing.T) {
	if s := snap.Encode(of(5, ps(p(1, 2)), g(1, 2, 1, 3))); s != "\x05\x01\x01\x02\x01\x01\x02\x01\x03" {
		t.Errorf("the chapter's example: %q", s)
	}
	for i, s := range good() {
		if !snap.May(s) {
			t.Errorf("good snapshot %d may not be", i)
		}
		if got := snap.Encode(s); got != bytesOf(s) {
			t.Errorf("good snapshot %d: %.60q", i, got)
		}
		if d, e := snap.Decode(bytesOf(s)); !same(s, d) || e != api.OK {
			t.Errorf("good snapshot %d isn't read back: %d", i, e)
		}
	}
}

func TestWrongSnapshots(t *testing.T) {
	for i, s := range wrong() {
		if snap.May(s) {
			t.Errorf("wrong snapshot %d may be: %.200v", i, s)
		}
		if got := snap.Encode(s); got != "" {
			t.Errorf("wrong snapshot %d: %.60q", i, got)
		}
		if !numbers(s) {
			continue
		}
		if d, e := snap.Decode(bytesOf(s)); !same(d, api.Snap{}) || e != api.ErrSnap {
			t.Errorf("wrong snapshot %d is read: %d", i, e)
		}
	}
}

func TestDecodeErrors(t *testing.T) {
	for i, c := range []struct {
		s    string
		want api.Errno
	}{
		{"", api.ErrShort},
		{"\x80", api.ErrShort},
		{"\x80\x00", api.ErrLong},
		{"\x00", api.ErrShort},
		{"\x00\x80\x00", api.ErrLong},
		{"\x00\x40", api.ErrShort},
		{"\x00\x41", api.ErrSnap},
		{"\x00\x41\x80\x00", api.ErrSnap},
		{"\x00" + varint.Put(api.Most-1), api.ErrSnap},
		{"\x00\x00", api.ErrShort},
		{"\x00\x00\x80\x00", api.ErrLong},
		{wire.Nums(0, 0, 1000), api.ErrShort},
		{wire.Nums(0, 0, 1001), api.ErrSnap},
		{wire.Nums(0, 0, 1001) + "\x80\x00", api.ErrSnap},
		{wire.Nums(0, 0, api.Most-1), api.ErrSnap},
		{"\x00\x01", api.ErrShort},
		{"\x00\x01\x80\x00", api.ErrLong},
		{"\x00\x01\x01", api.ErrShort},
		{"\x00\x01\x01\x80\x00", api.ErrLong},
		{"\x00\x02\x01\x00\x01\x80", api.ErrShort},
		{"\x00\x02\x01\x00\x01\x00", api.ErrShort},
		{"\x00\x02\x01\x00\x01\x00\x80\x00", api.ErrLong},
		{"\x00\x02\x01\x00\x01\x00\x00", api.ErrSnap},
		{"\x00\x00\x01", api.ErrShort},
		{"\x00\x00\x01\x01\x01\x00", api.ErrShort},
		{"\x00\x00\x01\x01\x01\x00\x80\x00", api.ErrLong},
		{"\x00\x00\x01\x01\x09\x00\x80\x00", api.ErrLong},
		{"\x00\x00\x00\x00", api.ErrSnap},
		{"\x00\x00\x00\x80", api.ErrSnap},
		{"\x00\x00\x00rest", api.ErrSnap},
		{bytesOf(many(64, 1000)) + "\x00", api.ErrSnap},
	} {
		if d, e := snap.Decode(c.s); !same(d, api.Snap{}) || e != c.want {
			t.Errorf("case %d: Decode(%.40q) = %v, %d, want %d", i, c.s, d, e, c.want)
		}
	}
}

func TestDecodeOfACutSnapshot(t *testing.T) {
	for i, s := range good() {
		all := bytesOf(s)
		for cut := 0; cut < len(all); cut += 1 + len(all)/300 {
			if d, e := snap.Decode(all[:cut]); !same(d, api.Snap{}) || e != api.ErrShort {
				t.Fatalf("snapshot %d, cut at %d: %d", i, cut, e)
			}
		}
	}
}

// may is the chapter's definition, asked for each pair.
func may(s api.Snap) bool {
	if !numbers(s) || len(s.Ps) > 64 || len(s.Gs) > 1000 {
		return false
	}
	for i, a := range s.Ps {
		for j, b := range s.Ps {
			if i != j && a.M == b.M && a.M != 0 {
				return false
			}
		}
	}
	for i, a := range s.Gs {
		if a.G < 1 || i > 0 && s.Gs[i-1].G >= a.G {
			return false
		}
		has, others := false, 0
		for _, p := range s.Ps {
			has = has || p.M == a.M
		}
		for j, b := range s.Gs {
			if i != j && a.M == b.M {
				others++
			}
		}
		switch a.Status {
		case 1, 3:
			if a.M != 0 {
				return false
			}
		case 2:
			if a.M == 0 || !has || others > 0 {
				return false
			}
		case 4:
			if a.M == 0 || has || others > 0 {
				return false
			}
		default:
			return false
		}
	}
	return true
}

func TestMayOfAnySnapshot(t *testing.T) {
	r := rand.New(rand.NewSource(12))
	fine := 0
	for range 60000 {
		s := api.Snap{Time: r.Intn(3)}
		for range r.Intn(4) {
			s.Ps = append(s.Ps, p(r.Intn(5), r.Intn(2)))
		}
		n := 0
		for range r.Intn(4) {
			n += r.Intn(20)/19 ^ 1
			status := 1 + r.Intn(4)
			m := 0
			if status%2 == 0 || r.Intn(10) == 0 {
				m = r.Intn(5)
			}
			if r.Intn(20) == 0 {
				status = r.Intn(7)
			}
			s.Gs = append(s.Gs, g(n, status, m, r.Intn(2)))
		}
		want := may(s)
		if snap.May(s) != want {
			t.Fatalf("May(%v) = %v", s, !want)
		}
		if want {
			fine++
		}
		d, e := snap.Decode(bytesOf(s))
		if want && (!same(d, s) || e != api.OK) || !want && (!same(d, api.Snap{}) || e != api.ErrSnap) {
			t.Fatalf("Decode of %v = %v, %d", s, d, e)
		}
	}
	if fine < 1000 {
		t.Errorf("only %d of the snapshots were valid", fine)
	}
}

func TestDecodeOfAnyBytes(t *testing.T) {
	r := rand.New(rand.NewSource(13))
	snaps := good()
	for range 30000 {
		b := []byte(bytesOf(snaps[r.Intn(10)]))
		for range 1 + r.Intn(3) {
			b[r.Intn(len(b))] = byte(r.Intn(6) * r.Intn(52))
		}
		d, e := snap.Decode(string(b))
		if e == api.OK && (!may(d) || bytesOf(d) != string(b)) || e != api.OK && !same(d, api.Snap{}) {
			t.Fatalf("Decode(%q) = %v, %d", b, d, e)
		}
	}
}

func TestArgumentsStay(t *testing.T) {
	s := of(9, ps(p(1, 0), p(2, 0)), g(1, 4, 3, 1), g(2, 2, 2, 1))
	snap.May(s)
	snap.Encode(s)
	if !same(s, of(9, ps(p(1, 0), p(2, 0)), g(1, 4, 3, 1), g(2, 2, 2, 1))) {
		t.Error("an argument is changed")
	}
}
