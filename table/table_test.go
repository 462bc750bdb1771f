package table_test

import (
	"math"
	"math/rand"
	"slices"
	"strconv"
	"strings"
	"testing"

	"shuttlecock/api"
	"shuttlecock/intern"
	"shuttlecock/sample"
	"shuttlecock/table"
	"shuttlecock/varint"
	"shuttlecock/wire"
)

func empty(t api.Table) bool {
	return len(t.Strings) == 0 && len(t.Stacks) == 0
}

func texts(n int) []string {
	var out []string
	for i := range n {
		out = append(out, "s"+strconv.Itoa(i))
	}
	return out
}

func stacks(n int) [][][2]int {
	var out [][][2]int
	for i := range n {
		out = append(out, [][2]int{{1, i}})
	}
	return out
}

func some() api.Table {
	return api.Table{
		Strings: []string{"main", "work", "yield"},
		Stacks:  [][][2]int{{{1, 5}}, {{2, 0}, {1, 300}}, {{3, api.Most - 1}, {1, 5}, {1, 5}}},
	}
}

func good() []api.Table {
	return []api.Table{
		{},
		{Strings: []string{"a"}},
		{Strings: []string{"a", "b", "\x00\xff"}},
		some(),
		{Strings: []string{"a"}, Stacks: [][][2]int{slices.Repeat([][2]int{{1, 1}}, 100)}},
		{Strings: texts(300), Stacks: stacks(300)},
		{Strings: []string{strings.Repeat("x", 1000)}, Stacks: [][][2]int{{{1, 1}}}},
	}
}

func wrong() []api.Table {
	return []api.Table{
		{Strings: []string{""}},
		{Strings: []string{"a", "a"}},
		{Strings: []string{strings.Repeat("x", 1001)}},
		{Stacks: [][][2]int{{{1, 1}}}},
		{Strings: []string{"a"}, Stacks: [][][2]int{{}}},
		{Strings: []string{"a"}, Stacks: [][][2]int{{{2, 1}}}},
		{Strings: []string{"a"}, Stacks: [][][2]int{{{1, -1}}}},
		{Strings: []string{"a"}, Stacks: [][][2]int{{{1, 1}}, {{1, 1}}}},
		{Strings: []string{"a"}, Stacks: [][][2]int{slices.Repeat([][2]int{{1, 1}}, 101)}},
		{Strings: texts(10001)},
		{Strings: []string{"a"}, Stacks: stacks(10001)},
	}
}

func upTo(n int) []int {
	var out []int
	for i := range n {
		out = append(out, i+1)
	}
	return out
}

// oracle is an encoding by the promise's words.
func oracle(t api.Table, order, stackOrder []int) string {
	s := varint.Put(len(t.Strings))
	for _, id := range order {
		s += varint.Put(id) + varint.Put(len(t.Strings[id-1])) + t.Strings[id-1]
	}
	s += varint.Put(len(t.Stacks))
	for _, id := range stackOrder {
		s += varint.Put(id) + varint.Put(len(t.Stacks[id-1]))
		for _, f := range t.Stacks[id-1] {
			s += varint.Put(f[0]) + varint.Put(f[1])
		}
	}
	return s
}

func TestEncode(t *testing.T) {
	if s := table.Encode(api.Table{}); s != "\x00\x00" {
		t.Errorf("the empty table: %q", s)
	}
	if s := table.Encode(some()); s != "\x03\x01\x04main\x02\x04work\x03\x05yield\x03\x01\x01\x01\x05\x02\x02\x02\x00\x01\xac\x02\x03\x03\x03"+varint.Put(api.Most-1)+"\x01\x05\x01\x05" {
		t.Errorf("some table: %q", s)
	}
	for i, x := range good() {
		want := oracle(x, upTo(len(x.Strings)), upTo(len(x.Stacks)))
		if s := table.Encode(x); s != want {
			t.Errorf("table %d: %.60q", i, s)
		}
		if s := table.Order(x, upTo(len(x.Strings)), upTo(len(x.Stacks))); s != want {
			t.Errorf("table %d in its order: %.60q", i, s)
		}
	}
	for i, x := range wrong() {
		if s := table.Encode(x); s != "" {
			t.Errorf("wrong table %d: %.60q", i, s)
		}
		if s := table.Order(x, upTo(len(x.Strings)), upTo(len(x.Stacks))); s != "" {
			t.Errorf("wrong table %d in its order: %.60q", i, s)
		}
	}
}

func TestOrder(t *testing.T) {
	r := rand.New(rand.NewSource(10))
	for i, x := range good() {
		for range 10 {
			order, stackOrder := upTo(len(x.Strings)), upTo(len(x.Stacks))
			r.Shuffle(len(order), func(a, b int) { order[a], order[b] = order[b], order[a] })
			r.Shuffle(len(stackOrder), func(a, b int) { stackOrder[a], stackOrder[b] = stackOrder[b], stackOrder[a] })
			s := table.Order(x, order, stackOrder)
			if s != oracle(x, order, stackOrder) {
				t.Fatalf("table %d, %v, %v: %.60q", i, order, stackOrder, s)
			}
			if y, at, e := table.Decode(s); !sample.SameTable(x, y) || at != len(s) || e != api.OK {
				t.Fatalf("table %d, %v, %v: read back at %d, %d", i, order, stackOrder, at, e)
			}
		}
	}
}

func TestOrderOfWrongLists(t *testing.T) {
	ok := []int{2, 3, 1}
	for _, l := range [][]int{nil, {}, {1}, {1, 2}, {1, 2, 3, 4}, {1, 2, 2}, {1, 1, 1}, {0, 1, 2}, {1, 2, 4}, {1, 2, -3}, {1, 2, math.MaxInt}, {1, 2, math.MinInt}, {1, 2, 3, 3}, {1, 2, 3, 0}} {
		if s := table.Order(some(), l, ok); s != "" {
			t.Errorf("strings in order %v: %q", l, s)
		}
		if s := table.Order(some(), ok, l); s != "" {
			t.Errorf("stacks in order %v: %q", l, s)
		}
	}
	if s := table.Order(some(), ok, ok); s == "" {
		t.Error("no order")
	}
	if s := table.Order(api.Table{}, nil, []int{}); s != "\x00\x00" {
		t.Errorf("the empty table: %q", s)
	}
	if s := table.Order(api.Table{}, []int{1}, nil); s != "" {
		t.Errorf("a string too many: %q", s)
	}
}

func TestDecode(t *testing.T) {
	for i, x := range good() {
		s := table.Encode(x)
		if y, at, e := table.Decode(s); !sample.SameTable(x, y) || at != len(s) || e != api.OK {
			t.Errorf("table %d: at %d, %d", i, at, e)
		}
	}
	y, at, e := table.Decode("\x02\x02\x01b\x01\x01a\x02\x02\x01\x01\x05\x01\x01\x02\x05")
	if !sample.SameTable(y, api.Table{Strings: []string{"a", "b"}, Stacks: [][][2]int{{{2, 5}}, {{1, 5}}}}) || at != 16 || e != api.OK {
		t.Errorf("a table in another order: %v, %d, %d", y, at, e)
	}
}

func TestDecodeUpToTheLimits(t *testing.T) {
	all := api.Table{Strings: texts(10000), Stacks: stacks(10000)}
	s := table.Encode(all)
	if y, at, e := table.Decode(s); !sample.SameTable(all, y) || at != len(s) || e != api.OK {
		t.Errorf("a full table: at %d, %d", at, e)
	}
}

func TestDecodeErrors(t *testing.T) {
	long := strings.Repeat("x", 1001)
	for i, c := range []struct {
		s    string
		at   int
		want api.Errno
	}{
		{"", 0, api.ErrShort},
		{"\x80", 0, api.ErrShort},
		{"\x80\x00", 0, api.ErrLong},
		{"\x00", 1, api.ErrShort},
		{"\x00\x80\x00", 1, api.ErrLong},
		{wire.Nums(10000), 2, api.ErrShort},
		{wire.Nums(10001), 2, api.ErrTable},
		{wire.Nums(10001, 1) + "\x01a", 2, api.ErrTable},
		{wire.Nums(api.Most - 1), 9, api.ErrTable},
		{wire.Nums(0, 10000), 3, api.ErrShort},
		{wire.Nums(0, 10001), 3, api.ErrTable},
		{wire.Nums(0, 10001, 1), 3, api.ErrTable},
		{"\x01", 1, api.ErrShort},
		{"\x01\x80\x00", 1, api.ErrLong},
		{"\x01\x00", 2, api.ErrTable},
		{"\x01\x00\x01a\x00", 2, api.ErrTable},
		{"\x01\x02\x01a\x00", 2, api.ErrTable},
		{"\x01\x01", 2, api.ErrShort},
		{"\x01\x01\x81\x00", 2, api.ErrLong},
		{"\x01\x01\x02a", 2, api.ErrShort},
		{"\x01\x01\x01a", 4, api.ErrShort},
		{"\x02\x01\x01a\x01\x01b\x00", 5, api.ErrTable},
		{"\x02\x02\x01a\x02\x01b\x00", 5, api.ErrTable},
		{"\x02\x01\x01a\x03\x01b\x00", 5, api.ErrTable},
		{wire.Nums(300, 300) + "\x01a" + wire.Nums(301), 8, api.ErrTable},
		{wire.Nums(300, 300) + "\x01a" + wire.Nums(300), 8, api.ErrTable},
		{"\x01\x01\x01a\x01", 5, api.ErrShort},
		{"\x01\x01\x01a\x01\x00", 6, api.ErrTable},
		{"\x01\x01\x01a\x01\x02\x01\x01\x01", 6, api.ErrTable},
		{"\x01\x01\x01a\x01\x01", 6, api.ErrShort},
		{"\x01\x01\x01a\x01\x01\x80\x00", 6, api.ErrLong},
		{"\x01\x01\x01a\x01\x01\x64", 7, api.ErrShort},
		{"\x01\x01\x01a\x01\x01\x65", 7, api.ErrTable},
		{"\x01\x01\x01a\x01\x01\x65\x01\x01", 7, api.ErrTable},
		{"\x01\x01\x01a\x01\x01\xac\x02\x01\x01", 8, api.ErrTable},
		{"\x01\x01\x01a\x01\x01\x01", 7, api.ErrShort},
		{"\x01\x01\x01a\x01\x01\x01\x81\x00", 7, api.ErrLong},
		{"\x01\x01\x01a\x01\x01\x01\x01", 8, api.ErrShort},
		{"\x01\x01\x01a\x01\x01\x01\x01\x81\x00", 8, api.ErrLong},
		{"\x01\x01\x01a\x02\x01\x01\x01\x01", 9, api.ErrShort},
		{"\x01\x01\x01a\x02\x01\x01\x01\x01\x01\x01\x01\x02", 10, api.ErrTable},
		{"\x01\x01\x01a\x02\x01\x01\x01\x01\x00\x01\x01\x02", 10, api.ErrTable},
		{"\x01\x01\x01a\x02\x01\x01\x01\x01\x03\x01\x01\x02", 10, api.ErrTable},
		{"\x00\x00\x00", 3, api.ErrTable},
		{"\x00\x00rest", 6, api.ErrTable},
		{"\x01\x01\x00\x00", 4, api.ErrTable},
		{"\x01\x01\x00\x00rest", 8, api.ErrTable},
		{"\x02\x01\x01a\x02\x01a\x00", 8, api.ErrTable},
		{"\x01\x01" + wire.Text(long) + "\x00", 1006, api.ErrTable},
		{"\x01\x01\x01a\x01\x01\x00", 7, api.ErrTable},
		{"\x01\x01\x01a\x01\x01\x01\x02\x01", 9, api.ErrTable},
		{"\x01\x01\x01a\x01\x01\x01\x00\x01", 9, api.ErrTable},
		{"\x00\x01\x01\x01\x01\x01", 6, api.ErrTable},
		{"\x01\x01\x01a\x02\x01\x01\x01\x05\x02\x01\x01\x05", 13, api.ErrTable},
	} {
		if y, at, e := table.Decode(c.s); !empty(y) || at != c.at || e != c.want {
			t.Errorf("case %d: Decode(%.40q) = %v, %d, %d, want %d, %d", i, c.s, y, at, e, c.at, c.want)
		}
	}
}

func TestDecodeOfACutTable(t *testing.T) {
	for i, x := range good() {
		s := table.Encode(x)
		for cut := range len(s) {
			y, at, e := table.Decode(s[:cut])
			_, wat, we := wanted(s[:cut])
			if !empty(y) || at != wat || e != we || e != api.ErrShort {
				t.Fatalf("table %d, cut at %d: %d, %d, want %d, %d", i, cut, at, e, wat, we)
			}
		}
	}
}

// reading is the promise's words on a plain text, step by step.
type reading struct {
	s   string
	at  int
	no  int
	e   api.Errno
	bad bool
}

func (r *reading) num() int {
	if r.bad {
		return 0
	}
	n, next, e := varint.Take(r.s, r.at)
	if e != api.OK {
		r.fail(r.at, e)
		return 0
	}
	r.at = next
	return n
}

func (r *reading) fail(at int, e api.Errno) {
	if !r.bad {
		r.no, r.e, r.bad = at, e, true
	}
}

func (r *reading) text() string {
	begin := r.at
	n := r.num()
	if r.bad {
		return ""
	}
	if n > len(r.s)-r.at {
		r.fail(begin, api.ErrShort)
		return ""
	}
	r.at += n
	return r.s[r.at-n : r.at]
}

func (r *reading) count(most int) int {
	n := r.num()
	if n > most {
		r.fail(r.at, api.ErrTable)
	}
	return n
}

func (r *reading) entry(n int, seen map[int]bool) int {
	id := r.num()
	if id < 1 || id > n || seen[id] {
		r.fail(r.at, api.ErrTable)
	}
	seen[id] = true
	return id
}

// wanted is Decode by the promise's words.
func wanted(s string) (api.Table, int, api.Errno) {
	r := &reading{s: s}
	t := api.Table{}
	n := r.count(10000)
	names, seen := map[int]string{}, map[int]bool{}
	for i := 0; i < n && !r.bad; i++ {
		id := r.entry(n, seen)
		names[id] = r.text()
	}
	for id := 1; id <= n && !r.bad; id++ {
		t.Strings = append(t.Strings, names[id])
	}
	n = r.count(10000)
	lists, seen := map[int][][2]int{}, map[int]bool{}
	for i := 0; i < n && !r.bad; i++ {
		id := r.entry(n, seen)
		lists[id] = nil
		for j := r.count(100); j > 0 && !r.bad; j-- {
			name := r.num()
			lists[id] = append(lists[id], [2]int{name, r.num()})
		}
	}
	for id := 1; id <= n && !r.bad; id++ {
		t.Stacks = append(t.Stacks, lists[id])
	}
	if r.at != len(s) || !intern.May(t) {
		r.fail(len(s), api.ErrTable)
	}
	if r.bad {
		return api.Table{}, r.no, r.e
	}
	return t, len(s), api.OK
}

func TestDecodeOfAnyBytes(t *testing.T) {
	r := rand.New(rand.NewSource(11))
	tables := good()
	fine := 0
	for range 40000 {
		b := []byte(table.Encode(tables[r.Intn(5)]))
		if r.Intn(3) == 0 {
			b = make([]byte, r.Intn(16))
			for i := range b {
				b[i] = byte(r.Intn(4))
			}
		}
		for range r.Intn(4) {
			if len(b) > 0 {
				b[r.Intn(len(b))] = []byte{0, 1, 2, 3, 100, 101, 128, 255}[r.Intn(8)]
			}
		}
		s := string(b)
		y, at, e := table.Decode(s)
		wy, wat, we := wanted(s)
		if !sample.SameTable(y, wy) || at != wat || e != we {
			t.Fatalf("Decode(%q) = %v, %d, %d, want %v, %d, %d", s, y, at, e, wy, wat, we)
		}
		if e == api.OK {
			fine++
		}
	}
	if fine < 100 {
		t.Errorf("only %d of the texts were tables", fine)
	}
}

func TestArgumentsStay(t *testing.T) {
	x, order := some(), []int{3, 1, 2}
	table.Encode(x)
	table.Order(x, order, order)
	if !sample.SameTable(x, some()) || !slices.Equal(order, []int{3, 1, 2}) {
		t.Error("an argument is changed")
	}
}
