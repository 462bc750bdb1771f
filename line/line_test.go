package line_test

import (
	"math"
	"slices"
	"strings"
	"testing"

	"shuttlecock/api"
	"shuttlecock/line"
	"shuttlecock/model"
	"shuttlecock/sample"
)

// logged is what a script logs from a sample's state on.
func logged(n, length int) (api.Snap, []api.Log) {
	s := sample.State(n)
	x := model.Of(s)
	var out []api.Log
	for _, item := range sample.Items(n, length) {
		out = append(out, sample.Do(&s, item)...)
	}
	return x, out
}

// snaps are those ahead of, between and behind the entries, or none if one of these isn't possible.
func snaps(x api.Snap, l []api.Log) []api.Snap {
	out := []api.Snap{x}
	for _, e := range l {
		next, ok := model.Apply(x, e)
		if !ok {
			return nil
		}
		x = next
		out = append(out, x)
	}
	return out
}

func find(x api.Snap, g int) api.GStat {
	for _, o := range x.Gs {
		if o.G == g {
			return o
		}
	}
	return api.GStat{}
}

// ofG is P25.1 in the chapter's words, read off the list of all snapshots.
func ofG(all []api.Snap, l []api.Log, g int) []api.Span {
	var out []api.Span
	for i, x := range all {
		now := find(x, g)
		if now.G == 0 || i > 0 && find(all[i-1], g) == now {
			continue
		}
		s := api.Span{From: x.Time, Status: now.Status, N: now.M, To: all[len(all)-1].Time}
		if i > 0 && (l[i-1].Kind == 5 || l[i-1].Kind == 6) && l[i-1].G == g {
			s.Why = l[i-1].Why
		}
		for _, y := range all[i:] {
			if find(y, g) != now {
				s.To = y.Time
				break
			}
		}
		out = append(out, s)
	}
	return out
}

// ofP is P25.2 in the chapter's words.
func ofP(all []api.Snap, p int) []api.Span {
	var out []api.Span
	for i, x := range all {
		m := x.Ps[p-1].M
		if i > 0 && all[i-1].Ps[p-1].M == m {
			continue
		}
		if i > 0 {
			out[len(out)-1].To = x.Time
		}
		out = append(out, api.Span{From: x.Time, Status: min(m, 1), N: m, To: all[len(all)-1].Time})
	}
	return out
}

func TestTimelinesOfScripts(t *testing.T) {
	spans, whys := 0, 0
	for n := range 60 {
		if n%10 == 9 {
			continue
		}
		x, l := logged(n, 150)
		all := snaps(x, l)
		for g := -1; g < 80; g++ {
			got := line.G(x, l, g)
			if want := ofG(all, l, g); !slices.Equal(got, want) {
				t.Fatalf("script %d: the spans of G %d: %v, want %v", n, g, got, want)
			}
			for i, s := range got {
				if i > 0 && s.From != got[i-1].To || s.To < s.From {
					t.Fatalf("script %d: a gap in the spans of G %d: %v", n, g, got)
				}
				spans++
				if s.Why != "" {
					whys++
				}
			}
		}
		for p := 1; p <= 8; p++ {
			if got := line.P(x, l, p); !slices.Equal(got, ofP(all, p)) {
				t.Fatalf("script %d: the spans of P %d: %v, want %v", n, p, got, ofP(all, p))
			}
		}
		for _, p := range []int{0, -1, 9, math.MinInt, math.MaxInt} {
			if got := line.P(x, l, p); len(got) != 0 {
				t.Fatalf("script %d: the spans of P %d: %v", n, p, got)
			}
		}
	}
	if spans < 1000 || whys < 100 {
		t.Errorf("only %d spans, %d of them with a why", spans, whys)
	}
}

// base has P 1 on M 1, which runs G 1, and G 4 that waits.
func base() api.Snap {
	return api.Snap{Time: 3, Ps: []api.PStat{{M: 1, Seq: 1}, {}}, Gs: []api.GStat{{G: 1, Status: 2, M: 1, Seq: 1}, {G: 4, Status: 3, Seq: 7}}}
}

func TestSpansByHand(t *testing.T) {
	l := []api.Log{
		{Time: 5, M: 1, Kind: api.KUnblock, G: 4, Seq: 7, Why: "no"},
		{Time: 8, M: 1, Kind: api.KStop, G: 1, Why: "yield"},
		{Time: 8, M: 1, Kind: api.KStart, G: 4, Seq: 8, Why: "no"},
		{Time: 9, M: 1, Kind: api.KExit, G: 4, Why: "no"},
		{Time: 9, M: 1, Kind: api.KStart, G: 1, Seq: 2},
		{Time: 12, M: 1, Kind: api.KCreate, G: 4, Why: "no"},
		{Time: 14, M: 1, Kind: api.KBlock, G: 1, Why: "sleep"},
		{Time: 14, M: 1, Kind: api.KUnblock, G: 1, Seq: 4},
		{Time: 15, M: 1, Kind: api.KStart, G: 1, Seq: 5},
		{Time: 17, M: 1, Kind: api.KSysEnter, G: 1, P: 1},
		{Time: 20, M: 1, Kind: api.KSysExit, G: 1, P: 2, Seq: 0},
		{Time: 21, M: 1, Kind: api.KBlock, G: 1},
		{Time: 21, M: 1, Kind: api.KProcStop, P: 2},
		{Time: 30, M: 9, Kind: api.KProcStart, P: 2, Seq: 2},
	}
	if snaps(base(), l) == nil {
		t.Fatal("the log isn't possible")
	}
	for _, c := range []struct {
		got  []api.Span
		want string
	}{
		{line.G(base(), l, 1), "3-8:2:1 8-9:1:0:yield 9-14:2:1 14-14:3:0:sleep 14-15:1:0 15-17:2:1 17-20:4:1 20-21:2:1 21-30:3:0"},
		{line.G(base(), l, 4), "3-5:3:0 5-8:1:0 8-9:2:1 12-30:1:0"},
		{line.G(base(), l, 2), ""},
		{line.G(base(), l, 0), ""},
		{line.P(base(), l, 1), "3-17:1:1 17-30:0:0"},
		{line.P(base(), l, 2), "3-20:0:0 20-21:1:1 21-30:0:0 30-30:1:9"},
		{line.P(base(), l, 3), ""},
		{line.G(base(), nil, 1), "3-3:2:1"},
		{line.G(base(), nil, 4), "3-3:3:0"},
		{line.P(base(), nil, 1), "3-3:1:1"},
		{line.G(base(), l[:1], 1), "3-5:2:1"},
		{line.G(base(), l[:4], 4), "3-5:3:0 5-8:1:0 8-9:2:1"},
	} {
		if got := line.Text(c.got); got != c.want {
			t.Errorf("%q, want %q", got, c.want)
		}
	}
}

func TestNoSpansOfWhatIsNotPossible(t *testing.T) {
	stop := api.Log{Time: 8, M: 1, Kind: api.KStop, G: 1}
	for i, c := range []struct {
		x api.Snap
		l []api.Log
	}{
		{base(), []api.Log{{Time: 2, M: 1, Kind: api.KStop, G: 1}}},
		{base(), []api.Log{{Time: 8, M: 1, Kind: api.KStop, G: 4}}},
		{base(), []api.Log{stop, stop}},
		{base(), []api.Log{stop, {Time: 7, M: 1, Kind: api.KProcStop, P: 1}}},
		{base(), []api.Log{stop, {}}},
		{base(), []api.Log{{Kind: 200}, stop}},
		{api.Snap{Time: -1, Ps: base().Ps, Gs: base().Gs}, nil},
		{api.Snap{Ps: []api.PStat{{}}, Gs: base().Gs}, nil},
		{api.Snap{Ps: []api.PStat{{M: 1}, {M: 1}}, Gs: base().Gs}, nil},
		{api.Snap{Ps: []api.PStat{{M: 1}, {M: 1}}, Gs: base().Gs}, []api.Log{stop}},
	} {
		for n := -1; n < 6; n++ {
			if g, p := line.G(c.x, c.l, n), line.P(c.x, c.l, n); len(g) != 0 || len(p) != 0 {
				t.Errorf("case %d: of %d: %v, %v", i, n, g, p)
			}
		}
	}
}

func TestSum(t *testing.T) {
	sp := func(from, to, status int) api.Span {
		return api.Span{From: from, To: to, Status: status, N: 5, Why: "w"}
	}
	const most = api.Most - 1
	for i, c := range []struct {
		l      []api.Span
		status int
		want   int
	}{
		{nil, 0, 0},
		{[]api.Span{sp(3, 8, 2)}, 2, 5},
		{[]api.Span{sp(3, 8, 2)}, 1, 0},
		{[]api.Span{sp(3, 8, 2), sp(8, 10, 1), sp(10, 10, 2), sp(10, 17, 2)}, 2, 12},
		{[]api.Span{sp(3, 8, -7), sp(0, 1, -7)}, -7, 6},
		{[]api.Span{sp(-1, 8, 2), sp(1, 2, 2)}, 2, 1},
		{[]api.Span{sp(math.MinInt, math.MaxInt, 2), sp(1, 2, 2)}, 2, 1},
		{[]api.Span{sp(9, 8, 2), sp(1, 2, 2)}, 2, 1},
		{[]api.Span{sp(9, -8, 2), sp(0, math.MinInt, 2)}, 2, 0},
		{[]api.Span{sp(0, most, 2)}, 2, most},
		{[]api.Span{sp(0, most, 2), sp(0, 1, 2)}, 2, most},
		{[]api.Span{sp(0, 1, 2), sp(0, most, 2)}, 2, most},
		{[]api.Span{sp(0, most-1, 2), sp(0, 1, 2)}, 2, most},
		{[]api.Span{sp(0, most-1, 2), sp(5, 5, 2)}, 2, most - 1},
		{[]api.Span{sp(0, api.Most, 2)}, 2, most},
		{[]api.Span{sp(0, math.MaxInt, 2)}, 2, most},
		{[]api.Span{sp(math.MaxInt, math.MaxInt, 2)}, 2, 0},
		{slices.Repeat([]api.Span{sp(0, math.MaxInt, 2)}, 9), 2, most},
		{slices.Repeat([]api.Span{sp(0, 1<<60, 2)}, 4), 2, most},
		{slices.Repeat([]api.Span{sp(0, 1<<60, 2)}, 3), 2, 3 << 60},
	} {
		if got := line.Sum(c.l, c.status); got != c.want {
			t.Errorf("case %d: %d, want %d", i, got, c.want)
		}
	}
}

func TestText(t *testing.T) {
	if s := line.Text([]api.Span{{From: 3, To: 8, Status: 2, N: 1}}); s != "3-8:2:1" {
		t.Errorf("the chapter's example: %q", s)
	}
	for want, l := range map[string][]api.Span{
		"":                            nil,
		"0-0:0:0":                     {{}},
		"0-0:0:0 0-0:0:0":             {{}, {}},
		"-1--20:-3:-4":                {{From: -1, To: -20, Status: -3, N: -4}},
		"1-2:3:4:why 5-6:7:8":         {{From: 1, To: 2, Status: 3, N: 4, Why: "why"}, {From: 5, To: 6, Status: 7, N: 8}},
		"0-0:0:0: :":                  {{Why: " :"}},
		"0-9223372036854775807:100:0": {{To: math.MaxInt, Status: 100}},
	} {
		if got := line.Text(l); got != want {
			t.Errorf("%q, want %q", got, want)
		}
	}
	if got := line.Text(slices.Repeat([]api.Span{{}}, 5000)); got != strings.TrimSuffix(strings.Repeat("0-0:0:0 ", 5000), " ") {
		t.Error("many spans")
	}
}

func TestArgumentsStay(t *testing.T) {
	x, l := base(), []api.Log{{Time: 8, M: 1, Kind: api.KStop, G: 1}}
	line.G(x, l, 1)
	line.P(x, l, 1)
	if !sample.SameSnap(x, base()) || !sample.SameLogs(l, []api.Log{{Time: 8, M: 1, Kind: api.KStop, G: 1}}) {
		t.Error("an argument is changed")
	}
}
