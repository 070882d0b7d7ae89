package draw_test

import (
	"math"
	"slices"
	"testing"

	"poacher/api"
	"poacher/draw"
)

// fair goes through each stretch anew, and looks for each one in it.
func fair(l []api.Pick, w, s, f int) bool {
	if w < 0 || w > 20 || s < 0 || s > 20 || f < 1 {
		return false
	}
	for from := 0; from < len(l) && f <= len(l)-from; from++ {
		part := l[from : from+f]
		for who := range w {
			if !slices.Contains(part, work(who)) {
				return false
			}
		}
		for who := range s {
			if !slices.Contains(part, sub(who)) {
				return false
			}
		}
	}
	return true
}

// all are the lists of n of some picks.
func all(some []api.Pick, n int) [][]api.Pick {
	out := [][]api.Pick{nil}
	for range n {
		var next [][]api.Pick
		for _, l := range out {
			for _, p := range some {
				next = append(next, append(slices.Clone(l), p))
			}
		}
		out = next
	}
	return out
}

func TestFairOfAllShortLists(t *testing.T) { // P5.4
	some := []api.Pick{work(0), work(1), sub(0), sub(1), {Kind: api.PkNone}}
	for n := range 7 {
		for _, l := range all(some, n) {
			for w := range 3 {
				for s := range 3 {
					for f := range n + 3 {
						if got, want := draw.Fair(l, w, s, f), fair(l, w, s, f); got != want {
							t.Fatalf("Fair(%v, %d, %d, %d) is %v", l, w, s, f, got)
						}
					}
				}
			}
		}
	}
}

func TestFairByHand(t *testing.T) { // P5.4: written out
	a, b, c, none := work(0), work(1), sub(0), api.Pick{Kind: api.PkNone}
	for _, x := range []struct {
		l       []api.Pick
		w, s, f int
		want    bool
	}{
		{nil, 0, 0, 1, true}, {nil, 2, 1, 1, true}, {nil, 20, 20, 1, true},
		{[]api.Pick{a}, 1, 0, 1, true}, {[]api.Pick{a}, 2, 0, 1, false}, {[]api.Pick{a}, 2, 0, 2, true}, {[]api.Pick{a}, 0, 1, 1, false},
		{[]api.Pick{none}, 0, 0, 1, true}, {[]api.Pick{none}, 1, 0, 1, false}, {[]api.Pick{none}, 0, 1, 1, false},
		{[]api.Pick{a, b, c, a, b, c}, 2, 1, 3, true}, {[]api.Pick{a, b, c, a, b, c}, 2, 1, 2, false},
		{[]api.Pick{a, a, b, a, b, a}, 2, 0, 2, false}, // the first stretch lacks b
		{[]api.Pick{b, b, a, b, a, b}, 2, 0, 2, false}, // the first stretch lacks a
		{[]api.Pick{a, b, a, a, b, a}, 2, 0, 2, false}, // one of the midst lacks b
		{[]api.Pick{a, b, a, b, a, a}, 2, 0, 2, false}, // the last stretch lacks b
		{[]api.Pick{a, b, a, b, b}, 2, 0, 2, false},    // the last stretch lacks a
		{[]api.Pick{a, b, a, b, a, b}, 2, 0, 2, true},
		{[]api.Pick{a, a, c, a, c, a}, 1, 1, 2, false}, // the first stretch lacks the submitter
		{[]api.Pick{a, c, a, none, c}, 1, 1, 2, false}, // one of the midst lacks it
		{[]api.Pick{c, a, c, a, a}, 1, 1, 2, false},    // the last one lacks it
		{[]api.Pick{a, c, a, a, c}, 1, 1, 3, true},
		{[]api.Pick{b, none, none, a, c}, 2, 1, 5, true}, {[]api.Pick{b, none, none, a, c}, 2, 1, 4, false}, {[]api.Pick{b, none, none, a, c}, 3, 1, 5, false}, {[]api.Pick{b, none, none, a, c}, 3, 1, 6, true},
	} {
		if got := draw.Fair(x.l, x.w, x.s, x.f); got != x.want {
			t.Errorf("Fair(%v, %d, %d, %d) is %v", x.l, x.w, x.s, x.f, got)
		}
	}
}

// lacking is l, with picks of nobody for each pick of p that stands from low on to below high.
func lacking(l []api.Pick, p api.Pick, low, high int) []api.Pick {
	out := slices.Clone(l)
	for i := low; i < high; i++ {
		if out[i] == p {
			out[i] = api.Pick{Kind: api.PkNone, Who: p.Who}
		}
	}
	return out
}

func TestOneIsLackingInOneStretch(t *testing.T) { // P5.4: in the first one, in each of the midst, and in the last one
	for _, n := range [][2]int{{1, 0}, {0, 1}, {3, 2}, {2, 3}, {5, 0}, {0, 5}, {20, 20}} {
		round := draw.Round(n[0], n[1], 0)
		f := 2*len(round) - 1
		l := slices.Repeat(round, 5)
		for _, p := range round {
			for from := 0; from+f <= len(l); from++ {
				lack := lacking(l, p, from, from+f)
				if draw.Fair(lack, n[0], n[1], f) {
					t.Fatalf("%d workers, %d submitters, stretches of %d: %v is lacking from %d on", n[0], n[1], f, p, from)
				}
			}
		}
		if !draw.Fair(l, n[0], n[1], f) {
			t.Fatalf("%d workers, %d submitters, stretches of %d: nobody is lacking", n[0], n[1], f)
		}
	}
}

func TestFairByLengthOfStretch(t *testing.T) { // P5.4: as many as there are picks, one more, and the ends of the numbers
	for _, l := range [][]api.Pick{{work(0)}, {sub(0)}, {work(0), sub(0), work(1)}, draw.Round(20, 20, 5), slices.Repeat([]api.Pick{{Kind: api.PkNone}}, 9)} {
		for _, f := range append(far(), 0, 1, 2, len(l)-1, len(l), len(l)+1, len(l)+2) {
			for _, n := range [][2]int{{0, 0}, {1, 0}, {0, 1}, {2, 1}, {20, 20}} {
				var bare []api.Pick // a draw counts for nothing
				for _, p := range l {
					bare = append(bare, api.Pick{Kind: p.Kind, Who: p.Who})
				}
				if got, want := draw.Fair(l, n[0], n[1], f), fair(bare, n[0], n[1], f); got != want {
					t.Errorf("Fair(%v, %d, %d, %d) is %v", l, n[0], n[1], f, got)
				}
			}
		}
	}
}

func TestFairByNumberOfThem(t *testing.T) { // P5.4: from 0 to 20, though more are picked, or none
	var many []api.Pick
	for who := range 40 {
		many = append(many, work(who), sub(who))
	}
	for _, l := range [][]api.Pick{nil, many} {
		for w := -2; w <= 42; w++ {
			for s := -2; s <= 42; s++ {
				want := w >= 0 && w <= 20 && s >= 0 && s <= 20
				for _, f := range []int{80, 81, math.MaxInt} {
					if got := draw.Fair(l, w, s, f); got != want {
						t.Fatalf("of %d picks: %d workers, %d submitters, stretches of %d: %v", len(l), w, s, f, got)
					}
				}
			}
		}
		for _, wrong := range append(far(), 21) {
			for _, other := range append(far(), 0, 1, 20, 21) {
				if draw.Fair(l, wrong, other, 80) || draw.Fair(l, other, wrong, 80) {
					t.Fatalf("of %d picks: fair for %d and %d", len(l), wrong, other)
				}
			}
		}
	}
}

func TestFairAsksWhoIsPicked(t *testing.T) { // P5.4: picks of nobody count for nobody, and stand in the way of nobody
	for _, p := range idle() {
		if p.Who != 1 && draw.Fair([]api.Pick{work(1), sub(0), sub(1), p}, 2, 2, 4) {
			t.Errorf("%v is taken for worker 0", p)
		}
		if p.Who != 1 && draw.Fair([]api.Pick{work(0), work(1), sub(1), p}, 2, 2, 4) {
			t.Errorf("%v is taken for submitter 0", p)
		}
		if draw.Fair([]api.Pick{work(0), sub(0), sub(1), p}, 2, 2, 4) || draw.Fair([]api.Pick{work(0), work(1), sub(0), p}, 2, 2, 4) {
			t.Errorf("%v is taken for worker 1, or submitter 1", p)
		}
		if !draw.Fair([]api.Pick{p, work(0), sub(0), sub(1), p, work(1), p}, 2, 2, 7) {
			t.Errorf("%v stands in the way of somebody", p)
		}
	}
}

func TestFairKeepsWorkersAndSubmittersApart(t *testing.T) { // P5.4
	for w := range 21 {
		for s := range 21 {
			if w == s {
				continue
			}
			if round := draw.Round(w, s, 3); draw.Fair(round, s, w, len(round)) || !draw.Fair(round, w, s, len(round)) {
				t.Errorf("%d workers and %d submitters", w, s)
			}
		}
	}
}

func TestAnyListComesToAnEnd(t *testing.T) { // P1, R1: very many picks, and long stretches of them
	l := slices.Repeat(draw.Round(20, 20, 1), 1<<15)
	one := api.Pick{Kind: api.PkSub, Who: 19, Draw: 1}
	for _, f := range []int{40, 41, 79, len(l) / 2, len(l) - 1, len(l)} {
		if !draw.Fair(l, 20, 20, f) {
			t.Errorf("of %d picks: stretches of %d are not fair", len(l), f)
		}
		if draw.Fair(lacking(l, one, len(l)-f, len(l)), 20, 20, f) {
			t.Errorf("of %d picks: the last stretch of %d lacks one", len(l), f)
		}
	}
	if !draw.Fair(l, 20, 20, len(l)+1) || !draw.Fair(l, 20, 20, math.MaxInt) {
		t.Errorf("of %d picks: longer stretches, of which there are none, are not fair", len(l))
	}
}
