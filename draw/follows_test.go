package draw_test

import (
	"math"
	"slices"
	"testing"

	"poacher/api"
	"poacher/draw"
)

func TestAVictimIsAnotherOne(t *testing.T) { // P5.5
	for w := 2; w <= 64; w++ {
		for self := range w {
			for _, d := range draws(w) {
				if v := draw.Victim(d, self, w); v == self || v < 0 || v >= w {
					t.Fatalf("Victim(%d, %d, %d) = %d", d, self, w, v)
				}
			}
		}
	}
}

func TestEachOtherOneIsAVictim(t *testing.T) { // P5.5: of as many draws, one behind the other, as there are others, also the largest ones
	for w := 2; w <= 40; w++ {
		for self := range w {
			for _, first := range []uint64{0, 1, 100, 1<<63 - 5, math.MaxUint64 - uint64(w) + 2} {
				told := make([]int, w)
				for more := range w - 1 {
					told[draw.Victim(first+uint64(more), self, w)]++
				}
				want := slices.Repeat([]int{1}, w)
				want[self] = 0
				if !slices.Equal(told, want) {
					t.Fatalf("of %d workers %d seeks, from draw %d on: %v", w, self, first, told)
				}
			}
		}
	}
}

func TestRoundsAreFair(t *testing.T) { // P5.5
	for w := range 21 {
		for s := range 21 {
			n := w + s
			if n == 0 {
				continue
			}
			var l []api.Pick
			for d := range uint64(5) {
				l = append(l, draw.Round(w, s, d)...)
			}
			if !draw.Fair(l, w, s, 2*n-1) || !draw.Fair(l, w, s, n) {
				t.Fatalf("rounds of %d workers and %d submitters are not fair", w, s)
			}
			if got, want := draw.Fair(l, w, s, 2*n-2), n > 1; got != want { // they all have one order, so that one fewer does, if any are left
				t.Fatalf("rounds of %d workers and %d submitters, stretches of %d: %v", w, s, 2*n-2, got)
			}
			if draw.Fair(l, w, s, n-1) {
				t.Fatalf("rounds of %d workers and %d submitters are fair for %d", w, s, n-1)
			}
		}
	}
}

func TestRoundsInAnyOrderAreFair(t *testing.T) { // P5.5: for twice as many as a round has, less 1, and for no fewer
	for w := range 21 {
		for s := range 21 {
			n := w + s
			if n < 2 {
				continue
			}
			back := draw.Round(w, s, 8)
			slices.Reverse(back)
			l := slices.Concat(draw.Round(w, s, 7), back, draw.Round(w, s, 9), back)
			if !draw.Fair(l, w, s, 2*n-1) || draw.Fair(l, w, s, 2*n-2) {
				t.Fatalf("of %d workers and %d submitters: %d: %v, %d: %v", w, s, 2*n-1, draw.Fair(l, w, s, 2*n-1), 2*n-2, draw.Fair(l, w, s, 2*n-2))
			}
		}
	}
}

func TestRoundsOfNobodyAreFair(t *testing.T) { // P5.4, P5.5: they have no picks, and nobody can be lacking
	l := draw.Round(0, 0, 3)
	if len(l) != 0 || !draw.Fair(l, 0, 0, 1) || draw.Fair(l, 0, 0, 0) || draw.Fair(l, 0, 0, -1) {
		t.Errorf("%v", l)
	}
}

func TestAllOfARoundFit(t *testing.T) { // P5.2
	for w := range 21 {
		for s := range 21 {
			for _, p := range draw.Round(w, s, math.MaxUint64) {
				if !draw.Fits(p, w, s) {
					t.Fatalf("%v of a round of %d and %d does not fit", p, w, s)
				}
			}
		}
	}
}

func TestHandedInStays(t *testing.T) { // R3: also what lies behind the ends
	bytes := slices.Repeat([]byte{9, 8, 7, 250}, 25)
	wasBytes := slices.Clone(bytes)
	for n := range 60 {
		draw.Decode(bytes[:n])
		if !slices.Equal(bytes, wasBytes) {
			t.Fatalf("of %d bytes: %v are now %v", n, wasBytes, bytes)
		}
	}
	picks := append(slices.Repeat(draw.Round(3, 2, 4), 5), idle()...)
	wasPicks := slices.Clone(picks)
	for n := range len(picks) {
		for _, f := range []int{0, 1, 5, 9, n, n + 1} {
			draw.Fair(picks[:n], 3, 2, f)
			draw.Fair(picks[:n], 0, 0, f)
			draw.Fair(picks[:n], 21, 0, f)
		}
		if !slices.Equal(picks, wasPicks) {
			t.Fatalf("of %d picks: %v are now %v", n, wasPicks, picks)
		}
	}
}

func TestAnswersShareNothing(t *testing.T) { // R3, R5
	bytes := []byte{1, 2, 3, 4, 5, 6, 7, 8}
	for i, ask := range []func() []api.Pick{
		func() []api.Pick { return draw.Decode(bytes) },
		func() []api.Pick { return draw.Decode(bytes[:3]) },
		func() []api.Pick { return draw.Decode(nil) },
		func() []api.Pick { return draw.Round(3, 2, 4) },
		func() []api.Pick { return draw.Round(20, 20, 4) },
		func() []api.Pick { return draw.Round(0, 0, 4) },
		func() []api.Pick { return draw.Round(21, 0, 4) },
	} {
		one, two := ask(), ask()
		want := slices.Clone(two)
		if !slices.Equal(one, two) {
			t.Fatalf("%d: %v, then %v", i, one, two)
		}
		for at := range one[:cap(one)] {
			one[:cap(one)][at] = api.Pick{Kind: 4321, Who: 4321, Draw: 4321}
		}
		_ = append(one, api.Pick{Kind: 4321})
		if !slices.Equal(two, want) || !slices.Equal(ask(), want) {
			t.Fatalf("%d: a change is seen in another answer", i)
		}
	}
	if !slices.Equal(bytes, []byte{1, 2, 3, 4, 5, 6, 7, 8}) {
		t.Errorf("the answers change what was handed in: %v", bytes)
	}
}

func TestLaterChangesAreNotSeen(t *testing.T) { // R3
	bytes := []byte{1, 2, 3, 4, 5, 6, 7, 8}
	got := draw.Decode(bytes)
	want := slices.Clone(got)
	for i := range bytes {
		bytes[i] = 99
	}
	if !slices.Equal(got, want) {
		t.Errorf("what was handed in changes the answer: %v are now %v", want, got)
	}
}

func TestNothingIsKept(t *testing.T) { // R5
	l := []api.Pick{work(0), sub(0), work(1), work(0), sub(0)}
	for _, other := range [][]api.Pick{nil, l, l[:2], idle(), draw.Round(20, 20, 9)} {
		for _, n := range []int{-1, 0, 1, 2, 20, 21} {
			draw.Decode([]byte{7, 7, 7, 7})
			draw.Round(n, n, 9)
			draw.Fair(other, n, n, n)
			draw.Victim(9, 0, n)
			if draw.Fair(l, 2, 1, 2) || draw.Fair(l, 2, 1, 3) != true || draw.Victim(1, 2, 3) != 1 ||
				!slices.Equal(draw.Round(1, 1, 5), []api.Pick{{Kind: api.PkWork, Draw: 5}, {Kind: api.PkSub, Draw: 5}}) ||
				!slices.Equal(draw.Decode([]byte{4, 1, 2}), []api.Pick{{Kind: api.PkWork, Who: 1, Draw: 2}}) {
				t.Fatalf("an answer hangs on what was asked before: %v, %d", other, n)
			}
		}
	}
}
