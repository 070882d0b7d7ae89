package event_test

import (
	"slices"
	"strings"
	"testing"

	"poacher/event"
)

// signs is told anew, of who is there.
func signs(calls [][]int, who []int, w int) int {
	m, _, at := played(calls, who)
	many := 0
	if has(m[eventAt], w) {
		many++
	}
	for _, f := range at {
		if f.Pc == 2 && (f.Op == one && f.Y == uint64(w) || f.Op == every && has(f.Y, w)) {
			many++
		}
	}
	if m[10+4*w] > 0 {
		many++
	}
	return many
}

// states asks that States answers what is told anew, of each worker.
func states(t *testing.T, calls [][]int, who []int) {
	t.Helper()
	for w := range calls {
		if got, want := event.States(calls, who, w), signs(calls, who, w); got != want {
			t.Fatalf("States(%v, %v, %d) = %d, want %d", calls, who, w, got, want)
		}
	}
}

// marks are a worker's states behind each number of turns.
func marks(calls [][]int, who []int, w int) string {
	var out strings.Builder
	for n := range len(who) + 1 {
		out.WriteByte("-012345678"[1+event.States(calls, who[:n], w)])
	}
	return out.String()
}

func TestStatesByHand(t *testing.T) { // P16.3: written out, a mark behind each number of turns, of each worker
	four := [][]int{{wt}, {wt}, {wt}, {wt}, {one}, {every}, {one}}
	fourWait := slices.Concat(turns(3, 0), turns(3, 1), turns(3, 2), turns(3, 3))
	for i, x := range []struct {
		calls [][]int
		who   []int
		want  string
	}{
		{[][]int{{wt}}, turns(9, 0), "0001111111"},                                                                                                                        // the bit stays
		{[][]int{{one, every}}, turns(9, 0), "0000000000"},                                                                                                                // nobody waits
		{[][]int{{wt, wt}, {one}}, slices.Concat(turns(3, 0), turns(3, 1), turns(3, 0)), "0001111100 0000000000"},                                                         // bit, owed, there, noticed
		{[][]int{{wt, wt}, {every}}, slices.Concat(turns(3, 0), turns(3, 1), turns(5, 0)), "000111110001 000000000000"},                                                   // parked once more
		{[][]int{{wt}, {one}}, []int{0, 1, 1, 0, 0, 0}, "0000000 0000000"},                                                                                                // prepared ahead of a wake
		{[][]int{{wt}, {wt}}, []int{0, 0, 1, 1, 1, 0, 0, 0}, "000000001 000001111"},                                                                                       // somebody else's bit was quicker
		{[][]int{{wt}, {wt}, {every}}, slices.Concat(turns(3, 0), turns(3, 1), turns(4, 2), turns(2, 1), turns(2, 0)), "000111111111110 000000111111000 000000000000000"}, // all are owed one
		{[][]int{{wt}, {wt}, {one}, {one}}, slices.Concat(turns(3, 1), turns(3, 0), []int{2, 2, 3, 3, 3, 2}, turns(2, 1), turns(2, 0)), "00000011111111110 00011111111111000 00000000000000000 00000000000000000"},
		{[][]int{{wt, one, wt}, {one}}, slices.Concat(turns(3, 0), turns(3, 1), turns(7, 0), turns(1, 1)), "000111110000011 000000000000000"}, // it waits, and wakes
		{four, slices.Concat(fourWait, []int{4, 4, 5, 5, 6, 6, 5, 5, 5, 4}), "00011111111111111111111 00000011111111111111111 00000000011111111111111 00000000000011111111111 00000000000000000000000 00000000000000000000000 00000000000000000000000"},
	} {
		var got []string
		for w := range x.calls {
			got = append(got, marks(x.calls, x.who, w))
		}
		if all := strings.Join(got, " "); all != x.want {
			t.Errorf("%d: %s, want %s", i, all, x.want)
		}
	}
}

func TestStatesOfSeveralWhoWake(t *testing.T) { // P16.3: all wakes at hand at once, of whom each owes another one; each owes till its 1 is there
	for many := 1; many <= 4; many++ {
		calls := make([][]int, 2*many)
		var who []int
		for w := range many {
			calls[w], calls[many+w] = []int{wt}, []int{one}
			who = append(who, turns(3, w)...)
		}
		calls[2*many-1] = []int{every}
		for w := range many {
			who = append(who, turns(2, many+w)...)
		}
		for w := range many {
			who = append(who, turns(1, 2*many-1-w)...)
		}
		for w := range many {
			who = append(who, turns(2, w)...)
		}
		for n := range len(who) + 1 {
			for w := range calls {
				want := 0
				if w < many && n >= 3*w+3 && n < 6*many+2*w+2 {
					want = 1
				}
				if got := event.States(calls, who[:n], w); got != want {
					t.Fatalf("States(%v, %v, %d) = %d, want %d", calls, who[:n], w, got, want)
				}
			}
		}
	}
}

func TestStatesOfNobody(t *testing.T) { // P16.3: -1, as many as there are lists, the smallest and the largest, and those that narrower kinds would take for small ones
	for many := 1; many <= 8; many++ {
		calls := slices.Repeat([][]int{{wt, one}}, many)
		who := slices.Repeat(everyone(many), 3)
		for n := range len(who) + 1 {
			for _, w := range append(far(), many, many+1, 8, 9, 15, 16) {
				if got := event.States(calls, who[:n], w); got != -1 {
					t.Fatalf("States(%v, %v, %d) = %d", calls, who[:n], w, got)
				}
			}
		}
	}
}

func TestStatesInAllOrders(t *testing.T) { // P16.3: all lists of who, of two and of three
	for _, calls := range pairs() {
		for n := range 11 {
			inAllScripts(2, n, func(who []int) { states(t, calls, who) })
		}
	}
	for _, calls := range threes() {
		inAllScripts(3, 7, func(who []int) { states(t, calls, append([]int{0, 0, 0}, who...)) })
	}
}

func TestStatesInDrawnOrders(t *testing.T) { // P16.3: of each number of lists; with other Ops, and with who there is none of
	for many := 1; many <= 8; many++ {
		for seed := range 60 {
			draw := drawn(7000 + 100*many + seed)
			calls := lists(draw, many, draw(90))
			states(t, calls, script(draw, many, draw(900)))
		}
	}
}
