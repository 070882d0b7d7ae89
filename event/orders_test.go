package event_test

import (
	"slices"
	"testing"

	"poacher/api"
	"poacher/event"
)

// hall is a script, what Play has behind it, and, of each list whose wait has not set its bit yet, how many wakes had been given when that began.
type hall struct {
	calls    [][]int
	who      []int
	m        api.Mem
	over, at []api.Frame
	since    [8]int
}

func enter(calls [][]int) hall {
	h := hall{calls: calls}
	h.m, h.over, h.at = event.Play(calls, nil)
	return h
}

// behind is the hall behind one turn more.
func (h hall) behind(i int) hall {
	next := hall{calls: h.calls, who: append(slices.Clone(h.who), i), since: h.since}
	next.m, next.over, next.at = event.Play(next.calls, next.who)
	return next
}

// seeks is whether i has a wait that has not set its bit yet.
func (h hall) seeks(i int) bool { return h.at[i].Op == wt && h.at[i].Pc < 3 }

// sleeps is whether i is parked, or will store 0 into its park cell.
func (h hall) sleeps(i int) bool { return h.at[i].Op == wt && h.at[i].Pc >= 3 }

func (h hall) park(w int) uint64 { return h.m[10+4*w] }

// wakes hands on whom the wakes woke, each of them; bits that are owed still are not among them.
func (h hall) wakes(woke func(mask uint64)) {
	for _, f := range h.over {
		switch {
		case f.Op == one && f.Res == api.ResOk:
			woke(powers()[f.Val])
		case f.Op == every && f.Res == api.ResOk:
			woke(f.Val)
		}
	}
	for _, f := range h.at {
		if f.Op == every && f.Pc == 2 {
			woke(f.X%65536 - f.Y)
		}
	}
}

// given is how many wakes have had their exchange.
func (h hall) given() int {
	many := 0
	for _, f := range h.over {
		if f.Op != wt {
			many++
		}
	}
	for _, f := range h.at {
		if f.Op != wt && f.Pc == 2 {
			many++
		}
	}
	return many
}

// woken is how often each was woken, and left how often each has left for a wake.
func (h hall) woken() [8]int {
	var many [8]int
	h.wakes(func(mask uint64) {
		for w := range many {
			if has(mask, w) {
				many[w]++
			}
		}
	})
	return many
}

func (h hall) left() [8]int {
	var many [8]int
	for _, f := range h.over {
		if f.Op == wt && f.Res == api.ResOk {
			many[f.Who]++
		}
	}
	return many
}

func sum(many [8]int) int {
	all := 0
	for _, n := range many {
		all += n
	}
	return all
}

// told is the hall behind one turn more; it asks what holds of that turn.
func (h hall) told(t *testing.T, i int) hall {
	t.Helper()
	next := h.behind(i)
	if i < 0 || i >= len(h.at) {
		if !slices.Equal(next.m, h.m) || !slices.Equal(next.over, h.over) || !slices.Equal(next.at, h.at) {
			t.Fatalf("%+v, nobody's turn: %+v", h, next)
		}
		return next
	}
	if next.seeks(i) && !h.seeks(i) {
		next.since[i] = h.given()
	}
	if next.sleeps(i) && !h.sleeps(i) && h.since[i] != h.given() {
		t.Fatalf("%+v: %d waits, though it was prepared ahead of a wake", next, i)
	}
	if !next.seeks(i) {
		next.since[i] = 0
	}
	for w := range h.at {
		if w != i && h.at[w] != next.at[w] {
			t.Fatalf("%+v: it is %d's turn, not %d's", next, i, w)
		}
	}
	h.ended(t, next, i)
	return next
}

// ended asks what holds of a call that is over behind this turn.
func (h hall) ended(t *testing.T, next hall, i int) {
	t.Helper()
	if len(next.over) == len(h.over) {
		return
	}
	f := next.over[len(h.over)]
	if len(next.over) > len(h.over)+1 || f.Who != i || next.at[i].Op != -1 {
		t.Fatalf("%+v: more is over than one step may end", next)
	}
	switch {
	case f.Op != wt && (f.Res == api.ResOk || f.Res == api.ResEmpty):
	case f.Op == wt && f.Res == api.ResAbort:
		if !h.seeks(i) || h.since[i] == h.given() {
			t.Fatalf("%+v: %d does not wait, though nobody woke", next, i)
		}
	case f.Op == wt && f.Res == api.ResOk:
		if h.at[i].Pc != 4 || h.park(i) != 1 || next.park(i) != 0 {
			t.Fatalf("%+v: %d has woken without a wake", next, i)
		}
	default:
		t.Fatalf("%+v: %+v has no such result", next, f)
	}
}

// everywhere asks what holds behind each turn: who is parked, or will store 0, has just one sign, and in its last step the wake is there; who is neither has none; no more have woken than were woken.
func (h hall) everywhere(t *testing.T) {
	t.Helper()
	woken, left := h.woken(), h.left()
	if sum(left) > sum(woken) || h.m[eventAt]/65536 != uint64(h.given()) {
		t.Fatalf("%+v: more have woken than were woken, or another epoch", h)
	}
	for w := range h.at {
		want := 0
		if h.sleeps(w) {
			want = 1
		}
		if got := event.States(h.calls, h.who, w); got != want {
			t.Fatalf("%+v: %d has %d signs", h, w, got)
		}
		there := 0
		if h.park(w) != 0 {
			there = 1
		}
		if woken[w] != left[w]+there || there == 0 && h.at[w].Op == wt && h.at[w].Pc == 4 {
			t.Fatalf("%+v: %d was woken %d times, and has woken %d times", h, w, woken[w], left[w])
		}
		if h.seeks(w) && h.since[w] < h.given() {
			h.aborts(t, w)
		}
	}
}

// aborts asks that one who was prepared ahead of a wake is over by two turns at most, and changes no cell.
func (h hall) aborts(t *testing.T, w int) {
	t.Helper()
	next := h
	for range 2 {
		if len(next.over) == len(h.over) {
			next = next.behind(w)
		}
	}
	if len(next.over) != len(h.over)+1 || next.over[len(h.over)] != ended(wt, w, api.ResAbort, 0) || !slices.Equal(next.m, h.m) {
		t.Fatalf("%+v: %d was prepared ahead of a wake; behind it: %+v", h, w, next)
	}
}

// spot is all on which what may follow hangs, and all that everywhere asks for; of four lists at most.
type spot struct {
	cells       [24]uint64
	at          [4]api.Frame
	begun       [4]int
	since       [8]int
	woken, left [8]int
}

func (h hall) spot() spot {
	s := spot{begun: h.begun(), since: h.since, woken: h.woken(), left: h.left()}
	copy(s.cells[:], h.m)
	copy(s.at[:], h.at)
	return s
}

// begun is how many calls of each list were begun; lists have no other Ops here.
func (h hall) begun() [4]int {
	var many [4]int
	for _, f := range h.over {
		many[f.Who]++
	}
	for i, f := range h.at {
		if f.Op != -1 {
			many[i]++
		}
	}
	return many
}

// rests is whether no turn changes anything any more: all lists are done, but for who is parked.
func (h hall) rests() bool {
	begun := h.begun()
	for i, f := range h.at {
		done := f.Op == -1 && begun[i] == len(h.calls[i])
		if !done && !(h.sleeps(i) && f.Pc == 3 && h.park(i) == 0 && has(h.m[eventAt], i)) {
			return false
		}
	}
	return true
}

// inEachOrder goes on with all orders of turns, but from each spot once; it asks what holds everywhere, and hands on how all rest.
func (h hall) inEachOrder(t *testing.T, seen map[spot]bool, rest func(h hall)) {
	t.Helper()
	here := h.spot()
	if seen[here] {
		return
	}
	seen[here] = true
	h.everywhere(t)
	if h.rests() {
		rest(h)
		return
	}
	for i := range h.calls {
		if h.at[i].Op != -1 || here.begun[i] < len(h.calls[i]) {
			h.told(t, i).inEachOrder(t, seen, rest)
		}
	}
}

// few are one or two who wait, beside one or two who wake; and some who do both. most is how many may be woken, of all orders.
func few() []struct {
	calls [][]int
	most  int
} {
	return []struct {
		calls [][]int
		most  int
	}{
		{[][]int{{wt}, {one}}, 1},
		{[][]int{{wt}, {every}}, 1},
		{[][]int{{wt, wt, wt}, {one, one}}, 2},
		{[][]int{{wt, wt, wt}, {every, one, every}}, 3},
		{[][]int{{wt, wt}, {one}, {one}}, 2},
		{[][]int{{wt, wt}, {every}, {every}}, 2},
		{[][]int{{wt, wt}, {one}, {every}}, 2},
		{[][]int{{wt, wt}, {one, every}, {every, one}}, 2},
		{[][]int{{wt}, {wt}, {one}}, 1},
		{[][]int{{wt}, {wt}, {every}}, 2},
		{[][]int{{wt, wt}, {wt}, {one, one}}, 2},
		{[][]int{{wt, wt}, {wt}, {every, one}}, 3},
		{[][]int{{wt}, {wt}, {one}, {one}}, 2},
		{[][]int{{wt}, {wt}, {every}, {every}}, 2},
		{[][]int{{wt}, {wt}, {one}, {every}}, 2},
		{[][]int{{wt, wt}, {wt}, {one}, {every}}, 3},
		{[][]int{{wt, wt}, {wt, wt}, {one, one}}, 2},
		{[][]int{{wt, wt}, {wt, wt}, {one, every}}, 3},
		{[][]int{{wt, wt}, {wt}, {one, one}, {every}}, 3},
		{[][]int{{wt, one}, {one, wt}}, 2},
		{[][]int{{wt, every, wt}, {one, wt, one}}, 3},
		{[][]int{{wt, one}, {wt, one}, {every}}, 2},
	}
}

func TestInAllOrders(t *testing.T) { // P16.4: of few calls; each number of those that are woken is met, up to the most
	for _, x := range few() {
		reached := map[int]bool{}
		enter(x.calls).inEachOrder(t, map[spot]bool{}, func(h hall) {
			if woken := sum(h.woken()); woken == sum(h.left()) {
				reached[woken] = true
				return
			}
			t.Fatalf("%+v: a wake is there still", h)
		})
		for many := range 5 {
			if reached[many] != (many <= x.most) {
				t.Errorf("%v: woken were %v", x.calls, reached)
			}
		}
	}
}

func TestInDrawnOrders(t *testing.T) { // P16.4: of many calls, and each number of lists, at each turn
	woken, aborted, empty := 0, 0, 0
	for many := 1; many <= 8; many++ {
		for seed := range 12 {
			draw := drawn(9000 + 100*many + seed)
			h := enter(lists(draw, many, 60))
			for _, i := range script(draw, many, 25*many) {
				h = h.told(t, i)
				h.everywhere(t)
			}
			woken += sum(h.left())
			for _, f := range h.over {
				switch f.Res {
				case api.ResAbort:
					aborted++
				case api.ResEmpty:
					empty++
				}
			}
		}
	}
	if woken < 100 || aborted < 100 || empty < 100 {
		t.Errorf("%d were woken, %d were prepared ahead of a wake, %d woke nobody", woken, aborted, empty)
	}
}

func TestInLongDrawnOrders(t *testing.T) { // P16.4: of many more calls, where the script ends
	for many := 1; many <= 8; many++ {
		for seed := range 10 {
			draw := drawn(50000 + 100*many + seed)
			h := enter(lists(draw, many, 2000))
			h.who = script(draw, many, draw(9000))
			h.m, h.over, h.at = event.Play(h.calls, h.who)
			h.since = since(h)
			h.everywhere(t)
		}
	}
}

// since is told by the epochs that are prepared, for long scripts: no epoch comes around.
func since(h hall) [8]int {
	var all [8]int
	for i, f := range h.at {
		if h.seeks(i) {
			all[i] = int(f.X / 65536)
		}
	}
	return all
}

func TestPreparedAheadOfAWake(t *testing.T) { // P16.4: behind one step, or two, however many wait, and whoever is woken
	for many := 2; many <= 8; many++ {
		for _, op := range []int{one, every} {
			for i := range many - 1 {
				for ahead := 1; ahead <= 3; ahead++ {
					for others := range many - 1 { // so many are parked ahead of it, but not i
						calls := slices.Repeat([][]int{{wt}}, many)
						calls[many-1] = []int{op}
						var who []int
						for w := range others {
							if w != i {
								who = append(who, turns(3, w)...)
							}
						}
						who = slices.Concat(who, turns(ahead, i), turns(9, many-1), turns(4-ahead, i))
						_, over, at := event.Play(calls, who)
						late := ended(wt, i, api.ResAbort, 0)
						if slices.Contains(over, late) != (ahead < 3) || (at[i].Op == -1) != (ahead < 3) {
							t.Fatalf("Play(%v, %v): %+v, %+v", calls, who, over, at)
						}
					}
				}
			}
		}
	}
}

func TestWhoIsParkedIsWoken(t *testing.T) { // P16.4: each wake of one wakes the lowest one, one of all wakes all; who is woken leaves, and no one else
	for many := 2; many <= 8; many++ {
		for mask := range 1 << (many - 1) {
			calls := slices.Repeat([][]int{{wt}}, many)
			calls[many-1] = append(times(many, one), every)
			var ahead []int
			var waits []api.Frame
			for w := range many - 1 {
				if mask>>w&1 == 1 {
					ahead = append(ahead, turns(3, w)...)
					waits = append(waits, ended(wt, w, api.ResOk, 0))
				}
			}
			for n := range len(waits) + 1 {
				_, over, at := event.Play(calls, slices.Concat(ahead, turns(3*n, many-1), slices.Repeat(everyone(many-1), 4)))
				woke := slices.DeleteFunc(over, func(f api.Frame) bool { return f.Op != wt })
				if !slices.Equal(woke, waits[:n]) {
					t.Fatalf("Play(%v), mask %d, %d wakes: %+v, %+v", calls, mask, n, over, at)
				}
			}
			calls[many-1] = []int{every}
			_, over, at := event.Play(calls, slices.Concat(ahead, turns(2+len(waits), many-1), slices.Repeat(everyone(many-1), 2)))
			want := ended(every, many-1, api.ResOk, uint64(mask))
			if mask == 0 {
				want.Res = api.ResEmpty
			}
			if !slices.Equal(over, append([]api.Frame{want}, waits...)) {
				t.Fatalf("Play(%v), mask %d: %+v, %+v", calls, mask, over, at)
			}
		}
	}
}
