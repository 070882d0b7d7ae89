package note_test

import (
	"slices"
	"testing"

	"poacher/api"
	"poacher/frame"
	"poacher/note"
	"poacher/wait"
)

// hall is cells, and all who wait or wake at once; order tells whose steps were done.
type hall struct {
	c     api.Conf
	m     api.Mem
	calls []api.Frame
	order []int
}

// stepped is the hall behind one more step of call i.
func (h hall) stepped(t *testing.T, i int) hall {
	t.Helper()
	f := h.calls[i]
	next := hall{c: h.c, calls: slices.Clone(h.calls), order: append(slices.Clone(h.order), i)}
	if f.Op == api.OpWait {
		next.m, next.calls[i] = wait.Step(h.c, h.m, f)
		return next
	}
	want, call := stepped(h.c, h.m, f)
	next.m, next.calls[i] = note.Step(h.c, h.m, f)
	if !slices.Equal(next.m, want) || next.calls[i] != call {
		t.Fatalf("%+v became %+v", h, next)
	}
	return next
}

// inEachOrder hands on how all are over, in each order of steps.
func (h hall) inEachOrder(t *testing.T, end func(h hall)) {
	t.Helper()
	if len(h.order) > 20 { // three wakes need fewer, in whatever order
		t.Fatalf("%+v: they are not over", h)
	}
	all := true
	for i, f := range h.calls {
		if !frame.Over(f) {
			all = false
			h.stepped(t, i).inEachOrder(t, end)
		}
	}
	if all {
		end(h)
	}
}

// steps are the places in the order of call i's steps.
func (h hall) steps(i int) []int {
	var out []int
	for at, who := range h.order {
		if who == i {
			out = append(out, at)
		}
	}
	return out
}

// wakesAtOnce are two wakes that begin, at that event, with no park cell set.
func wakesAtOnce(e uint64, one, two int) hall {
	c := api.Conf{W: 3, D: 1, I: 1}
	m := make(api.Mem, size(c))
	m[eventAt] = e
	return hall{c: c, m: m, calls: []api.Frame{begins(one), begins(two)}}
}

// taken are the bits that a call took, by its result.
func taken(t *testing.T, f api.Frame) uint64 {
	t.Helper()
	switch {
	case f.Res == api.ResEmpty && f.Val == 0:
		return 0
	case f.Res == api.ResOk && f.Op == api.OpAll && f.Val > 0:
		return f.Val
	case f.Res == api.ResOk && f.Op == api.OpNote:
		return powers()[f.Val]
	}
	t.Fatalf("%+v", f)
	return 0
}

// first is whose exchange was done first.
func (h hall) first(t *testing.T) int {
	t.Helper()
	if h.exchange(t, 0) < h.exchange(t, 1) {
		return 0
	}
	return 1
}

// exchange is the place in the order of call i's exchange: behind it there is just one step for each bit that was taken.
func (h hall) exchange(t *testing.T, i int) int {
	t.Helper()
	at := h.steps(i)
	return at[len(at)-1-len(bitsOf(taken(t, h.calls[i])))]
}

func TestTwoWakesAtOnce(t *testing.T) { // P15.4: in each order each bit is taken by one at most, from the lowest one on, its worker is woken, and there are two epochs more; who was quicker exchanges once
	for _, pair := range [][2]int{{6, 6}, {6, 7}, {7, 6}, {7, 7}} {
		for _, high := range epochs() {
			for _, low := range []uint64{0, 1, 4, 6, 7, 0xa, 0x8001} {
				e := high*65536 + low
				anew := map[int]bool{}
				wakesAtOnce(e, pair[0], pair[1]).inEachOrder(t, func(h hall) {
					anew[h.bothOver(t, e)] = true
				})
				if !anew[0] || !anew[2] || len(anew) != 2 {
					t.Fatalf("Ops %v, event %d: steps done anew: %v", pair, e, anew)
				}
			}
		}
	}
}

// bothOver asks what two wakes came to, and tells how many steps the later one did anew.
func (h hall) bothOver(t *testing.T, e uint64) int {
	t.Helper()
	quick := h.first(t)
	left, want := mask(e), slices.Clone(h.m)
	for w := range h.c.W {
		want[parkAt(h.c, w)] = 0
	}
	for _, i := range []int{quick, 1 - quick} {
		due := left
		if set := bitsOf(left); h.calls[i].Op == api.OpNote && len(set) > 0 {
			due = powers()[set[0]]
		}
		if got := taken(t, h.calls[i]); got != due {
			t.Fatalf("%+v: call %d took %d of %d", h, i, got, left)
		}
		left -= due
		for _, w := range bitsOf(due) {
			want = parkedBy(h.c, want, uint64(w))
		}
	}
	want[eventAt] = behind(behind(e, 0), left)
	if !slices.Equal(h.m, want) {
		t.Fatalf("%+v, want %v", h, want)
	}
	return h.anew(t, quick)
}

// anew is how many steps the later one did anew: two, if it had loaded the event ahead of the first one's exchange.
func (h hall) anew(t *testing.T, quick int) int {
	t.Helper()
	late := 1 - quick
	more := 0
	if h.steps(late)[0] < h.exchange(t, quick) {
		more = 2
	}
	for i, extra := range map[int]int{quick: 0, late: more} {
		woke := len(bitsOf(taken(t, h.calls[i])))
		if many := len(h.steps(i)); many != 2+woke+extra {
			t.Fatalf("%+v: call %d did %d steps", h, i, many)
		}
	}
	return more
}

func TestThreeWakesAtOnce(t *testing.T) { // P15.4: three of one, and two of one beside one of all: no bit is taken twice, and none is left that was to be taken
	for _, third := range ops() {
		for _, low := range []uint64{0, 2, 5, 7} {
			h := wakesAtOnce(most-0xffff+low, api.OpNote, api.OpNote)
			h.calls = append(h.calls, begins(third))
			h.inEachOrder(t, func(h hall) {
				sum := uint64(0)
				for _, f := range h.calls {
					sum += taken(t, f)
				}
				if h.m[eventAt]/65536 != 2 || sum+mask(h.m[eventAt]) != low || h.m[eventAt]%65536 != 0 && third == api.OpAll {
					t.Fatalf("%+v", h)
				}
				for w := range h.c.W {
					if h.m[parkAt(h.c, w)] != uint64(len(bitsOf(sum&powers()[w]))) {
						t.Fatalf("%+v", h)
					}
				}
			})
		}
	}
}

// spot is what a hall is, to be compared.
type spot struct {
	m     [20]uint64
	calls [5]api.Frame
}

func (h hall) spot() spot {
	var s spot
	copy(s.m[:], h.m)
	copy(s.calls[:], h.calls)
	return s
}

// inEachState goes on from each spot once: each is asked, and so is how nothing goes on any more.
func (h hall) inEachState(t *testing.T, seen map[spot]bool, each, end func(h hall)) {
	t.Helper()
	if seen[h.spot()] {
		return
	}
	seen[h.spot()] = true
	each(h)
	rest := true
	for i, f := range h.calls {
		if frame.Over(f) {
			continue
		}
		next := h.stepped(t, i)
		next.order = nil // who is parked may step as often as it likes
		if next.spot() != h.spot() {
			rest = false
			next.inEachState(t, seen, each, end)
		}
	}
	if rest {
		end(h)
	}
}

// waitAndWake are so many who wait, and these who wake, all at once; of a new pool, but for its epoch.
func waitAndWake(high uint64, waits int, wakes ...int) hall {
	c := api.Conf{W: 3, D: 1, I: 1}
	h := hall{c: c, m: make(api.Mem, size(c))}
	h.m[eventAt] = high * 65536
	for w := range waits {
		h.calls = append(h.calls, frame.Begin(api.OpWait, w, 77))
	}
	for _, op := range wakes {
		h.calls = append(h.calls, begins(op))
	}
	return h
}

// reasons is how many of these are so: its bit is set, a wake is owed, its park cell is not 0.
func (h hall) reasons(w int) int {
	many := 0
	if wait.Waits(h.c, h.m, w) {
		many++
	}
	for _, f := range h.calls {
		if note.Owes(f, w) {
			many++
		}
	}
	if h.m[parkAt(h.c, w)] != 0 {
		many++
	}
	return many
}

// everywhere asks what holds of each spot: who is parked has its bit, or a wake that is owed, or one that is there; who is not has none; who was prepared ahead of a wake does not wait.
func (h hall) everywhere(t *testing.T) {
	t.Helper()
	for i, f := range h.calls {
		if f.Op != api.OpWait {
			continue
		}
		want := 0
		if !frame.Over(f) && f.Pc >= 3 {
			want = 1
		}
		if got := h.reasons(f.Who); got != want {
			t.Fatalf("worker %d has %d of its bit, a wake that is owed, and one that is there: %+v", f.Who, got, h)
		}
		prepared := !frame.Over(f) && (f.Pc == 1 || f.Pc == 2)
		if prepared && epoch(f.X) != epoch(h.m[eventAt]) {
			h.aborts(t, i)
		}
	}
}

// aborts asks that one who was prepared ahead of a wake is over by two steps at most, and changes no cell.
func (h hall) aborts(t *testing.T, i int) {
	t.Helper()
	m, f := h.m, h.calls[i]
	for range 2 {
		m, f = wait.Step(h.c, m, f)
	}
	if f.Res != api.ResAbort || !slices.Equal(m, h.m) {
		t.Fatalf("%+v of %+v became %+v, %v", h.calls[i], h, f, m)
	}
}

// atRest asks what holds when nothing goes on: as many were woken as wakes tell, each wake of one woke one at most, and who is parked has its bit; it tells how many were woken.
func (h hall) atRest(t *testing.T, high uint64) int {
	t.Helper()
	left, waked, wakes := uint64(0), uint64(0), 0
	for _, f := range h.calls {
		switch {
		case f.Op != api.OpWait:
			waked += taken(t, f)
			wakes++
		case f.Res == api.ResNone:
			left += powers()[f.Who]
		case f.Res == api.ResOk:
			waked -= powers()[f.Who]
		}
	}
	want := make(api.Mem, len(h.m))
	want[eventAt] = (high+uint64(wakes))%(1<<48)*65536 + left
	if waked != 0 || !slices.Equal(h.m, want) {
		t.Fatalf("%+v, want %v", h, want)
	}
	return h.many(api.OpWait, api.ResOk)
}

// many is how many calls of that Op ended so.
func (h hall) many(op, res int) int {
	n := 0
	for _, f := range h.calls {
		if f.Op == op && f.Res == res {
			n++
		}
	}
	return n
}

func TestWakesBesideWhoWait(t *testing.T) { // P15.4: from each spot that they come to
	for waits := 1; waits <= 3; waits++ {
		for _, high := range []uint64{1<<48 - 1, 0, 1<<47 - 1, 1<<48 - 2}[:4/waits] { // of three there are many spots
			for _, wakes := range [][]int{{}, {6}, {7}, {6, 6}, {6, 7}, {7, 6}, {7, 7}} {
				woken := map[int]bool{}
				h := waitAndWake(high, waits, wakes...)
				h.inEachState(t, map[spot]bool{}, func(h hall) { h.everywhere(t) }, func(h hall) {
					woken[h.atRest(t, high)] = true
				})
				for many := range 4 {
					if woken[many] != (many <= reach(waits, wakes)) {
						t.Fatalf("%d wait, wakes %v: %v were woken", waits, wakes, woken)
					}
				}
			}
		}
	}
}

// reach is how many these may wake at most: each of one wakes one, each of all wakes all.
func reach(waits int, wakes []int) int {
	if slices.Contains(wakes, api.OpAll) {
		return waits
	}
	return min(waits, len(wakes))
}

func TestWaitsBehindAWakeIsParked(t *testing.T) { // P15.4: who prepares behind the exchange is not woken by it, though it is parked ahead of the wake's end
	for _, op := range ops() {
		h := waitAndWake(9, 2, op)
		for _, i := range []int{0, 0, 0, 2, 2, 1, 1, 1, 2, 0, 0} { // worker 0 is parked, its bit is taken, worker 1 is parked, worker 0 is woken, and leaves
			h = h.stepped(t, i)
		}
		if h.calls[0].Res != api.ResOk || !wait.Parked(h.calls[1]) || !wait.Waits(h.c, h.m, 1) || h.calls[2].Res != api.ResOk || taken(t, h.calls[2]) != 1 {
			t.Fatalf("%+v", h)
		}
	}
}
