package wait_test

import (
	"math/bits"
	"slices"
	"testing"

	"poacher/api"
	"poacher/frame"
	"poacher/wait"
)

// hall is cells, and all who wait at once, each by the worker's number; order tells whose steps were done.
type hall struct {
	c     api.Conf
	m     api.Mem
	calls []api.Frame
	order []int
}

// waitingAtOnce are those workers, each with a call that begins.
func waitingAtOnce(c api.Conf, m api.Mem, workers ...int) hall {
	h := hall{c: c, m: m}
	for _, w := range workers {
		h.calls = append(h.calls, begins(w))
	}
	return h
}

// stepped is the hall behind one more step of call i.
func (h hall) stepped(t *testing.T, i int) hall {
	t.Helper()
	want, call := stepped(h.c, h.m, h.calls[i])
	next := hall{c: h.c, calls: slices.Clone(h.calls), order: append(slices.Clone(h.order), i)}
	next.m, next.calls[i] = wait.Step(h.c, h.m, h.calls[i])
	if !slices.Equal(next.m, want) || next.calls[i] != call {
		t.Fatalf("%+v became %+v", h, next)
	}
	return next
}

// inEachOrder hands on how all are parked, in each order of steps, and how many orders there are; who is parked does no more steps.
func (h hall) inEachOrder(t *testing.T, end func(h hall)) int {
	t.Helper()
	if len(h.order) > 3*len(h.calls)+len(h.calls)*(len(h.calls)-1) {
		t.Fatalf("%+v: they are not parked", h)
	}
	orders, all := 0, true
	for i, f := range h.calls {
		if wait.Parked(f) {
			continue
		}
		all = false
		next := h.stepped(t, i)
		orders += next.inEachOrder(t, end)
	}
	if all {
		end(h)
		return 1
	}
	return orders
}

// steps is how many call i did.
func (h hall) steps(i int) int {
	n := 0
	for _, who := range h.order {
		if who == i {
			n++
		}
	}
	return n
}

// place is where call i's step number n is in the order; behind its end, if there was none.
func (h hall) place(i, n int) int {
	for at, who := range h.order {
		if who == i {
			if n == 0 {
				return at
			}
			n--
		}
	}
	return len(h.order)
}

// pairs are two workers of three, at events of epochs at the edges, with no bit set, and with others.
func pairs(do func(c api.Conf, m api.Mem, one, two int)) {
	c := api.Conf{W: 4, D: 1, I: 1}
	for _, two := range [][2]int{{0, 1}, {1, 0}, {0, 3}, {3, 2}} {
		for _, high := range epochs() {
			for _, low := range []uint64{0, 0xfff0, 0x10} {
				m := make(api.Mem, size(c))
				m[eventAt] = high*65536 + low
				do(c, m, two[0], two[1])
			}
		}
	}
}

func TestTwoWhoWaitAtOnce(t *testing.T) { // P14.3: in each order both are parked, both bits are set; one by three steps, the other one by three or five
	pairs(func(c api.Conf, m api.Mem, one, two int) {
		seen := map[[2]int]int{}
		want := slices.Clone(m)
		want[eventAt] += bit(one) + bit(two)
		waitingAtOnce(c, m, one, two).inEachOrder(t, func(h hall) {
			if !slices.Equal(h.m, want) || !wait.Waits(c, h.m, one) || !wait.Waits(c, h.m, two) {
				t.Fatalf("%+v, want %v", h, want)
			}
			first, other := 0, 1
			if h.place(1, 2) < h.place(0, 2) {
				first, other = 1, 0
			}
			more := 0 // it looks anew, and exchanges anew, if the first one's exchange was between
			if h.place(other, 1) < h.place(first, 2) {
				more = 2
			}
			if h.steps(first) != 3 || h.steps(other) != 3+more {
				t.Fatalf("%+v: %d steps, and %d", h, h.steps(first), h.steps(other))
			}
			seen[[2]int{h.steps(0), h.steps(1)}]++
			h.stay(t)
			h.wakeAll(t)
		})
		if seen[[2]int{3, 3}] == 0 || seen[[2]int{3, 5}] == 0 || seen[[2]int{5, 3}] == 0 || len(seen) != 3 {
			t.Fatalf("workers %d and %d: %v", one, two, seen)
		}
	})
}

// stay asks that all stay parked, whatever their order.
func (h hall) stay(t *testing.T) {
	t.Helper()
	for i, f := range h.calls {
		h.calls[i] = staysParked(t, h.c, h.m, f, 2)
	}
}

// wakeAll sets one park cell after another, and asks that just that one leaves.
func (h hall) wakeAll(t *testing.T) {
	t.Helper()
	m := h.m
	for i, f := range h.calls {
		m = slices.Clone(m)
		m[parkAt(h.c, f.Who)] = 1
		for _, other := range h.calls[i+1:] {
			staysParked(t, h.c, m, other, 1)
		}
		m = leaves(t, h.c, m, f)
	}
	if !slices.Equal(m, h.m) {
		t.Fatalf("%+v: %v", h, m)
	}
}

func TestThreeWhoWaitAtOnce(t *testing.T) { // P14.3: of each order all are parked, with three bits
	c := api.Conf{W: 3, D: 2, I: 1}
	for _, e := range []uint64{0, 0x90000, most - 7} {
		m := make(api.Mem, size(c))
		m[eventAt] = e
		want := slices.Clone(m)
		want[eventAt] += 7
		most := 0
		waitingAtOnce(c, m, 0, 1, 2).inEachOrder(t, func(h hall) {
			if !slices.Equal(h.m, want) {
				t.Fatalf("%+v", h)
			}
			most = max(most, len(h.order))
		})
		if most != 15 { // one by three steps, one by five, one by seven
			t.Fatalf("%d steps at most", most)
		}
	}
}

func TestOneWaitsByTwoCalls(t *testing.T) { // P14.1: a bit that is set already is set again: the exchange is done, though nothing changes
	c := api.Conf{W: 2, D: 1, I: 1}
	m := make(api.Mem, size(c))
	m[eventAt] = 0x90000
	waitingAtOnce(c, m, 1, 1).inEachOrder(t, func(h hall) {
		if h.m[eventAt] != 0x90002 {
			t.Fatalf("%+v", h)
		}
	})
}

// bell is a hall beside one who wakes all by hand, a bit at each exchange: left is how often it will, owes is the worker whose park cell it has yet to set, rung is how often each worker's bit was taken.
type bell struct {
	hall
	left, owes int
	rung       [8]int
}

const nobody = -1

// spot is what a bell is, to be compared.
type spot struct {
	m     [30]uint64
	calls [3]api.Frame
	left  int
	owes  int
	rung  [8]int
}

func (b bell) spot() spot {
	s := spot{left: b.left, owes: b.owes, rung: b.rung}
	copy(s.m[:], b.m)
	copy(s.calls[:], b.calls)
	return s
}

// ring is the bell behind its next step: an exchange, or a park cell that is set.
func (b bell) ring() bell {
	next := bell{hall: hall{c: b.c, m: slices.Clone(b.m), calls: slices.Clone(b.calls)}, left: b.left, owes: nobody, rung: b.rung}
	if b.owes != nobody {
		next.m[parkAt(b.c, b.owes)] = 1
		return next
	}
	next.left--
	e := b.m[eventAt]
	next.m[eventAt] += 1 << 16
	if mask := e % 65536; mask != 0 {
		next.owes = bits.TrailingZeros64(mask)
		next.m[eventAt] -= bit(next.owes)
		next.rung[next.owes]++
	}
	return next
}

// inEachState goes on from each spot once; who is over is asked as it ends, and so is how all ends.
func (b bell) inEachState(t *testing.T, seen map[spot]bool, end func(b bell)) {
	t.Helper()
	if seen[b.spot()] {
		return
	}
	seen[b.spot()] = true
	rest := true
	if b.left > 0 || b.owes != nobody {
		rest = false
		b.ring().inEachState(t, seen, end)
	}
	for i, f := range b.calls {
		if frame.Over(f) {
			continue
		}
		next := bell{hall: b.stepped(t, i), left: b.left, owes: b.owes, rung: b.rung}
		next.order = nil // it may step as often as it likes, and be parked
		if next.spot() != b.spot() {
			rest = false
			next.inEachState(t, seen, end)
		}
	}
	if rest {
		end(b)
	}
}

func TestNoWakeIsMissed(t *testing.T) { // P14.1, P14.3: beside one who wakes: who is parked in the end has its bit set still; who had it taken is over by ResOk, and its park cell is 0
	c := api.Conf{W: 3, D: 1, I: 1}
	for _, e := range []uint64{0, 0x90000, most - 0xffff} {
		for left := range 4 {
			for _, workers := range [][]int{{0}, {2}, {0, 1}, {2, 1}, {0, 1, 2}} {
				m := make(api.Mem, size(c))
				m[eventAt] = e
				ended := map[int]bool{}
				b := bell{hall: waitingAtOnce(c, m, workers...), left: left, owes: nobody}
				b.inEachState(t, map[spot]bool{}, func(b bell) {
					for _, f := range b.calls {
						b.asked(t, f)
						ended[f.Res] = true
					}
				})
				if !ended[api.ResNone] || ended[api.ResOk] != (left > 0) || ended[api.ResAbort] != (left > 0) {
					t.Fatalf("workers %v, %d wakes: %v", workers, left, ended)
				}
			}
		}
	}
}

// asked asks what holds of a call when nothing goes on.
func (b bell) asked(t *testing.T, f api.Frame) {
	t.Helper()
	wants := map[int]int{api.ResNone: 0, api.ResAbort: 0, api.ResOk: 1}
	many, known := wants[f.Res]
	if !known || b.rung[f.Who] != many || b.m[parkAt(b.c, f.Who)] != 0 {
		t.Fatalf("%+v, of %+v", f, b)
	}
	if parked := wait.Parked(f); parked != (f.Res == api.ResNone) || wait.Waits(b.c, b.m, f.Who) != parked {
		t.Fatalf("%+v, of %+v", f, b)
	}
}
