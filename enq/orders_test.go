package enq_test

import (
	"slices"
	"testing"

	"poacher/api"
	"poacher/enq"
	"poacher/frame"
)

// hand is the calls of one who is at the injector, one behind another.
type hand []api.Frame

// race is cells, and all who are at the injector; order tells whose steps were done, and took who has the place that each one's call exchanged.
type race struct {
	c     api.Conf
	m     api.Mem
	hands []hand
	order []int
	took  map[uint64]uint64
}

// begun are hands of so many calls, each with a number of its own, from 1000 on.
func begun(calls ...int) []hand {
	val := uint64(1000)
	var out []hand
	for i, n := range calls {
		var h hand
		for range n {
			h = append(h, frame.Begin(api.OpEnq, i, val))
			val++
		}
		out = append(out, h)
	}
	return out
}

// racing is a race that begins at an injector with so many numbers from place head on.
func racing(c api.Conf, head uint64, many int, calls ...int) race {
	return race{c: c, m: holding(c, head, many), hands: begun(calls...), took: map[uint64]uint64{}}
}

// atHand is the place of the first call that is not over; -1, if all are.
func (h hand) atHand() int {
	return slices.IndexFunc(h, func(f api.Frame) bool { return !frame.Over(f) })
}

func (r race) calls() int {
	n := 0
	for _, h := range r.hands {
		n += len(h)
	}
	return n
}

// stepped is the race behind one more step of one who has a call at hand.
func (r race) stepped(t *testing.T, who, call int) race {
	t.Helper()
	next := race{c: r.c, order: append(slices.Clone(r.order), who), took: map[uint64]uint64{}}
	for _, h := range r.hands {
		next.hands = append(next.hands, slices.Clone(h))
	}
	for x, val := range r.took {
		next.took[x] = val
	}
	f := r.hands[who][call]
	next.m, next.hands[who][call] = enq.Step(r.c, r.m, f)
	r.asked(t, &next, f, next.hands[who][call])
	return next
}

// asked asks what holds of each step: f became g. Nobody changes the tail but who exchanges it, and a slot but who has its place.
func (r race) asked(t *testing.T, next *race, f, g api.Frame) {
	t.Helper()
	want := slices.Clone(r.m)
	switch {
	case f.Pc == 2 && f.X == r.m[tailAt]:
		if val, is := r.took[f.X]; is {
			t.Fatalf("%+v: place %d is that of %d", r, f.X, val)
		}
		next.took[f.X] = f.Val
		want[tailAt]++
		f.Pc = 3
	case f.Pc == 2: // it begins anew, for the tail has turned
		f.Pc = 0
	case f.Pc == 3:
		r.owned(t, f)
		want[valAt(r.c, f.X)] = f.Val
		f.Pc = 4
	case f.Pc == 4:
		r.owned(t, f)
		want[seqAt(r.c, f.X)]++
		f = api.Frame{Op: f.Op, Who: f.Who, Val: f.Val, Res: api.ResOk}
	default:
		f = g
	}
	if f != g || !slices.Equal(next.m, want) {
		t.Fatalf("%+v became %+v", r, *next)
	}
}

func (r race) owned(t *testing.T, f api.Frame) {
	t.Helper()
	if val, is := r.took[f.X]; !is || val != f.Val {
		t.Fatalf("%+v: %+v is at place %d, which it has not", r, f, f.X)
	}
}

// inEachOrder hands on how all ends, in each order of steps, and tells how many orders there are. A call begins anew only where another one has put in, so all is over behind some steps.
func (r race) inEachOrder(t *testing.T, end func(r race)) int {
	t.Helper()
	orders, over := 0, true
	for who, h := range r.hands {
		call := h.atHand()
		if call < 0 {
			continue
		}
		over = false
		next := r.stepped(t, who, call)
		if len(next.order) > 5*r.calls()+3*r.calls()*(r.calls()-1) {
			t.Fatalf("%+v does not end", next)
		}
		orders += next.inEachOrder(t, end)
	}
	if over {
		end(r)
		return 1
	}
	return orders
}

// kept asks that the injector has what it had, and behind that what was put in, each at its place.
func (r race) kept(t *testing.T, was []uint64) {
	t.Helper()
	want, in := slices.Clone(was), uint64(len(was))
	for i := range uint64(len(r.took)) {
		val, is := r.took[r.m[headAt]+in+i]
		if !is {
			t.Fatalf("%+v: nobody has place %d behind the head", r, in+i)
		}
		want = append(want, val)
	}
	holds(t, r.c, r.m, want)
	for _, h := range r.hands {
		for _, f := range h {
			if slices.Contains(want, f.Val) != (f.Res == api.ResOk) || f.X != 0 || f.Y != 0 || f.Pc != 0 {
				t.Fatalf("%+v: %+v, of %v", r, f, want)
			}
		}
	}
}

// listed is what an injector of numbers has.
func listed(c api.Conf, m api.Mem) []uint64 {
	var out []uint64
	for x := m[headAt]; x != m[tailAt]; x++ {
		out = append(out, m[valAt(c, x)])
	}
	return out
}

// place is where somebody's step number n is in an order; behind its end, if there was none.
func place(order []int, who, n int) int {
	for at, w := range order {
		if w == who {
			if n == 0 {
				return at
			}
			n--
		}
	}
	return len(order)
}

// steps is how many somebody did.
func steps(order []int, who int) int {
	n := 0
	for _, w := range order {
		if w == who {
			n++
		}
	}
	return n
}

// firstAndOther are who exchanged first, that is who did a third step first, and the other one.
func firstAndOther(order []int) (int, int) {
	if place(order, 1, 2) < place(order, 0, 2) {
		return 1, 0
	}
	return 0, 1
}

// anew is how many steps the other one did ahead of beginning anew: none, where it began behind the exchange.
func anew(order []int) int {
	first, other := firstAndOther(order)
	switch {
	case place(order, other, 0) > place(order, first, 2):
		return 0
	case place(order, other, 1) > place(order, first, 4): // it sees that the place is one's
		return 2
	}
	return 3
}

// races are injectors of each size, from heads of all kinds.
func races(do func(c api.Conf, head uint64)) {
	for _, i := range []int{1, 2, 3, 4, 5, 16} {
		c := api.Conf{W: 1, D: 1, I: i}
		for _, head := range []uint64{0, uint64(i) - 1, 1<<63 - 1} {
			do(c, head)
		}
		if around(c) {
			do(c, most)
		}
	}
}

func TestTwoWhoPutInWithRoom(t *testing.T) { // P11.4: each has a place alone, the second one behind eight steps at most
	races(func(c api.Conf, head uint64) {
		for many := range c.I - 1 {
			if many > 1 && many < c.I-2 {
				continue
			}
			r := racing(c, head, many, 1, 1)
			was, seen := listed(c, r.m), map[int]bool{}
			r.inEachOrder(t, func(r race) {
				r.kept(t, was)
				first, other := firstAndOther(r.order)
				tail := head + uint64(many)
				if r.took[tail] != uint64(1000+first) || r.took[tail+1] != uint64(1000+other) || len(r.took) != 2 {
					t.Fatalf("%+v", r)
				}
				if steps(r.order, first) != 5 || steps(r.order, other) != anew(r.order)+5 {
					t.Fatalf("%+v: %d steps, and %d, %d of them ahead of beginning anew", r, steps(r.order, first), steps(r.order, other), anew(r.order))
				}
				seen[anew(r.order)] = true
			})
			if len(seen) != 3 {
				t.Fatalf("%+v: %v", c, seen)
			}
		}
	})
}

func TestTwoWhoPutInWithRoomForOne(t *testing.T) { // P11.4: one has the place, the other one is ResFull, also if it began anew
	races(func(c api.Conf, head uint64) {
		r := racing(c, head, c.I-1, 1, 1)
		was, seen := listed(c, r.m), map[int]bool{}
		r.inEachOrder(t, func(r race) {
			r.kept(t, was)
			first, other := firstAndOther(r.order)
			done := api.Frame{Op: api.OpEnq, Who: first, Val: uint64(1000 + first), Res: api.ResOk}
			full := api.Frame{Op: api.OpEnq, Who: other, Val: uint64(1000 + other), Res: api.ResFull}
			if r.hands[first][0] != done || r.hands[other][0] != full {
				t.Fatalf("%+v", r)
			}
			if steps(r.order, first) != 5 || steps(r.order, other) != anew(r.order)+2 {
				t.Fatalf("%+v: %d steps, and %d, %d of them ahead of beginning anew", r, steps(r.order, first), steps(r.order, other), anew(r.order))
			}
			seen[anew(r.order)] = true
		})
		if len(seen) != 3 {
			t.Fatalf("%+v: %v", c, seen)
		}
	})
}

func TestTwoWhoPutInWithoutRoom(t *testing.T) { // P11.4: both are ResFull behind two steps, and nothing changed
	races(func(c api.Conf, head uint64) {
		r := racing(c, head, c.I, 1, 1)
		m := slices.Clone(r.m)
		orders := r.inEachOrder(t, func(r race) {
			for who, h := range r.hands {
				if h[0] != (api.Frame{Op: api.OpEnq, Who: who, Val: uint64(1000 + who), Res: api.ResFull}) || len(r.order) != 4 {
					t.Fatalf("%+v", r)
				}
			}
			if !slices.Equal(r.m, m) {
				t.Fatalf("%+v was %v", r, m)
			}
		})
		if orders != 6 { // of 4 places 2 each
			t.Fatalf("%d orders", orders)
		}
	})
}

func TestTwoCallsBesideOne(t *testing.T) { // P11.4: also if another one exchanges twice; what one puts in stays in order
	for _, i := range []int{1, 2, 3} {
		c := api.Conf{W: 1, D: 1, I: i}
		for many := range i + 1 {
			r := racing(c, 2, many, 2, 1)
			was := listed(c, r.m)
			r.inEachOrder(t, func(r race) {
				r.kept(t, was)
				if len(r.took) != min(i-many, 3) {
					t.Fatalf("%+v", r)
				}
				l := listed(c, r.m)
				if one, two := slices.Index(l, 1000), slices.Index(l, 1001); two >= 0 && one > two {
					t.Fatalf("%+v: %v", r, l)
				}
			})
		}
	}
}
