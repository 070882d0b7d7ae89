package steal_test

import (
	"slices"
	"testing"

	"poacher/api"
	"poacher/frame"
	"poacher/pop"
)

// hand is the calls of one who is at a deque, one behind another.
type hand []api.Frame

// race is cells, and all who are at the deque of worker w; order tells whose steps were done.
type race struct {
	c     api.Conf
	w     int
	m     api.Mem
	hands []hand
	order []int
}

// begun are hands of such calls at the deque of worker w, each push with a number of its own, from 1000 on.
func begun(w int, ops ...[]int) []hand {
	val := uint64(1000)
	var out []hand
	for _, l := range ops {
		var h hand
		for _, op := range l {
			h = append(h, frame.Begin(op, w, val))
			val++
		}
		out = append(out, h)
	}
	return out
}

// atHand is the place of the first call that is not over; -1, if all are.
func (h hand) atHand() int {
	return slices.IndexFunc(h, func(f api.Frame) bool { return !frame.Over(f) })
}

// stepped is the race behind one more step of one who has a call at hand.
func (r race) stepped(who, call int) race {
	next := race{c: r.c, w: r.w, order: append(slices.Clone(r.order), who)}
	for _, h := range r.hands {
		next.hands = append(next.hands, slices.Clone(h))
	}
	next.m, next.hands[who][call] = oneStep(r.c, r.m, r.hands[who][call])
	return next
}

// inEachOrder hands on how all ends, in each order of steps, and how many orders there are; each step is asked on its way.
func (r race) inEachOrder(t *testing.T, end func(r race)) int {
	t.Helper()
	orders, over := 0, true
	for who, h := range r.hands {
		call := h.atHand()
		if call < 0 {
			continue
		}
		over = false
		next := r.stepped(who, call)
		if len(next.order) > pop.Steps()*r.calls() {
			t.Fatalf("%+v does not end", next)
		}
		r.asked(t, next, next.hands[who][call])
		orders += next.inEachOrder(t, end)
	}
	if over {
		end(r)
		return 1
	}
	return orders
}

func (r race) calls() int {
	n := 0
	for _, h := range r.hands {
		n += len(h)
	}
	return n
}

// asked asks what holds of each step of a steal: only one that is done takes a number, and the first one.
func (r race) asked(t *testing.T, next race, f api.Frame) {
	t.Helper()
	if f.Op != api.OpSteal {
		return
	}
	want := slices.Clone(r.m)
	if f.Res == api.ResOk {
		if got := want[slotAt(r.c, r.w, want[topAt(r.c, r.w)])]; got != f.Val {
			t.Fatalf("%+v: %d was first", next, got)
		}
		want[topAt(r.c, r.w)]++
	}
	if !slices.Equal(next.m, want) {
		t.Fatalf("%+v became %+v", r, next)
	}
	if f.Res != api.ResOk && frame.Over(f) && f.Val != 0 {
		t.Fatalf("%+v: it has a number", next)
	}
}

// kept asks that nobody has a number twice, and none is lost; was is what the deque had.
func (r race) kept(t *testing.T, was []uint64) {
	t.Helper()
	want, got := slices.Clone(was), listed(r.c, r.m, r.w)
	has(t, r.c, r.m, r.w, got)
	for _, h := range r.hands {
		for _, f := range h {
			if f.Res != api.ResOk {
				continue
			}
			if f.Op == api.OpPush {
				want = append(want, f.Val)
			} else {
				got = append(got, f.Val)
			}
		}
	}
	slices.Sort(want)
	slices.Sort(got)
	if !slices.Equal(got, want) {
		t.Fatalf("%+v: %v, want %v", r, got, want)
	}
}

// rooms are deques of room for 1, 2 and 16, with tops around 0, 2^63 and 2^64.
func rooms(do func(c api.Conf, top uint64)) {
	for _, d := range []int{1, 2, 16} {
		for _, top := range []uint64{0, 5, 1<<63 - 1, most - 1, most} {
			do(api.Conf{W: 2, D: d, I: 1}, top)
		}
	}
}

func steals(n int) []int { return slices.Repeat([]int{api.OpSteal}, n) }

// place is where somebody's step number n is in an order; behind its end, if there was none.
func place(order []int, who, n int) int {
	for at, w := range order {
		if w == who {
			if n == 0 {
				return at
			}
			n--
		}
	}
	return len(order)
}

func TestTwoWhoStealOne(t *testing.T) { // P9.2: just one has it; the other one is ResAbort, if it began ahead of that, or else ResEmpty
	rooms(func(c api.Conf, top uint64) {
		m := atDeque(c, 1, top, top+1)
		r := race{c: c, w: 1, m: m, hands: begun(1, steals(1), steals(1))}
		want := slices.Clone(m)
		want[topAt(c, 1)]++
		n := r.inEachOrder(t, func(r race) {
			won, lost := 0, 1
			if place(r.order, 1, 3) < place(r.order, 0, 3) {
				won, lost = 1, 0
			}
			res := api.ResEmpty
			if place(r.order, lost, 0) < place(r.order, won, 3) {
				res = api.ResAbort
			}
			first := api.Frame{Op: api.OpSteal, Who: 1, Val: m[slotAt(c, 1, top)], Res: api.ResOk}
			none := api.Frame{Op: api.OpSteal, Who: 1, Res: res}
			if r.hands[won][0] != first || r.hands[lost][0] != none || !slices.Equal(r.m, want) {
				t.Fatalf("%+v", r)
			}
		})
		if n != 70 { // of 8 places 4 each; where one is over behind two steps, it was the last one anyway
			t.Fatalf("%d orders", n)
		}
	})
}

func TestTwoWhoStealOfMore(t *testing.T) { // P9.2: one has the first number; the other one is ResAbort, or, if it began behind that, has the second one
	rooms(func(c api.Conf, top uint64) {
		for many := 2; many <= min(c.D, 3); many++ {
			m := atDeque(c, 1, top, top+uint64(many))
			was := listed(c, m, 1)
			r := race{c: c, w: 1, m: m, hands: begun(1, steals(1), steals(1))}
			r.inEachOrder(t, func(r race) {
				won, lost := 0, 1
				if place(r.order, 1, 3) < place(r.order, 0, 3) {
					won, lost = 1, 0
				}
				other := api.Frame{Op: api.OpSteal, Who: 1, Val: was[1], Res: api.ResOk}
				if place(r.order, lost, 0) < place(r.order, won, 3) {
					other.Val, other.Res = 0, api.ResAbort
				}
				if r.hands[won][0].Val != was[0] || r.hands[won][0].Res != api.ResOk || r.hands[lost][0] != other {
					t.Fatalf("%+v", r)
				}
				r.kept(t, was)
			})
		}
	})
}

func TestTwoWhoStealNothing(t *testing.T) { // P9.2: both are ResEmpty, and nothing changes
	rooms(func(c api.Conf, top uint64) {
		m := atDeque(c, 1, top, top)
		r := race{c: c, w: 1, m: m, hands: begun(1, steals(1), steals(1))}
		r.inEachOrder(t, func(r race) {
			none := api.Frame{Op: api.OpSteal, Who: 1, Res: api.ResEmpty}
			if r.hands[0][0] != none || r.hands[1][0] != none || !slices.Equal(r.m, m) {
				t.Fatalf("%+v", r)
			}
		})
	})
}

// atOnce asks that two calls ended as if one was done at once, and then the other one.
func (r race) atOnce(t *testing.T, was []uint64, one, two api.Frame) {
	t.Helper()
	as := func(first, second api.Frame) ([]uint64, api.Frame, api.Frame) {
		l, f := frame.Once(was, r.c.D, first)
		l, g := frame.Once(l, r.c.D, second)
		return l, f, g
	}
	got := listed(r.c, r.m, r.w)
	l, f, g := as(one, two)
	if slices.Equal(got, l) && r.hands[0][0] == f && r.hands[1][0] == g {
		return
	}
	l, g, f = as(two, one)
	if !slices.Equal(got, l) || r.hands[0][0] != f || r.hands[1][0] != g {
		t.Fatalf("%+v has %v: at once neither order ends so", r, got)
	}
}

func TestStealBesideAPush(t *testing.T) { // P9.2: at a deque that is empty, has some, or is full; each order ends as if each was done at once
	rooms(func(c api.Conf, top uint64) {
		for _, many := range []int{0, 1, c.D - 1, c.D} {
			m := atDeque(c, 1, top, top+uint64(many))
			r := race{c: c, w: 1, m: m, hands: begun(1, []int{api.OpPush}, steals(1))}
			was := listed(c, m, 1)
			r.inEachOrder(t, func(got race) {
				got.kept(t, was)
				got.atOnce(t, was, r.hands[0][0], r.hands[1][0])
			})
		}
	})
}

func TestStealBesideAPopOfTheOnlyNumber(t *testing.T) { // P9.2: one of them has it, and the other one has none
	rooms(func(c api.Conf, top uint64) {
		m := atDeque(c, 1, top, top+1)
		was := listed(c, m, 1)
		seen := map[[2]int]bool{}
		r := race{c: c, w: 1, m: m, hands: begun(1, []int{api.OpPop}, steals(1))}
		r.inEachOrder(t, func(r race) {
			r.kept(t, was)
			has(t, c, r.m, 1, nil)
			seen[[2]int{r.hands[0][0].Res, r.hands[1][0].Res}] = true
		})
		want := map[[2]int]bool{{api.ResOk, api.ResEmpty}: true, {api.ResOk, api.ResAbort}: true, {api.ResEmpty, api.ResOk}: true}
		for ends := range seen {
			if !want[ends] {
				t.Fatalf("%+v, top %d: pop %d, steal %d", c, top, ends[0], ends[1])
			}
		}
		if len(seen) != len(want) {
			t.Fatalf("%+v, top %d: %v", c, top, seen)
		}
	})
}

func TestStealBesideAPopOfMore(t *testing.T) { // P9.2: the steal has the first number, and the pop the last one
	rooms(func(c api.Conf, top uint64) {
		for many := 2; many <= min(c.D, 3); many++ {
			m := atDeque(c, 1, top, top+uint64(many))
			was := listed(c, m, 1)
			r := race{c: c, w: 1, m: m, hands: begun(1, []int{api.OpPop}, steals(1))}
			r.inEachOrder(t, func(got race) {
				got.kept(t, was)
				got.atOnce(t, was, r.hands[0][0], r.hands[1][0])
			})
		}
	})
}

func TestTwoWhoStealAndTheOwnerThatPops(t *testing.T) { // P9.2: at one number, one of the three has it
	for _, top := range []uint64{0, most} {
		c := api.Conf{W: 1, D: 1, I: 1}
		m := atDeque(c, 0, top, top+1)
		r := race{c: c, m: m, hands: begun(0, []int{api.OpPop}, steals(1), steals(1))}
		r.inEachOrder(t, func(r race) {
			r.kept(t, listed(c, m, 0))
			has(t, c, r.m, 0, nil)
		})
	}
}

func TestStealBesideTwoCallsOfTheOwner(t *testing.T) { // P9.2: also where a slot has another number by then
	calls := [][]int{{api.OpPop, api.OpPush}, {api.OpPush, api.OpPop}, {api.OpPop, api.OpPop}, {api.OpPush, api.OpPush}}
	for _, d := range []int{1, 2} {
		for _, top := range []uint64{0, most} {
			for many := range d + 1 {
				for _, owner := range calls {
					c := api.Conf{W: 1, D: d, I: 1}
					m := atDeque(c, 0, top, top+uint64(many))
					r := race{c: c, m: m, hands: begun(0, owner, steals(1))}
					r.inEachOrder(t, func(r race) { r.kept(t, listed(c, m, 0)) })
				}
			}
		}
	}
}

func TestTwoStealsBesideTheOwner(t *testing.T) { // P9.2: one behind the other, beside a push, or a pop
	for _, d := range []int{1, 2} {
		for _, top := range []uint64{0, most} {
			for many := range d + 1 {
				for _, op := range []int{api.OpPush, api.OpPop} {
					c := api.Conf{W: 1, D: d, I: 1}
					m := atDeque(c, 0, top, top+uint64(many))
					r := race{c: c, m: m, hands: begun(0, []int{op}, steals(2))}
					r.inEachOrder(t, func(r race) { r.kept(t, listed(c, m, 0)) })
				}
			}
		}
	}
}
