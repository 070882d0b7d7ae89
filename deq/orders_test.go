package deq_test

import (
	"fmt"
	"maps"
	"slices"
	"testing"

	"poacher/api"
	"poacher/deq"
	"poacher/frame"
)

// hand is the calls of one who is at the injector, one behind another.
type hand []api.Frame

// race is cells, and all who are at the injector; order tells whose steps were done, has which number each place was exchanged for, and took who exchanged it away.
type race struct {
	c     api.Conf
	m     api.Mem
	hands []hand
	order []int
	has   map[uint64]uint64
	took  map[uint64]int
}

// before took what was taken ahead of the race.
const before = -1

// in and out are calls that put in, and take out, to be laid behind one another.
const in, out = api.OpEnq, api.OpDeq

// racing is a race that begins at an injector with so many numbers from place head on, 1 and 2 and so on; those who put in have others, from 1000 on.
func racing(c api.Conf, head uint64, many int, calls ...[]int) race {
	r := race{c: c, m: holding(c, head, many), has: map[uint64]uint64{}, took: map[uint64]int{}}
	for i := range many {
		x := head + uint64(i)
		r.has[x] = uint64(1 + i)
		r.m[valAt(c, x)] = r.has[x]
	}
	for i := range c.I {
		x := head - 1 - uint64(i)
		r.has[x], r.took[x] = 0, before
	}
	val := uint64(1000)
	for who, ops := range calls {
		var h hand
		for _, op := range ops {
			h = append(h, frame.Begin(op, who, val))
			val++
		}
		r.hands = append(r.hands, h)
	}
	return r
}

// atHand is the place of the first call that is not over; -1, if all are.
func (h hand) atHand() int {
	return slices.IndexFunc(h, func(f api.Frame) bool { return !frame.Over(f) })
}

// between tells whether somebody has exchanged a place by such a call, and is not done with it.
func (r race) between(op int, x uint64) bool {
	for _, h := range r.hands {
		if call := h.atHand(); call >= 0 && h[call].Op == op && h[call].Pc >= 3 && h[call].X == x {
			return true
		}
	}
	return false
}

// there tells whether a place's number is there, or was.
func (r race) there(x uint64) bool {
	_, is := r.has[x]
	return is && !r.between(in, x)
}

// left tells whether a place's number is gone, and its slot free again, or was.
func (r race) left(x uint64) bool {
	_, is := r.took[x]
	return is && !r.between(out, x)
}

// stepped is the race behind one more step of one who has a call at hand.
func (r race) stepped(t *testing.T, who, call int) race {
	t.Helper()
	then := race{c: r.c, order: append(slices.Clone(r.order), who), has: maps.Clone(r.has), took: maps.Clone(r.took)}
	for _, h := range r.hands {
		then.hands = append(then.hands, slices.Clone(h))
	}
	f := r.hands[who][call]
	then.m, then.hands[who][call] = next(r.c, r.m, f)
	g := then.hands[who][call]
	if f.Op == out {
		r.askedOut(t, &then, f, g)
	} else {
		r.askedIn(t, &then, f, g)
	}
	then.listed(t)
	return then
}

// askedOut asks what holds of each step of one who takes out: f became g. Only a number that is there is taken, and once; nobody else is at its slot till that is free.
func (r race) askedOut(t *testing.T, then *race, f, g api.Frame) {
	t.Helper()
	want, was := slices.Clone(r.m), f
	switch {
	case f.Pc == 0:
		f.Pc, f.X = 1, r.m[headAt]
	case f.Pc == 1 && !r.there(f.X):
		f = api.Frame{Op: f.Op, Who: f.Who, Res: api.ResEmpty}
	case f.Pc == 1:
		f.Pc, f.Y = 2, r.m[seqAt(r.c, f.X)]
		if r.left(f.X) {
			f.Pc = 0
		}
	case f.Pc == 2 && f.X == r.m[headAt]:
		if who, is := r.took[f.X]; is || !r.there(f.X) {
			t.Fatalf("%+v: place %d is that of %d, or nobody's yet", r, f.X, who)
		}
		then.took[f.X] = f.Who
		want[headAt]++
		f.Pc = 3
	case f.Pc == 2: // it begins anew, for the head has turned
		f.Pc = 0
	case f.Pc == 3:
		f.Pc, f.Val = 4, r.has[f.X]
	case f.Pc == 4:
		want[seqAt(r.c, f.X)]++
		f = api.Frame{Op: f.Op, Who: f.Who, Val: r.has[f.X], Res: api.ResOk}
	}
	if was.Pc >= 3 {
		if who, is := r.took[was.X]; !is || who != was.Who {
			t.Fatalf("%+v: %+v is at place %d, which it has not", r, was, was.X)
		}
	}
	if f != g || !slices.Equal(then.m, want) {
		t.Fatalf("%+v became %+v", r, *then)
	}
}

// askedIn asks what holds of each step of one who puts in, of which there are promises elsewhere: only a slot that is left is put into.
func (r race) askedIn(t *testing.T, then *race, f, g api.Frame) {
	t.Helper()
	if f.Pc != 2 || g.Pc != 3 {
		return
	}
	if _, is := r.has[f.X]; is || !r.left(f.X-uint64(r.c.I)) {
		t.Fatalf("%+v: place %d is another one's, or its slot is not free", r, f.X)
	}
	then.has[f.X] = f.Val
}

// listed asks for the list: there is one, if nobody is between an exchange and the end of a call; it is what was put in, and not taken.
func (r race) listed(t *testing.T) {
	t.Helper()
	var want []uint64
	for x := r.m[headAt]; x != r.m[tailAt]; x++ {
		if _, gone := r.took[x]; gone || r.between(in, x) {
			listsNothing(t, r.c, r.m)
			return
		}
		want = append(want, r.has[x])
	}
	for x := range r.took {
		if r.between(out, x) {
			listsNothing(t, r.c, r.m)
			return
		}
	}
	lists(t, r.c, r.m, want)
}

// inEachOrder hands on how all ends, in each order of steps, and tells how many orders there are. A call begins anew only where another one's exchange was done, so all is over behind some steps.
func (r race) inEachOrder(t *testing.T, end func(r race)) int {
	t.Helper()
	orders, over := 0, true
	for who, h := range r.hands {
		if call := h.atHand(); call >= 0 {
			over = false
			orders += r.within(t, who, call).inEachOrder(t, end)
		}
	}
	if over {
		r.kept(t)
		end(r)
		return 1
	}
	return orders
}

// inEachState hands on how all ends, in whatever orders, and goes on from each state once.
func (r race) inEachState(t *testing.T, seen map[string]bool, end func(r race)) {
	t.Helper()
	state := fmt.Sprint(r.m, r.hands, r.has, r.took)
	if seen[state] {
		return
	}
	seen[state] = true
	over := true
	for who, h := range r.hands {
		if call := h.atHand(); call >= 0 {
			over = false
			r.within(t, who, call).inEachState(t, seen, end)
		}
	}
	if over {
		r.kept(t)
		end(r)
	}
}

// within is the race behind one more step, of as many as there may be.
func (r race) within(t *testing.T, who, call int) race {
	t.Helper()
	calls := 0
	for _, h := range r.hands {
		calls += len(h)
	}
	then := r.stepped(t, who, call)
	if len(then.order) > 5*calls+3*calls*(calls-1) {
		t.Fatalf("%+v does not end", then)
	}
	return then
}

// kept asks that each number is taken once, or listed, and that each call tells what it did.
func (r race) kept(t *testing.T) {
	t.Helper()
	l, is := deq.List(r.c, r.m)
	if !is {
		t.Fatalf("%+v has no list", r)
	}
	want := map[uint64]int{}
	for _, n := range l {
		want[n]++
	}
	got := map[uint64]int{}
	for x, n := range r.has {
		if who, is := r.took[x]; !is || who != before {
			got[n]++
		}
	}
	for _, h := range r.hands {
		for _, f := range h {
			switch {
			case f != frame.End(f, f.Res, f.Val):
				t.Fatalf("%+v: %+v", r, f)
			case f.Op == out && f.Res == api.ResOk:
				want[f.Val]++
			case f.Op == out && (f.Res != api.ResEmpty || f.Val != 0):
				t.Fatalf("%+v: %+v", r, f)
			}
		}
	}
	if !maps.Equal(want, got) {
		t.Fatalf("%+v: %v, of %v", r, want, got)
	}
}

// place is where somebody's step number n is in an order; behind its end, if there was none.
func place(order []int, who, n int) int {
	for at, w := range order {
		if w == who {
			if n == 0 {
				return at
			}
			n--
		}
	}
	return len(order)
}

// steps is how many somebody did.
func steps(order []int, who int) int {
	n := 0
	for _, w := range order {
		if w == who {
			n++
		}
	}
	return n
}

// firstAndOther are who exchanged first, that is who did a third step first, and the other one.
func firstAndOther(order []int) (int, int) {
	if place(order, 1, 2) < place(order, 0, 2) {
		return 1, 0
	}
	return 0, 1
}

// anew is how many steps the other one did ahead of beginning anew: none, where it began behind the exchange.
func anew(order []int) int {
	first, other := firstAndOther(order)
	switch {
	case place(order, other, 0) > place(order, first, 2):
		return 0
	case place(order, other, 1) > place(order, first, 4): // it sees that the number is gone
		return 2
	}
	return 3
}

// races are injectors of each size, from heads of all kinds.
func races(do func(c api.Conf, head uint64)) {
	for _, i := range []int{1, 2, 3, 4, 5, 16} {
		c := api.Conf{W: 1, D: 1, I: i}
		for _, head := range []uint64{0, uint64(i) - 1, uint64(i), 1<<63 - 1} {
			do(c, head)
		}
		if i <= 2 {
			do(c, most)
		}
	}
}

// done is a call that took a number out.
func done(who int, val uint64) api.Frame {
	return api.Frame{Op: out, Who: who, Val: val, Res: api.ResOk}
}

// none is a call that found nothing.
func none(who int) api.Frame { return api.Frame{Op: out, Who: who, Res: api.ResEmpty} }

func TestTwoWhoTakeOut(t *testing.T) { // P12.3: each takes one alone, whose exchange was done the first one; the other one begins anew, and has the second one
	races(func(c api.Conf, head uint64) {
		for many := 2; many <= c.I; many++ {
			if many > 3 && many < c.I {
				continue
			}
			seen := map[int]bool{}
			racing(c, head, many, []int{out}, []int{out}).inEachOrder(t, func(r race) {
				first, other := firstAndOther(r.order)
				if r.took[head] != first || r.took[head+1] != other || r.hands[first][0] != done(first, 1) || r.hands[other][0] != done(other, 2) {
					t.Fatalf("%+v", r)
				}
				if steps(r.order, first) != 5 || steps(r.order, other) != anew(r.order)+5 {
					t.Fatalf("%+v: %d steps, and %d, %d of them ahead of beginning anew", r, steps(r.order, first), steps(r.order, other), anew(r.order))
				}
				seen[anew(r.order)] = true
			})
			if len(seen) != 3 {
				t.Fatalf("%+v: %v", c, seen)
			}
		}
	})
}

func TestTwoWhoTakeOutTheOnlyOne(t *testing.T) { // P12.3: one has it, the other one is ResEmpty, also if it began anew
	races(func(c api.Conf, head uint64) {
		seen := map[int]bool{}
		racing(c, head, 1, []int{out}, []int{out}).inEachOrder(t, func(r race) {
			first, other := firstAndOther(r.order)
			if r.hands[first][0] != done(first, 1) || r.hands[other][0] != none(other) {
				t.Fatalf("%+v", r)
			}
			if steps(r.order, first) != 5 || steps(r.order, other) != anew(r.order)+2 {
				t.Fatalf("%+v: %d steps, and %d, %d of them ahead of beginning anew", r, steps(r.order, first), steps(r.order, other), anew(r.order))
			}
			seen[anew(r.order)] = true
		})
		if len(seen) != 3 {
			t.Fatalf("%+v: %v", c, seen)
		}
	})
}

func TestTwoWhoTakeOutOfNone(t *testing.T) { // P12.3: both are ResEmpty behind two steps, and nothing changed
	races(func(c api.Conf, head uint64) {
		r := racing(c, head, 0, []int{out}, []int{out})
		m := slices.Clone(r.m)
		orders := r.inEachOrder(t, func(r race) {
			if r.hands[0][0] != none(0) || r.hands[1][0] != none(1) || len(r.order) != 4 || !slices.Equal(r.m, m) {
				t.Fatalf("%+v was %v", r, m)
			}
		})
		if orders != 6 { // of 4 places 2 each
			t.Fatalf("%d orders", orders)
		}
	})
}

func TestOneIsNobodysTillItIsThere(t *testing.T) { // P12.3: beside one who puts the only one in: it is taken just by who looks behind the last step of that
	races(func(c api.Conf, head uint64) {
		empty := 0
		racing(c, head, 0, []int{in}, []int{out}).inEachOrder(t, func(r race) {
			want := none(1)
			if place(r.order, 1, 1) > place(r.order, 0, 4) {
				want = done(1, 1000)
			}
			if place(r.order, 1, 1) > place(r.order, 0, 2) && want.Res == api.ResEmpty { // its place was taken, but it was not there
				empty++
			}
			if r.hands[1][0] != want || r.hands[0][0] != (api.Frame{Op: in, Val: 1000, Res: api.ResOk}) || steps(r.order, 0) != 5 {
				t.Fatalf("%+v", r)
			}
		})
		if empty == 0 {
			t.Fatalf("%+v: no such order", c)
		}
	})
}

func TestASlotIsNobodysTillItIsFree(t *testing.T) { // P12.3: beside one who puts into a full injector: it finds room just behind the last step of who takes one out
	races(func(c api.Conf, head uint64) {
		fulls := 0
		racing(c, head, c.I, []int{in}, []int{out}).inEachOrder(t, func(r race) {
			want := api.Frame{Op: in, Val: 1000, Res: api.ResFull}
			if place(r.order, 0, 1) > place(r.order, 1, 4) {
				want.Res = api.ResOk
			}
			if place(r.order, 0, 1) > place(r.order, 1, 2) && want.Res == api.ResFull { // the number was taken, but its slot was not free
				fulls++
			}
			if r.hands[0][0] != want || r.hands[1][0] != done(1, 1) || steps(r.order, 1) != 5 {
				t.Fatalf("%+v", r)
			}
		})
		if fulls == 0 {
			t.Fatalf("%+v: no such order", c)
		}
	})
}

func TestOnePutsInAndOneTakesOut(t *testing.T) { // P12.3: of an injector that has some, and room: neither hinders the other one
	races(func(c api.Conf, head uint64) {
		for many := 1; many < c.I; many++ {
			if many > 2 && many < c.I-1 {
				continue
			}
			orders := racing(c, head, many, []int{in}, []int{out}).inEachOrder(t, func(r race) {
				if r.hands[0][0] != (api.Frame{Op: in, Val: 1000, Res: api.ResOk}) || r.hands[1][0] != done(1, 1) || len(r.order) != 10 {
					t.Fatalf("%+v", r)
				}
				if l, _ := deq.List(c, r.m); len(l) != many || l[many-1] != 1000 {
					t.Fatalf("%+v: %v", r, l)
				}
			})
			if orders != 252 { // of 10 places 5 each
				t.Fatalf("%d orders", orders)
			}
		}
	})
}

func TestTwoCallsBesideOne(t *testing.T) { // P12.3: also if another one exchanges twice; who takes two has them in order
	for _, i := range []int{1, 2, 3} {
		c := api.Conf{W: 1, D: 1, I: i}
		for many := range i + 1 {
			racing(c, 2, many, []int{out, out}, []int{out}).inEachOrder(t, func(r race) {
				if l, _ := deq.List(c, r.m); len(l) != max(0, many-3) {
					t.Fatalf("%+v: %v", r, l)
				}
				if one, two := r.hands[0][0], r.hands[0][1]; two.Res == api.ResOk && one.Val >= two.Val {
					t.Fatalf("%+v", r)
				}
			})
		}
	}
}

func TestThreeAndMoreCalls(t *testing.T) { // P12.3: who put in, and take out, both, and again: each number is taken once, or listed; what one puts in is taken in order
	for _, i := range []int{1, 2, 3} {
		c := api.Conf{W: 1, D: 1, I: i}
		for many := range i + 1 {
			for _, calls := range [][][]int{
				{{out}, {out}, {out}},
				{{in}, {out}, {out}},
				{{in}, {in}, {out}},
				{{in, in}, {out, out}},
				{{in, out}, {out, in}},
				{{in, out}, {in, out}},
				{{out, in}, {out, in}},
				{{in, in, in}, {out, out}},
			} {
				ends := 0
				racing(c, 1, many, calls...).inEachState(t, map[string]bool{}, func(r race) {
					ends++
					for _, h := range r.hands {
						vals := []uint64{}
						for _, f := range h {
							if f.Op == out && f.Res == api.ResOk {
								vals = append(vals, f.Val)
							}
						}
						if len(calls) == 2 && calls[0][0] == in && calls[1][0] == out && !slices.IsSorted(vals) {
							t.Fatalf("%+v: %v", r, vals)
						}
					}
				})
				if ends == 0 {
					t.Fatalf("%+v, %v: nothing ends", c, calls)
				}
			}
		}
	}
}
