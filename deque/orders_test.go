package deque_test

import (
	"math/bits"
	"slices"
	"testing"

	"poacher/api"
	"poacher/deque"
	"poacher/frame"
	"poacher/push"
)

// account is what is held against the cells: which numbers were pushed, which were taken, and the last one that was stolen. Each push has a number of its own, from 1 on, in order.
type account struct {
	pushed, taken, stolen uint64
}

func (a account) left() uint64 { return a.pushed &^ a.taken }

// first and last are of the numbers that are left, of which there are some.
func (a account) first() uint64 { return uint64(bits.TrailingZeros64(a.left())) }

func (a account) last() uint64 { return uint64(63 - bits.LeadingZeros64(a.left())) }

// booked is the account behind a call that is over; the text tells what is wrong, if something is.
func (a account) booked(f api.Frame, d int) (account, string) {
	left := bits.OnesCount64(a.left())
	was := a
	switch [2]int{f.Op, f.Res} {
	case [2]int{api.OpPush, api.ResOk}:
		a.pushed |= 1 << f.Val
		if left == d || a.pushed == was.pushed {
			return a, "there was no room, or it was pushed once more"
		}
	case [2]int{api.OpPush, api.ResFull}:
		if left < d {
			return a, "there was room"
		}
	case [2]int{api.OpPop, api.ResOk}, [2]int{api.OpSteal, api.ResOk}:
		if f.Val > 63 || a.left()&(1<<f.Val) == 0 {
			return a, "no such number is left"
		}
		a.taken |= 1 << f.Val
		if f.Op == api.OpPop && f.Val != was.last() {
			return a, "it was not the last one"
		}
		if f.Op == api.OpSteal && (f.Val != was.first() || f.Val <= a.stolen) {
			return a, "it was not the first one, or stolen behind one that was pushed behind it"
		}
		if f.Op == api.OpSteal {
			a.stolen = f.Val
		}
	case [2]int{api.OpPop, api.ResEmpty}:
		if left > 0 {
			return a, "there was one"
		}
	}
	if f.Op != api.OpPush && f.Res != api.ResOk && f.Val != 0 {
		return a, "it took nothing, and has a number"
	}
	return a, ""
}

// numbers are what is left, in order.
func (a account) numbers() []uint64 {
	var out []uint64
	for n := range uint64(64) {
		if a.left()&(1<<n) != 0 {
			out = append(out, n)
		}
	}
	return out
}

// spot is how all stands between two steps, with room for 4 numbers and for two who steal.
type spot struct {
	m     [slotsAt + 4]uint64
	at    [3]api.Frame
	begun int // how many of own are
	account
}

// race is a deque, what its owner does, and how many steal.
type race struct {
	d, thieves int
	top        uint64
	own        []api.Frame
}

func (r race) conf() api.Conf { return api.Conf{W: 1, D: r.d, I: 1} }

func (r race) start() spot {
	var s spot
	copy(s.m[:], alone(r.d, r.top))
	copy(s.at[:], idle(3))
	return s
}

// next is the spot behind a step of who; false, if that one has nothing to do.
func (r race) next(t *testing.T, s spot, who int) (spot, bool) {
	t.Helper()
	f := s.at[who]
	if f.Op == -1 && who > 0 {
		f = frame.Begin(api.OpSteal, 0, 0)
	}
	if f.Op == -1 && who == 0 {
		if s.begun == len(r.own) {
			return s, false
		}
		f = frame.Begin(r.own[s.begun].Op, 0, r.own[s.begun].Val)
		s.begun++
	}
	was := s
	m, f := deque.Step(r.conf(), s.m[:slotsAt+r.d], f)
	copy(s.m[:], m)
	if s.at[who] = f; frame.Over(f) {
		s.at[who] = api.Frame{Op: -1}
		a, wrong := s.booked(f, r.d)
		if wrong != "" {
			t.Fatalf("%+v: %+v behind %+v: %s", r, f, was, wrong)
		}
		s.account = a
	}
	return s, true
}

// asked asks that in the end, if all calls that are at hand are over, the deque has what is left.
func (r race) asked(t *testing.T, s spot) {
	t.Helper()
	m, at := deque.Rest(r.d, s.m[:slotsAt+r.d], s.at[:])
	a := s.account
	for _, f := range at {
		if f.Op == -1 {
			continue
		}
		var wrong string
		if a, wrong = a.booked(f, r.d); wrong != "" || !frame.Over(f) {
			t.Fatalf("%+v: %+v at rest behind %+v: %s", r, f, s, wrong)
		}
	}
	if l, is := push.List(r.conf(), m, 0); !is || !slices.Equal(l, a.numbers()) {
		t.Fatalf("%+v: behind %+v there are %v, %v, want %v", r, s, l, is, a.numbers())
	}
}

// inAllOrders goes to each spot that any order of steps, however long, comes to.
func (r race) inAllOrders(t *testing.T) {
	t.Helper()
	seen := map[spot]bool{r.start(): true}
	for todo := []spot{r.start()}; len(todo) > 0; todo = todo[1:] {
		r.asked(t, todo[0])
		for who := range r.thieves + 1 {
			if s, goes := r.next(t, todo[0], who); goes && !seen[s] {
				seen[s] = true
				todo = append(todo, s)
			}
		}
	}
}

// owned are pushes and pops, each push with the next number, from 1 on.
func owned(ops ...int) []api.Frame {
	var out []api.Frame
	n := uint64(1)
	for _, op := range ops {
		f := api.Frame{Op: op}
		if op == api.OpPush {
			f.Val = n
			n++
		}
		out = append(out, f)
	}
	return out
}

// owners are all lists of so many pushes and pops.
func owners(n int) [][]api.Frame {
	var out [][]api.Frame
	for order := range 1 << n {
		var ops []int
		for i := range n {
			ops = append(ops, order>>i&1)
		}
		out = append(out, owned(ops...))
	}
	return out
}

func TestAllOrdersOfTheOwnerAlone(t *testing.T) { // P10.4
	for _, d := range []int{1, 2, 4} {
		for _, own := range owners(8) {
			race{d: d, own: own}.inAllOrders(t)
		}
	}
}

func TestAllOrdersOfOneWhoSteals(t *testing.T) { // P10.4: beside each list of six pushes and pops, from 0 on, and past 2^63 and 2^64
	for _, d := range []int{1, 2, 4} {
		for _, top := range []uint64{0, 1<<63 - 2, most, most - 1} {
			for _, own := range owners(6) {
				race{d: d, thieves: 1, top: top, own: own}.inAllOrders(t)
			}
		}
	}
}

func TestAllOrdersOfTwoWhoSteal(t *testing.T) { // P10.4: beside each list of five pushes and pops
	for _, d := range []int{1, 2} {
		for _, own := range owners(5) {
			race{d: d, thieves: 2, top: most - 1, own: own}.inAllOrders(t)
		}
	}
}

func TestAllOrdersOfMoreCalls(t *testing.T) { // P10.4: the slots are laid over, and the last number is asked for, again and again
	for _, ops := range [][]int{{0, 1, 0, 1, 0, 1}, {0, 0, 1, 1, 0, 1}, {0, 0, 0, 1, 1, 1}} {
		for _, d := range []int{1, 2} {
			race{d: d, thieves: 2, own: owned(ops...)}.inAllOrders(t)
		}
	}
}

// kept asks that what Play has answered, and Rest then, is as P10.4 says, and answers how many numbers were taken, and are left.
func kept(t *testing.T, d, thieves int, own []api.Frame, who []int) (taken, left int) {
	t.Helper()
	m, over, at := deque.Play(d, thieves, own, who)
	m, at = deque.Rest(d, m, at)
	var pushed, got, stolen []uint64
	for _, f := range slices.Concat(over, at) {
		switch {
		case f.Res != api.ResOk:
		case f.Op == api.OpPush:
			pushed = append(pushed, f.Val)
		default:
			got = append(got, f.Val)
			if f.Op == api.OpSteal {
				stolen = append(stolen, f.Val)
			}
		}
	}
	list, is := push.List(api.Conf{W: 1, D: d, I: 1}, m, 0)
	all := slices.Sorted(slices.Values(slices.Concat(got, list)))
	// Each push has a greater number than the one ahead, so that what is pushed, and stolen, in that order rises.
	if !is || !slices.Equal(all, pushed) || !slices.IsSorted(stolen) || !slices.IsSorted(list) {
		t.Fatalf("Play(%d, %d, %+v, %v): pushed %v, taken %v, stolen %v, left %v", d, thieves, own, who, pushed, got, stolen, list)
	}
	return len(got), len(list)
}

func TestKeptInAllOrders(t *testing.T) { // P10.4: all lists of who, as many as there is time for
	for _, d := range []int{1, 2} {
		for _, own := range [][]api.Frame{owned(0, 1, 0), owned(0, 0, 1, 1), owned(0, 1, 0, 1)} {
			for _, ahead := range []int{0, 4, 8} {
				first := turns(ahead, 0)
				inAllScripts(2, 11, func(who []int) { kept(t, d, 1, own, append(first[:ahead:ahead], who...)) })
				inAllScripts(3, 8, func(who []int) { kept(t, d, 2, own, append(first[:ahead:ahead], who...)) })
			}
		}
	}
}

func TestKeptInDrawnOrders(t *testing.T) { // P10.4: of many calls, of each room, and each number who steal
	for _, d := range rooms() {
		for thieves := range 9 {
			for seed := range 10 {
				draw := drawn(500*d + 50*thieves + seed)
				own := calls(draw, 250)
				kept(t, d, thieves, own, script(draw, thieves, draw(5000)))
			}
		}
	}
}

// inOrdersOf hands on all orders of so many turns of each; the list is changed behind each.
func inOrdersOf(left []int, who []int, do func(who []int)) {
	none := true
	for i := range left {
		if left[i] == 0 {
			continue
		}
		none = false
		left[i]--
		inOrdersOf(left, append(who, i), do)
		left[i]++
	}
	if none {
		do(who)
	}
}

func TestOfTheLastNumber(t *testing.T) { // P10.4: the owner or one who steals has it, and nobody twice
	for _, thieves := range []int{1, 2} {
		seen := map[string]bool{}
		own := append(pushes(7), pops(1)...)
		left := append([]int{6}, slices.Repeat([]int{4}, thieves)...)
		inOrdersOf(left, turns(4, 0), func(who []int) {
			m, over, at := deque.Play(2, thieves, own, who)
			_, rest := deque.Rest(2, m, at)
			all, have, ends := slices.Concat(over, rest), 0, ""
			for _, f := range all {
				if f.Op > api.OpPush && f.Res == api.ResOk {
					have++
					ends = []string{"", "popped", "stolen"}[f.Op]
					if f.Val != 7 {
						t.Fatalf("%v: %+v", who, f)
					}
				}
			}
			if have != 1 {
				t.Fatalf("%v: %d have it: %+v", who, have, all)
			}
			for _, f := range all {
				if f.Op == api.OpSteal && f.Res == api.ResAbort {
					ends += ", and somebody was late"
					break
				}
			}
			seen[ends] = true
		})
		want := []string{"popped", "popped, and somebody was late", "stolen", "stolen, and somebody was late"}
		if thieves == 1 {
			want = want[:3]
		}
		for _, ends := range want {
			if !seen[ends] {
				t.Errorf("%d who steal: never %s", thieves, ends)
			}
		}
		if len(seen) != len(want) {
			t.Errorf("%d who steal: %v", thieves, seen)
		}
	}
}

func TestIfNobodySteals(t *testing.T) { // P10.4: the owner's calls are what frame's Once does, one behind the other
	for _, d := range rooms() {
		for _, n := range []int{0, 1, 5, 9} {
			for order, own := range owners(n) {
				var l []uint64
				var want []api.Frame
				for i := range own {
					own[i].Val += uint64(order) // a pop has a value, too, which it leaves behind
					var f api.Frame
					l, f = frame.Once(l, d, api.Frame{Op: own[i].Op, Val: own[i].Val})
					want = append(want, f)
				}
				thieves := order % 9
				m, over, at := deque.Play(d, thieves, own, turns(6*n, 0))
				list, is := push.List(api.Conf{W: 1, D: d, I: 1}, m, 0)
				if !slices.Equal(over, want) || !slices.Equal(at, idle(thieves+1)) || !is || !slices.Equal(list, l) {
					t.Fatalf("room %d, %+v: %+v, %+v, %v, want %+v, %v", d, own, over, at, list, want, l)
				}
			}
		}
	}
}

func TestStolenInTheOrderOfThePushes(t *testing.T) { // P10.4: by any who steal, and all that is left
	for _, d := range rooms() {
		var own, want []api.Frame
		who := turns(4*d, 0)
		for n := range d {
			own = append(own, api.Frame{Op: api.OpPush, Val: uint64(100 - n)})
			want = append(want, api.Frame{Op: api.OpPush, Val: uint64(100 - n), Res: api.ResOk})
		}
		for n := range d {
			thief := n%8 + 1
			who = append(who, turns(4, thief)...)
			want = append(want, api.Frame{Op: api.OpSteal, Who: thief, Val: uint64(100 - n), Res: api.ResOk})
		}
		if _, over, _ := deque.Play(d, 8, own, who); !slices.Equal(over, want) {
			t.Errorf("room %d: %+v", d, over)
		}
	}
}
