package inject_test

import (
	"math/bits"
	"slices"
	"testing"

	"poacher/api"
	"poacher/deq"
	"poacher/enq"
	"poacher/frame"
	"poacher/inject"
)

// each is how many numbers one who puts in has: from 1 on, the next one's from 1 and that on, and so on; so all have a bit.
const each = 20

// account is what is held against the cells: which numbers were put in, which were taken, and of each who takes out the last one that it has of each who puts in.
type account struct {
	put, taken uint64
	last       [3][3]uint64
}

func (a account) left() uint64 { return a.put &^ a.taken }

// booked is the account behind a call that is over; the text tells what is wrong, if something is.
func (a account) booked(f api.Frame, room int) (account, string) {
	switch [2]int{f.Op, f.Res} {
	case [2]int{in, api.ResOk}:
		if a.put&(1<<f.Val) != 0 {
			return a, "it was put in once more"
		}
		a.put |= 1 << f.Val
		if bits.OnesCount64(a.left()) > room {
			return a, "there was no room"
		}
	case [2]int{out, api.ResOk}:
		if f.Val == 0 || f.Val > 3*each || a.left()&(1<<f.Val) == 0 {
			return a, "no such number is left"
		}
		a.taken |= 1 << f.Val
		whose := (f.Val - 1) / each
		if f.Val <= a.last[f.Who][whose] {
			return a, "it has one that was put in behind it"
		}
		a.last[f.Who][whose] = f.Val
	case [2]int{in, api.ResFull}:
	case [2]int{out, api.ResEmpty}:
		if f.Val != 0 {
			return a, "it took nothing, and has a number"
		}
	default:
		return a, "it has no such result"
	}
	return a, ""
}

// behindAll asks that a list is what is left, and that of what one has put in nothing was taken that lies behind something that is left.
func (a account) behindAll(l []uint64) bool {
	var has uint64
	ahead := [3]uint64{}
	for n := range uint64(3*each + 1) {
		if a.taken&(1<<n) != 0 {
			ahead[(n-1)/each] = n
		}
	}
	for _, n := range l {
		if n == 0 || n > 3*each || has&(1<<n) != 0 || n <= ahead[(n-1)/each] {
			return false
		}
		has |= 1 << n
		ahead[(n-1)/each] = n
	}
	return has == a.left()
}

// spot is how all stands between two steps, with room for 3 numbers and for three who put in, and take out.
type spot struct {
	m     [16]uint64
	at    [3]api.Frame
	begun [3]int // how many calls of each list are
	account
}

// race is an injector, and what each does, at most three.
type race struct {
	room  int
	head  uint64
	calls [][]api.Frame
}

func (r race) start() spot {
	var s spot
	copy(s.m[:], holding(alone(r.room), r.head))
	copy(s.at[:], idle(3))
	return s
}

// next is the spot behind a step of who; false, if that one has nothing to do.
func (r race) next(t *testing.T, s spot, who int) (spot, bool) {
	t.Helper()
	f := s.at[who]
	if f.Op == -1 {
		if s.begun[who] == len(r.calls[who]) {
			return s, false
		}
		f = r.calls[who][s.begun[who]]
		f = frame.Begin(f.Op, who, f.Val)
		s.begun[who]++
	}
	was := s
	m, f := inject.Step(alone(r.room), s.m[:sizeOf(r.room)], f)
	copy(s.m[:], m)
	if s.at[who] = f; frame.Over(f) {
		s.at[who] = api.Frame{Op: -1}
		a, wrong := s.booked(f, r.room)
		if wrong != "" {
			t.Fatalf("%+v: %+v behind %+v: %s", r, f, was, wrong)
		}
		s.account = a
	}
	return s, true
}

// asked asks that there are never more than there is room for, and that in the end, if all calls that are at hand are over, the injector has what is left.
func (r race) asked(t *testing.T, s spot) {
	t.Helper()
	c, m := alone(r.room), api.Mem(s.m[:sizeOf(r.room)])
	if n := enq.Length(c, m); n < 0 || n > r.room {
		t.Fatalf("%+v: behind %+v there are %d", r, s, n)
	}
	m, at := inject.Rest(r.room, m, s.at[:])
	a := s.account
	for _, f := range at {
		if f.Op == -1 {
			continue
		}
		var wrong string
		if a, wrong = a.booked(f, r.room); wrong != "" {
			t.Fatalf("%+v: %+v at rest behind %+v: %s", r, f, s, wrong)
		}
	}
	if l, is := deq.List(c, m); !is || !a.behindAll(l) {
		t.Fatalf("%+v: behind %+v there are %v, %v, of %+v", r, s, l, is, a)
	}
}

// inAllOrders goes to each spot that any order of steps, however long, comes to.
func (r race) inAllOrders(t *testing.T) {
	t.Helper()
	seen := map[spot]bool{r.start(): true}
	for todo := []spot{r.start()}; len(todo) > 0; todo = todo[1:] {
		r.asked(t, todo[0])
		for who := range r.calls {
			if s, goes := r.next(t, todo[0], who); goes && !seen[s] {
				seen[s] = true
				todo = append(todo, s)
			}
		}
	}
}

// called are calls of one, each that puts in with the next number of its own.
func called(who int, ops ...int) []api.Frame {
	var all []api.Frame
	val := uint64(who*each + 1)
	for _, op := range ops {
		f := api.Frame{Op: op}
		if op == in {
			f.Val = val
			val++
		}
		all = append(all, f)
	}
	return all
}

// allOf are all lists of so many calls of one.
func allOf(who, n int) [][]api.Frame {
	var all [][]api.Frame
	for order := range 1 << n {
		var ops []int
		for i := range n {
			ops = append(ops, []int{in, out}[order>>i&1])
		}
		all = append(all, called(who, ops...))
	}
	return all
}

func TestAllOrdersOfOneAlone(t *testing.T) { // P13.4
	for room := 1; room <= 3; room++ {
		for _, calls := range allOf(0, 8) {
			race{room: room, calls: [][]api.Frame{calls}}.inAllOrders(t)
		}
	}
}

func TestAllOrdersOfTwo(t *testing.T) { // P13.4: all pairs of lists of three calls, from place 0 on, and past 2^63 and 2^64
	for room := 1; room <= 3; room++ {
		for _, head := range []uint64{0, 1<<63 - 1, most - 1} {
			if room == 3 && head == most-1 { // of that size there is no list around 2^64
				continue
			}
			for _, one := range allOf(0, 3) {
				for _, two := range allOf(1, 3) {
					race{room, head, [][]api.Frame{one, two}}.inAllOrders(t)
				}
			}
		}
	}
}

func TestAllOrdersOfThree(t *testing.T) { // P13.4: all threes of calls, and some of more
	for room := 1; room <= 3; room++ {
		for _, one := range allOf(0, 1) {
			for _, two := range allOf(1, 1) {
				for _, three := range allOf(2, 2) {
					race{room, uint64(room) - 1, [][]api.Frame{one, two, three}}.inAllOrders(t)
				}
			}
		}
		for _, calls := range [][][]int{
			{{in, in}, {in, in}, {out, out}},
			{{in, in}, {out, out}, {out, out}},
			{{in, out}, {in, out}, {in, out}},
			{{in, in, in}, {out, out}, {out}},
		} {
			var all [][]api.Frame
			for who, ops := range calls {
				all = append(all, called(who, ops...))
			}
			race{room, 0, all}.inAllOrders(t)
		}
	}
}

// kept asks that what Play has answered, and Rest then, is as P13.4 says, of numbers that are 1000 times whose they are, and which; it answers how many were taken, and are left.
func kept(t *testing.T, room int, calls [][]api.Frame, who []int) (taken, left int) {
	t.Helper()
	m, over, at := inject.Play(room, calls, who)
	c := alone(room)
	if n := enq.Length(c, m); n < 0 || n > room {
		t.Fatalf("Play(%d, %+v, %v): there are %d", room, calls, who, n)
	}
	m, at = inject.Rest(room, m, at)
	put, got := make([][]uint64, len(calls)), make([][]uint64, len(calls))
	have := map[[2]uint64]uint64{} // of each who takes out, and each who puts in, the last one
	many := 0
	for _, f := range slices.Concat(over, at) {
		switch whose := f.Val / 1000; {
		case f.Op == -1 || f.Res == api.ResFull || f.Res == api.ResEmpty:
		case f.Res != api.ResOk:
			t.Fatalf("Play(%d, %+v, %v): %+v at rest", room, calls, who, f)
		case f.Op == in:
			put[f.Who] = append(put[f.Who], f.Val)
			many++
		default:
			got[whose] = append(got[whose], f.Val)
			pair := [2]uint64{uint64(f.Who), whose}
			if f.Val < have[pair] {
				t.Fatalf("Play(%d, %+v, %v): %d took %d behind %d", room, calls, who, f.Who, f.Val, have[pair])
			}
			have[pair] = f.Val
			many--
			taken++
		}
		if many < 0 || many > room {
			t.Fatalf("Play(%d, %+v, %v): %+v: there are %d", room, calls, who, f, many)
		}
	}
	l, is := deq.List(c, m)
	for whose := range got {
		slices.Sort(got[whose])
	}
	for _, n := range l {
		got[n/1000] = append(got[n/1000], n)
	}
	for whose := range put {
		// What one has put in rises, as its numbers do: what is left lies behind all that was taken.
		if !is || !slices.Equal(put[whose], got[whose]) {
			t.Fatalf("Play(%d, %+v, %v): %d put in %v, taken or left are %v of them", room, calls, who, whose, put[whose], got[whose])
		}
	}
	return taken, len(l)
}

// thousands are lists whose numbers tell whose they are.
func thousands(calls [][]api.Frame) [][]api.Frame {
	all := make([][]api.Frame, len(calls))
	for i, l := range calls {
		for k, f := range l {
			all[i] = append(all[i], api.Frame{Op: f.Op, Val: uint64(1000*i + k)})
		}
	}
	return all
}

func TestKeptInAllOrders(t *testing.T) { // P13.4: all lists of who, as many as there is time for
	for _, room := range []int{1, 2} {
		for _, ahead := range starts() {
			first := turns(ahead, 0)
			for _, calls := range pairs() {
				all := thousands(calls)
				inAllScripts(2, 11, func(who []int) { kept(t, room, all, append(first[:ahead:ahead], who...)) })
			}
			for _, calls := range threes() {
				all := thousands(calls)
				inAllScripts(3, 7, func(who []int) { kept(t, room, all, append(first[:ahead:ahead], who...)) })
			}
		}
	}
}

func TestKeptInDrawnOrders(t *testing.T) { // P13.4: of many calls, of each room, and each number of lists
	taken, left := 0, 0
	for room := 1; room <= 16; room++ {
		for many := 1; many <= 8; many++ {
			for seed := range 6 {
				draw := drawn(500*room + 50*many + seed)
				all := lists(draw, many, 200)
				some, more := kept(t, room, all, script(draw, many, draw(6000)))
				taken, left = taken+some, left+more
			}
		}
	}
	if taken == 0 || left == 0 {
		t.Errorf("%d were taken, and %d are left", taken, left)
	}
}

// inOrdersOf hands on all orders of so many turns of each; the list is changed behind each.
func inOrdersOf(left []int, who []int, do func(who []int)) {
	none := true
	for i := range left {
		if left[i] == 0 {
			continue
		}
		none = false
		left[i]--
		inOrdersOf(left, append(who, i), do)
		left[i]++
	}
	if none {
		do(who)
	}
}

// taker is who has a number; -1, if nobody has.
func taker(calls []api.Frame, val uint64) int {
	who := -1
	for _, f := range calls {
		if f == done(out, f.Who, val) {
			who = f.Who
		}
	}
	return who
}

func TestOfTheOnlyNumber(t *testing.T) { // P13.4: one of two who take out has it, the other one nothing; each may be the one
	for _, room := range []int{1, 2, 3, 16} {
		seen := map[int]int{}
		inOrdersOf([]int{0, 5, 5}, turns(5, 0), func(who []int) {
			m, over, at := inject.Play(room, [][]api.Frame{puts(7), takes(1), takes(1)}, who)
			m, at = inject.Rest(room, m, at)
			all := slices.Concat(over, at)
			has := taker(all, 7)
			if has == -1 || !slices.Contains(all, gone(3-has)) {
				t.Fatalf("%v: %+v", who, all)
			}
			if l, is := deq.List(alone(room), m); !is || len(l) > 0 {
				t.Fatalf("%v: there are %v", who, l)
			}
			seen[has]++
		})
		if seen[1] == 0 || seen[1] != seen[2] || seen[1]+seen[2] != 252 {
			t.Errorf("room %d: %v", room, seen)
		}
	}
}

func TestOfTheLastRoom(t *testing.T) { // P13.4: one of two who put in has it, the other one finds none; each may be the one
	for _, room := range []int{1, 2, 3, 16} {
		first := puts(counted(1, room-1)...)
		seen := map[uint64]int{}
		inOrdersOf([]int{0, 5, 5}, turns(5*(room-1), 0), func(who []int) {
			m, over, at := inject.Play(room, [][]api.Frame{first, puts(100), puts(200)}, who)
			m, at = inject.Rest(room, m, at)
			all := slices.Concat(over, at)
			l, is := deq.List(alone(room), m)
			if !is || len(l) != room || !slices.Equal(l[:room-1], counted(1, room-1)) {
				t.Fatalf("%v: there are %v", who, l)
			}
			has := l[room-1]
			if other := 300 - has; !slices.Contains(all, done(in, int(has/100), has)) || !slices.Contains(all, late(int(other/100), other)) {
				t.Fatalf("%v: %+v", who, all)
			}
			seen[has]++
		})
		if seen[100] == 0 || seen[100] != seen[200] || seen[100]+seen[200] != 252 {
			t.Errorf("room %d: %v", room, seen)
		}
	}
}

func TestOneBehindTheOther(t *testing.T) { // P13.4: of whom nobody else does a step in between, the calls are what frame's Once does
	for room := 1; room <= 16; room++ {
		for seed := range 40 {
			draw := drawn(100*room + seed)
			var who []int
			var list []uint64
			var want []api.Frame
			calls := make([][]api.Frame, 1+draw(8))
			for k := range 60 {
				i := draw(len(calls))
				op := out
				if draw(6) < 1+seed%5 { // some are full most of the time, some empty
					op = in
				}
				f := api.Frame{Op: op, Val: uint64(k + 1)}
				calls[i] = append(calls[i], f)
				list, f = frame.Once(list, room, api.Frame{Op: op, Who: i, Val: f.Val})
				want = append(want, f)
				steps := 5
				if f.Res != api.ResOk {
					steps = 2
				}
				who = append(who, turns(steps, i)...)
			}
			m, over, at := inject.Play(room, calls, who)
			l, is := deq.List(alone(room), m)
			if !slices.Equal(over, want) || !slices.Equal(at, idle(len(calls))) || !is || !slices.Equal(l, list) {
				t.Fatalf("room %d, %+v: %+v, %+v, %v, want %+v, %v", room, calls, over, at, l, want, list)
			}
		}
	}
}

func TestTakenInTheOrderTheyWerePutIn(t *testing.T) { // P13.4: by any who take out, round by round, from each who puts in
	for room := 1; room <= 16; room++ {
		calls := make([][]api.Frame, 8)
		var who []int
		var want []api.Frame
		for n := range 3 * room {
			i, val := n%5, uint64(900-n)
			calls[i] = append(calls[i], puts(val)...)
			want = append(want, done(in, i, val))
			who = append(who, turns(5, i)...)
			if n%room < room-1 {
				continue
			}
			for k := range room {
				taker := 5 + (n+k)%3
				calls[taker] = append(calls[taker], takes(1)...)
				want = append(want, done(out, taker, uint64(900-(n-room+1+k))))
				who = append(who, turns(5, taker)...)
			}
		}
		if _, over, at := inject.Play(room, calls, who); !slices.Equal(over, want) || !slices.Equal(at, idle(8)) {
			t.Errorf("room %d: %+v, want %+v", room, over, want)
		}
	}
}
