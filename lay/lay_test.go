package lay_test

import (
	"math"
	"math/big"
	"slices"
	"testing"

	"poacher/api"
	"poacher/lay"
)

const top = math.MaxUint64

// layouts are all that may be, written out from the chapter's words.
func layouts() []api.Conf {
	var out []api.Conf
	for w := 1; w <= 8; w++ {
		for _, d := range []int{1, 2, 4, 8, 16} {
			for i := 1; i <= 16; i++ {
				for spin := 0; spin <= 4; spin++ {
					out = append(out, api.Conf{W: w, D: d, I: i, Spin: spin})
				}
			}
		}
	}
	return out
}

// far are numbers that no limit lets through; narrower kinds would take some of them for small ones.
func far() []int {
	return []int{
		math.MinInt, math.MinInt + 1, -1 << 62, math.MinInt32, -1<<32 + 1, -1<<32 + 2, -256, -16, -8, -4, -2,
		256 + 1, 256 + 2, 1<<16 + 1, 1<<16 + 2, math.MaxInt32, 1 << 32, 1<<32 + 1, 1<<32 + 2, 1 << 62, math.MaxInt - 1, math.MaxInt,
	}
}

// wrong are layouts that may not be: one part of each is wrong, or all.
func wrong() []api.Conf {
	may := api.Conf{W: 2, D: 4, I: 3, Spin: 1}
	out := []api.Conf{{}, {W: -1, D: -1, I: -1, Spin: -1}, {W: 9, D: 32, I: 17, Spin: 5}}
	part := func(set func(c *api.Conf, n int), beyond ...int) {
		for _, n := range append(beyond, far()...) {
			c := may
			set(&c, n)
			out = append(out, c)
		}
	}
	part(func(c *api.Conf, n int) { c.W = n }, -1, 0, 9, 10, 16)
	part(func(c *api.Conf, n int) { c.D = n }, -1, 0, 3, 5, 6, 7, 9, 10, 11, 12, 13, 14, 15, 17, 18, 24, 31, 32, 64)
	part(func(c *api.Conf, n int) { c.I = n }, -1, 0, 17, 18, 32)
	part(func(c *api.Conf, n int) { c.Spin = n }, -1, 5, 6, 8)
	for _, n := range []int{math.MinInt, math.MaxInt} {
		out = append(out, api.Conf{W: n, D: n, I: n, Spin: n})
	}
	return out
}

// edges are layouts at the limits, and two between.
func edges() []api.Conf {
	out := []api.Conf{{W: 2, D: 4, I: 3, Spin: 1}, {W: 5, D: 8, I: 7, Spin: 2}}
	for _, w := range []int{1, 8} {
		for _, d := range []int{1, 16} {
			for _, i := range []int{1, 16} {
				for _, spin := range []int{0, 4} {
					out = append(out, api.Conf{W: w, D: d, I: i, Spin: spin})
				}
			}
		}
	}
	return out
}

// numbers are those around 0, I, D, 2^32, 2^63 and 2^64, where a narrower or a signed kind would go wrong.
func numbers(c api.Conf) []uint64 {
	out := []uint64{1<<31 - 1, 1 << 31, 1<<32 - 1, 1 << 32, 1<<32 + 1}
	for x := range uint64(2*max(c.I, c.D) + 3) {
		out = append(out, x, 1<<63-1-x, 1<<63+x, top-x)
	}
	return out
}

// workers are those that are there, and those that are not.
func workers(c api.Conf) []int {
	out := append(far(), -1)
	for w := range 12 {
		out = append(out, w)
	}
	return append(out, c.W-1, c.W)
}

// left is what is left of x divided by n, in numbers that have no sign to lose.
func left(x uint64, n int) int {
	return int(new(big.Int).Mod(new(big.Int).SetUint64(x), big.NewInt(int64(n))).Int64())
}

// walk lays the cells down one behind another, in the chapter's order.
type walk struct {
	seqs, vals, tops, bottoms, parks []int
	slots                            [][]int
	size                             int
}

func walked(c api.Conf) walk {
	out := walk{size: 6}
	next := func(n int) []int {
		var at []int
		for range n {
			at = append(at, out.size)
			out.size++
		}
		return at
	}
	out.seqs, out.vals = next(c.I), next(c.I)
	for range c.W {
		out.tops = append(out.tops, next(1)...)
		out.bottoms = append(out.bottoms, next(1)...)
		out.parks = append(out.parks, next(1)...)
		out.slots = append(out.slots, next(c.D))
	}
	return out
}

func TestMay(t *testing.T) { // P3.1
	for _, c := range layouts() {
		if !lay.May(c) {
			t.Errorf("May(%+v) is false", c)
		}
	}
	for _, c := range wrong() {
		if lay.May(c) {
			t.Errorf("May(%+v) is true", c)
		}
	}
}

func TestMayAroundTheLimits(t *testing.T) { // P3.1
	fits := func(n, low, high int) bool { return low <= n && n <= high }
	for w := -2; w <= 10; w++ {
		for d := -2; d <= 34; d++ {
			for i := -2; i <= 18; i++ {
				for spin := -2; spin <= 6; spin++ {
					c := api.Conf{W: w, D: d, I: i, Spin: spin}
					want := fits(w, 1, 8) && slices.Contains([]int{1, 2, 4, 8, 16}, d) && fits(i, 1, 16) && fits(spin, 0, 4)
					if got := lay.May(c); got != want {
						t.Fatalf("May(%+v) = %v", c, got)
					}
				}
			}
		}
	}
}

func TestSizeAndNew(t *testing.T) { // P3.1
	for _, c := range layouts() {
		want := 6 + 2*c.I + c.W*(3+c.D)
		if got := lay.Size(c); got != want {
			t.Errorf("Size(%+v) = %d, want %d", c, got, want)
		}
		if got := lay.New(c); !slices.Equal(got, make(api.Mem, want)) {
			t.Errorf("New(%+v) = %v, want %d noughts", c, got, want)
		}
	}
}

func TestSizeOfTheLeastAndTheGreatest(t *testing.T) { // P3.1
	for _, x := range []struct {
		c    api.Conf
		want int
	}{
		{api.Conf{W: 1, D: 1, I: 1}, 12}, {api.Conf{W: 1, D: 1, I: 1, Spin: 4}, 12},
		{api.Conf{W: 8, D: 1, I: 1}, 40}, {api.Conf{W: 1, D: 16, I: 1}, 27}, {api.Conf{W: 1, D: 1, I: 16}, 42},
		{api.Conf{W: 8, D: 16, I: 16, Spin: 4}, 190},
	} {
		if got := lay.Size(x.c); got != x.want || got > api.MaxMem {
			t.Errorf("Size(%+v) = %d, want %d", x.c, got, x.want)
		}
	}
}

func TestWrongLayoutsHaveNoCells(t *testing.T) { // P3.1, P3.2, P1, R1
	for _, c := range wrong() {
		if n, m := lay.Size(c), lay.New(c); n != 0 || len(m) != 0 {
			t.Errorf("%+v: %d cells, %v", c, n, m)
		}
		for _, x := range []uint64{0, 1, 1<<63 - 1, 1 << 63, top} {
			if seq, val := lay.Seq(c, x), lay.Val(c, x); seq != -1 || val != -1 {
				t.Errorf("%+v, %d: sequence %d, value %d", c, x, seq, val)
			}
		}
		for _, w := range workers(c) {
			noWorker(t, c, w)
		}
	}
}

func TestNoSuchWorker(t *testing.T) { // P3.2, R1
	for _, c := range edges() {
		for _, w := range workers(c) {
			if w < 0 || w >= c.W {
				noWorker(t, c, w)
			}
		}
	}
}

func noWorker(t *testing.T, c api.Conf, w int) {
	t.Helper()
	if top, bottom, park := lay.Top(c, w), lay.Bottom(c, w), lay.Park(c, w); top != -1 || bottom != -1 || park != -1 {
		t.Errorf("%+v, worker %d: top %d, bottom %d, park %d", c, w, top, bottom, park)
	}
	for _, x := range []uint64{0, 1, 3, 16, 1<<63 - 1, 1 << 63, top} {
		if got := lay.Slot(c, w, x); got != -1 {
			t.Errorf("Slot(%+v, %d, %d) = %d", c, w, x, got)
		}
	}
}

func TestSeqAndVal(t *testing.T) { // P3.2, R7
	for _, c := range layouts() {
		want := walked(c)
		for _, x := range numbers(c) {
			at := left(x, c.I)
			if seq, val := lay.Seq(c, x), lay.Val(c, x); seq != want.seqs[at] || val != want.vals[at] {
				t.Fatalf("%+v, %d: sequence %d, value %d, want %d, %d", c, x, seq, val, want.seqs[at], want.vals[at])
			}
		}
	}
}

func TestTopBottomAndPark(t *testing.T) { // P3.2
	for _, c := range layouts() {
		want := walked(c)
		for w := range c.W {
			got := [3]int{lay.Top(c, w), lay.Bottom(c, w), lay.Park(c, w)}
			if asked := [3]int{want.tops[w], want.bottoms[w], want.parks[w]}; got != asked {
				t.Fatalf("%+v, worker %d: top, bottom and park %v, want %v", c, w, got, asked)
			}
		}
	}
}

func TestSlot(t *testing.T) { // P3.2, R7
	for _, c := range layouts() {
		want := walked(c)
		for w := range c.W {
			for _, x := range numbers(c) {
				if got, asked := lay.Slot(c, w, x), want.slots[w][left(x, c.D)]; got != asked {
					t.Fatalf("Slot(%+v, %d, %d) = %d, want %d", c, w, x, got, asked)
				}
			}
		}
	}
}

func TestNumbersGoAround(t *testing.T) { // P3.2, R7: 2^64 is no multiple of 3
	c := api.Conf{W: 2, D: 4, I: 3, Spin: 1}
	for _, x := range []struct {
		x              uint64
		seq, val, slot int
	}{
		{0, 6, 9, 22}, {1, 7, 10, 23}, {2, 8, 11, 24}, {3, 6, 9, 25}, {4, 7, 10, 22}, {5, 8, 11, 23},
		{1<<63 - 1, 7, 10, 25}, {1 << 63, 8, 11, 22}, {1<<63 + 1, 6, 9, 23},
		{top - 1, 8, 11, 24}, {top, 6, 9, 25},
	} {
		if seq, val, slot := lay.Seq(c, x.x), lay.Val(c, x.x), lay.Slot(c, 1, x.x); seq != x.seq || val != x.val || slot != x.slot {
			t.Errorf("%d: %d, %d, %d, want %d, %d, %d", x.x, seq, val, slot, x.seq, x.val, x.slot)
		}
	}
}

func TestExample(t *testing.T) { // the chapter's example
	c := api.Conf{W: 1, D: 2, I: 1}
	if n, top, slot := lay.Size(c), lay.Top(c, 0), lay.Slot(c, 0, 1); n != 13 || top != 8 || slot != 12 || len(lay.New(c)) != 13 {
		t.Errorf("%d cells, top %d, slot 1 %d", n, top, slot)
	}
}
