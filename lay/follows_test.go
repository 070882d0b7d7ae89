package lay_test

import (
	"math"
	"slices"
	"testing"

	"poacher/api"
	"poacher/lay"
)

// cellsOf are all that a layout's calls tell, each number once.
func cellsOf(c api.Conf) []int {
	var out []int
	for x := range uint64(c.I) {
		out = append(out, lay.Seq(c, x), lay.Val(c, x))
	}
	for w := range c.W {
		out = append(out, lay.Top(c, w), lay.Bottom(c, w), lay.Park(c, w))
		for x := range uint64(c.D) {
			out = append(out, lay.Slot(c, w, x))
		}
	}
	return out
}

func TestEachCellIsOnesOnly(t *testing.T) { // P3.3
	for _, c := range layouts() {
		told := make([]int, lay.Size(c))
		for _, at := range cellsOf(c) {
			if at < 0 || at >= len(told) {
				t.Fatalf("%+v: cell %d is none of %d", c, at, len(told))
			}
			told[at]++
		}
		for at, n := range told {
			if want := min(1, max(0, at-5)); n != want { // the first six are nobody's, all others one's
				t.Fatalf("%+v: cell %d is told %d times, want %d", c, at, n, want)
			}
		}
	}
}

func TestAnyNumberIsACellOfSize(t *testing.T) { // P3.3, R1
	for _, c := range edges() {
		for _, x := range numbers(c) {
			told := []int{lay.Seq(c, x), lay.Val(c, x)}
			for w := range c.W {
				told = append(told, lay.Slot(c, w, x))
			}
			for _, at := range told {
				if at < 6 || at >= lay.Size(c) {
					t.Errorf("%+v, %d: cell %d of %d", c, x, at, lay.Size(c))
				}
			}
		}
	}
}

func TestSpinMovesNoCell(t *testing.T) { // P3.1, P3.2: no cell is laid for it
	for _, c := range layouts() {
		still := c
		still.Spin = 0
		if lay.Size(c) != lay.Size(still) || !slices.Equal(cellsOf(c), cellsOf(still)) {
			t.Fatalf("%+v is laid out otherwise than %+v", c, still)
		}
	}
}

func TestNewIsTheCallersOwn(t *testing.T) { // R3
	for _, c := range edges() {
		a, b := lay.New(c), lay.New(c)
		for i := range a {
			a[i] = 9
		}
		if noughts := make(api.Mem, lay.Size(c)); !slices.Equal(b, noughts) || !slices.Equal(lay.New(c), noughts) {
			t.Errorf("%+v: a change is seen in another answer", c)
		}
	}
}

func TestNothingIsKept(t *testing.T) { // R5
	c := api.Conf{W: 2, D: 4, I: 3, Spin: 1}
	for range 2 {
		for _, other := range append(edges(), wrong()...) {
			lay.New(other)
			lay.Slot(other, math.MaxInt, top)
			lay.Top(other, 0)
			lay.Val(other, 7)
		}
		if lay.Size(c) != 26 || lay.Val(c, 4) != 10 || lay.Top(c, 1) != 19 || lay.Park(c, 1) != 21 || lay.Slot(c, 1, 7) != 25 {
			t.Error("an answer hangs on what was asked before")
		}
	}
}
