package word_test

import (
	"testing"

	"poacher/word"
)

// masksOf are those with no bit, with one, with two, with all, and some between.
func masksOf() []uint64 {
	out := []uint64{0, topMask, 0xaaaa, 0x5555, 0x8421, 0xfffe, 0x7fff, 77}
	for w := range 16 {
		for v := range w + 1 {
			out = append(out, 1<<w|1<<v)
		}
	}
	return out
}

func TestWhatIsPackedIsToldAgain(t *testing.T) { // P2.4
	for _, epoch := range numbers() {
		for _, mask := range numbers() {
			e := word.Pack(epoch, mask)
			if word.Epoch(e) != epoch%epochs || word.Mask(e) != mask%masks {
				t.Errorf("Pack(%d, %d) tells %d, %d", epoch, mask, word.Epoch(e), word.Mask(e))
			}
			if again := word.Pack(word.Epoch(e), word.Mask(e)); again != e {
				t.Errorf("%d packed again is %d", e, again)
			}
		}
	}
}

func TestBumpedTillNoMaskIsLeft(t *testing.T) { // P2.4
	for _, epoch := range []uint64{0, 3, topEpoch - 20, topEpoch - 15, topEpoch - 1, topEpoch} {
		for _, mask := range masksOf() {
			bumpAll(t, epoch, mask)
		}
	}
}

// bumpAll bumps a word till each of its bits was told once, the lowest one ahead, and once more.
func bumpAll(t *testing.T, epoch, mask uint64) {
	t.Helper()
	e, n := word.Pack(epoch, mask), uint64(0)
	for bit, set := range digits(mask) {
		if !set {
			continue
		}
		if word.Mask(e) == 0 {
			t.Fatalf("epoch %d, mask %d: no mask is left ahead of bit %d", epoch, mask, bit)
		}
		next, w := word.Bump(e)
		if w != bit {
			t.Fatalf("epoch %d, mask %d: Bump(%d) tells %d, want %d", epoch, mask, e, w, bit)
		}
		e, n = next, n+1
	}
	if word.Mask(e) != 0 || word.Epoch(e) != (epoch+n)%epochs {
		t.Fatalf("epoch %d, mask %d: epoch %d, mask %d are left", epoch, mask, word.Epoch(e), word.Mask(e))
	}
	if next, w := word.Bump(e); next != word.Wipe(e) || w != -1 {
		t.Fatalf("epoch %d, mask %d: beyond its bits Bump(%d) = %d, %d", epoch, mask, e, next, w)
	}
}

func TestSetBitsAreBumpedAgain(t *testing.T) { // P2.4
	for w := range 16 {
		e := word.Set(word.Pack(topEpoch, 0), w)
		if low := word.Lowest(word.Mask(e)); low != w {
			t.Errorf("bit %d is set, %d is the lowest", w, low)
		}
		if next, low := word.Bump(e); next != 0 || low != w {
			t.Errorf("Bump(%d) = %d, %d, want 0, %d", e, next, low, w)
		}
	}
}

func TestNothingIsKept(t *testing.T) { // R5
	for range 2 {
		word.Bump(top)
		word.Set(0, 15)
		e, w := word.Bump(196613)
		if e != 262148 || w != 0 || word.Lowest(6) != 1 || word.Wipe(196613) != 262144 || word.Far(3, 5) != -2 {
			t.Error("an answer hangs on what was asked before")
		}
	}
}
