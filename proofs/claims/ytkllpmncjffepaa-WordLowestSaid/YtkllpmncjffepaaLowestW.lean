/- The walk of WordLowest: the lowest bit is set, and none below it. -/
import Derived.Test.YtkllpmncjffepaaWordR
namespace Go.Proofs.Ytkllpmncjffepaa
open Go.RowKit Go.Deep
theorem wordLowest_walk (m : Int) (w : World) (h : U m) : Tells 8 #[.int .u64 m] w (.bool true) := by
  have H := Lib.hid h
  clear h
  rcases lw_cases m with ⟨hl, h0⟩ | ⟨k, hk, hl, hb, h0⟩
  · have HL := Lib.hid hl
    have hz : m.tmod 65536 = 0 := by rw [tm_u H.out]; exact h0
    clear hl h0
    go_enter Try.func8, Try.ntmps8
    go_wp2_with fail
    refine (awake_any _).mono ?_
    rintro _ w1 ⟨rfl, z1⟩
    have HZ := Lib.hid z1
    clear z1
    go_wp2_with fail
    refine (Tells.of (lowest_any m _ H.out) (congrArg (Value.int .i64) HL.out)).mono ?_
    rintro _ w2 ⟨rfl, z2⟩
    replace HZ := Lib.hid (HZ.out.trans (z2.mono HZ.out.size))
    clear z2
    go_wp2
    go_ret
    exact ⟨rfl, HZ.out⟩
  · have HL := Lib.hid hl
    have hp := pow_lt hk
    have hx : bits BinOp.and IntKind.u64 (m / 2 ^ k) 1 = 1 := (and_one _ (bit_u m k H.out)).trans hb
    have h2 : IntKind.u64.wrap (2 ^ k) = 2 ^ k := wraps_u64 _ (by omega) (by omega)
    have h3 : ¬ (2 : Int) ^ k = 0 := by omega
    have h4 : m.tmod (2 ^ k) = 0 := by rw [tm_u H.out]; exact h0
    have h5 : (k : Int) < 16 := by omega
    have h6 : ¬ (15 : Int) < k := by omega
    clear hl h0 hb hp
    go_enter Try.func8, Try.ntmps8
    go_wp2_with fail
    refine (awake_any _).mono ?_
    rintro _ w1 ⟨rfl, z1⟩
    have HZ := Lib.hid z1
    clear z1
    go_wp2_with fail
    refine (Tells.of (lowest_any m _ H.out) (congrArg (Value.int .i64) HL.out)).mono ?_
    rintro _ w2 ⟨rfl, z2⟩
    replace HZ := Lib.hid (HZ.out.trans (z2.mono HZ.out.size))
    clear z2
    go_wp2
    go_ret
    exact ⟨rfl, HZ.out⟩
end Go.Proofs.Ytkllpmncjffepaa
