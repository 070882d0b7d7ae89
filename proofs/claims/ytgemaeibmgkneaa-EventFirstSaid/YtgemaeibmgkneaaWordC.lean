/- Contracts of Bump and of awake. -/
import Derived.Test.YtgemaeibmgkneaaWordB
namespace Go.Proofs.Ytgemaeibmgkneaa
open Go.RowKit Go.Deep
set_option maxRecDepth 100000 in
theorem ep_wrap (e : Int) (h : U e) : IntKind.u64.wrap (e / 65536 + 1) = e / 65536 + 1 := wraps_u64 _ (by have := h.1; omega) (by have := h.2; omega)
set_option maxRecDepth 100000 in
theorem mask_u (e : Int) : U (e % 65536) := by unfold U; omega
set_option maxRecDepth 100000 in
theorem bump_any (e : Int) (w : World) (h : U e) : Tells 76 #[.int .u64 e] w (.tuple #[.int .u64 (bp e), .int .i64 (lw e)]) := by
  have H := Lib.hid h
  have EW := Lib.hid (ep_wrap e h)
  clear h
  rcases lw_cases e with ⟨hl, h0⟩ | ⟨k, hk, hl, hb, h0⟩
  · have E := Lib.hid (show pk (e / 65536 + 1) (e % 65536) = bp e by unfold bp rs; rw [hl, if_neg (by omega)])
    have HL := Lib.hid hl
    clear hl h0
    go_enter Try.func76, Try.ntmps76
    go_wp2_with fail
    refine (mask_any _ _ H.out).mono ?_
    rintro _ _ ⟨rfl, rfl⟩
    go_wp2_with fail
    refine (Tells.of (lowest_any _ _ H.out) (congrArg (Value.int .i64) HL.out)).mono ?_
    rintro _ w1 ⟨rfl, z1⟩
    have Z := Lib.hid z1
    clear z1
    go_wp2_with fail
    refine (epoch_any _ _).mono ?_
    rintro _ _ ⟨rfl, rfl⟩
    go_wp2_with fail
    refine (Gives.of (pack_any _ _ _ (mask_u _)) (v' := .int .u64 (bp e)) (by rw [EW.out, E.out])).mono ?_
    rintro _ _ ⟨rfl, rfl⟩
    go_wp2
    go_ret2
    exact ⟨by rw [HL.out]; rfl, Z.out⟩
  · have hp := pow_lt hk
    have E := Lib.hid (show bits .andNot .u64 (e % 65536) (2 ^ k) = rs e by
      unfold rs; rw [andNot_bit _ k hk (mask_u e) (by rw [bit_mask e k hk]; exact hb), hl, if_pos (by omega), Int.toNat_natCast])
    have E2 := Lib.hid (show IntKind.u64.wrap (2 ^ k) = 2 ^ k from wraps_u64 _ (by omega) (by omega))
    have HL := Lib.hid hl
    clear hl h0 hb hp
    go_enter Try.func76, Try.ntmps76
    go_wp2_with fail
    refine (mask_any _ _ H.out).mono ?_
    rintro _ _ ⟨rfl, rfl⟩
    go_wp2_with fail
    refine (Tells.of (lowest_any _ _ H.out) (congrArg (Value.int .i64) HL.out)).mono ?_
    rintro _ w1 ⟨rfl, z1⟩
    have Z := Lib.hid z1
    clear z1
    go_wp2_with fail
    refine (epoch_any _ _).mono ?_
    rintro _ _ ⟨rfl, rfl⟩
    go_wp2_with fail
    refine (Gives.of (pack_any _ _ _ (by rw [E2.out, E.out]; have := rs_range e; unfold U; omega)) (v' := .int .u64 (bp e)) (by rw [EW.out, E2.out, E.out]; rfl)).mono ?_
    rintro _ _ ⟨rfl, rfl⟩
    go_wp2
    go_ret2
    exact ⟨by rw [HL.out]; rfl, Z.out⟩
end Go.Proofs.Ytgemaeibmgkneaa
