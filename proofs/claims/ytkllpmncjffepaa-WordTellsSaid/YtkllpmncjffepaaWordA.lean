/- Contracts of Pack, Epoch, Mask, Set, Wipe, Far. -/
import Derived.Test.YtkllpmncjffepaaWordM
import Derived.WalkKit
import Derived.WalkSpells
import Derived.WalkLawsBesides
import Derived.Lib.Hide
import Derived.Deep.Draws
import Derived.Deep.OwnRows
import Derived.RegionTactic
import Derived.Deep.RegionHeld3
import Derived.IntWalk
import Derived.OpenShut
namespace Go.Proofs.Ytkllpmncjffepaa
open Go.RowKit Go.Deep
/-- A call that yields a value and leaves the world. -/
abbrev Gives (f : FuncId) (args : Array Value) (w : World) (v : Value) : Prop := Calls Try.prog f args w fun e w' => e = .returned v ∧ w' = w
/-- A call that yields a value and writes nothing that was there. -/
abbrev Tells (f : FuncId) (args : Array Value) (w : World) (v : Value) : Prop := Calls Try.prog f args w fun e w' => e = .returned v ∧ Below w.heap.size w w'
theorem Gives.of {f : FuncId} {args : Array Value} {w : World} {v v' : Value} (h : Gives f args w v) (e : v = v') : Gives f args w v' := by rw [← e]; exact h
theorem Tells.of {f : FuncId} {args : Array Value} {w : World} {v v' : Value} (h : Tells f args w v) (e : v = v') : Tells f args w v' := by rw [← e]; exact h
theorem Gives.tells {f : FuncId} {args : Array Value} {w : World} {v : Value} (h : Gives f args w v) : Tells f args w v := h.mono fun _ _ ⟨e, ew⟩ => ⟨e, ew ▸ Below.refl _ _⟩

theorem mask_any (e : Int) (w : World) (h : U e) : Gives 17 #[.int .u64 e] w (.int .u64 (e % 65536)) := by
  have H := Lib.hid h
  clear h
  go_enter Try.func17, Try.ntmps17
  go_wp2
  go_ret
  rw [and_mask e H.out]
  exact ⟨rfl, rfl⟩
theorem epoch_any (e : Int) (w : World) : Gives 15 #[.int .u64 e] w (.int .u64 (e / 65536)) := by
  go_enter Try.func15, Try.ntmps15
  go_wp2
  go_ret
  exact ⟨rfl, rfl⟩
theorem pack_any (a b : Int) (w : World) (h : U b) : Gives 13 #[.int .u64 a, .int .u64 b] w (.int .u64 (pk a b)) := by
  have H := Lib.hid h
  clear h
  go_enter Try.func13, Try.ntmps13
  go_wp2
  go_ret
  rw [and_mask b H.out, or_pack]
  exact ⟨rfl, rfl⟩
theorem wipe_any (e : Int) (w : World) (h : U e) : Gives 23 #[.int .u64 e] w (.int .u64 (pk (e / 65536 + 1) 0)) := by
  have H := Lib.hid h
  clear h
  go_enter Try.func23, Try.ntmps23
  go_wp2_with fail
  refine (epoch_any _ _).mono ?_
  rintro _ _ ⟨rfl, rfl⟩
  have E := Lib.hid (show IntKind.u64.wrap (e / 65536 + 1) = e / 65536 + 1 from wraps_u64 _ (by have := H.out.1; omega) (by have := H.out.2; omega))
  go_wp2_with fail
  refine (pack_any _ _ _ (by unfold U; omega)).mono ?_
  rintro _ _ ⟨rfl, rfl⟩
  go_wp2
  go_ret
  rw [E.out]
  exact ⟨rfl, rfl⟩
theorem far_any (a b : Int) (w : World) : Gives 25 #[.int .u64 a, .int .u64 b] w (.int .i64 (far a b)) := by
  go_enter Try.func25, Try.ntmps25
  go_wp2
  go_ret
  refine ⟨?_, rfl⟩
  unfold far wrap64
  rw [IntKind.wrap_u64]
  rw [show ((a - b) % 18446744073709551616 + 9223372036854775808) % 18446744073709551616 - 9223372036854775808 = (a - b + 9223372036854775808) % 18446744073709551616 - 9223372036854775808 by omega]
  rfl
theorem set_any (e i : Int) (w : World) (h : U e) : Gives 19 #[.int .u64 e, .int .i64 i] w (.int .u64 (st e i)) := by
  have H := Lib.hid h
  clear h
  by_cases hi : 0 ≤ i ∧ i < 16
  · obtain ⟨h0, h1⟩ := hi
    obtain ⟨k, rfl⟩ := Int.eq_ofNat_of_zero_le h0
    clear h0
    go_enter Try.func19, Try.ntmps19
    go_wp2
    go_ret
    have hk : k < 16 := by omega
    have hp := pow_lt hk
    rw [wraps_u64 _ (by omega) (by omega), or_bit e k hk H.out]
    exact ⟨rfl, rfl⟩
  · have e0 : st e i = e := by unfold st; rw [if_neg (fun c => hi ⟨c.1, c.2.1⟩)]
    rw [e0]
    have hi' : i < 0 ∨ 16 ≤ i := by omega
    clear hi
    rcases hi' with hi | hi
    all_goals
      go_enter Try.func19, Try.ntmps19
      go_wp2
      go_ret
      exact ⟨rfl, rfl⟩
end Go.Proofs.Ytkllpmncjffepaa
