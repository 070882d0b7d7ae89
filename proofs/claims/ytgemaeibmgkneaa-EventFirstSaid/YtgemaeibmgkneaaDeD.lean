/- Contracts of slices.Clone of calls, and of the document's own comparison of calls. -/
import Derived.Test.YtgemaeibmgkneaaDeC
import Derived.Test.YtgemaeibmgkneaaCelC
import Derived.BigQuiet
namespace Go.Proofs.Ytgemaeibmgkneaa
open Go.RowKit Go.Deep
set_option maxRecDepth 100000 in
theorem own_madeF (w : World) (base : Nat) (hb : base ≤ w.heap.size) : Ow (w.alloc (.cells #[] 34)) base (some ⟨w.heap.size, 0, none⟩) 0 0 [] := by
  refine ⟨rfl, .inr ⟨w.heap.size, 0, #[], rfl, hb, heap_alloc_new _ _, ?_⟩⟩
  exact ⟨by omega, by decide, rfl, rfl⟩
set_option maxRecDepth 100000 in
theorem eql_nilF (w : World) (a : Option Addr) (n c : Nat) : (binOp .eql 28 (.slice a n c) (.slice none 0 0)).run Try.prog w = .ok (.bool a.isNone) w := Lib.run_eql_slice_nil w 28 34 a n c 0 0 Try.underlying28
attribute [local go_sem] eql_nilF
set_option maxRecDepth 100000 in
theorem neq_fr (a b c d e g h : Int) (w : World) : (binOp .neq 34 (.agg #[.int .i64 a, .int .i64 b, .int .i64 c, .int .u64 d, .int .u64 e, .int .u64 g, .int .i64 h]) (.agg #[.int .i64 a, .int .i64 b, .int .i64 c, .int .u64 d, .int .u64 e, .int .u64 g, .int .i64 h])).run Try.prog w = .ok (.bool false) w := by
  rw [run_neq_struct, eq_in]; rfl
attribute [local go_sem] neq_fr guard_fr
set_option maxRecDepth 100000 in
set_option maxHeartbeats 1000000 in
theorem frames_same (A B : Option Addr) (n c d : Nat) (l : List Fr) (w : World) (ha : Pr w.heap.size w A l) (hb : Pr w.heap.size w B l) (hn : l.length = n) (hs : n ≤ 1000) :
    Calls Try.prog 19 #[.slice A n c, .slice B n d] w fun e w' => e = .returned (.bool true) ∧ Below w.heap.size w w' := by
  have HA := Lib.hid ha
  have HB := Lib.hid hb
  have HN := Lib.hid hn
  clear ha hb hn
  go_enter Try.func19, Try.ntmps19
  go_wp2
  go_loopw [5] (fun x wr => ∃ j q : Nat, j ≤ n ∧ x = .int .i64 j ∧ wr = w.drewN q) (fun x _ => n - (intOf x).toNat)
  case atStart => exact ⟨0, 0, Nat.zero_le _, rfl, rfl⟩
  case round =>
    obtain ⟨j, q, hj, rfl, rfl⟩ := hrel
    by_cases hlt : j < n
    · have hL : j < l.length := by rw [HN.out]; exact hlt
      obtain ⟨b1, o1, rfl, l1, h1⟩ := HA.out.at hL
      obtain ⟨b2, o2, rfl, l2, h2⟩ := HB.out.at hL
      generalize l[j] = f at h1 h2
      obtain ⟨o, p, q', v, x, y, s⟩ := f
      obtain ⟨a0, a1, a2, a3, a4, a5, a6⟩ := h1
      obtain ⟨d0, d1, d2, d3, d4, d5, d6⟩ := h2
      simp only at a0 a1 a2 a3 a4 a5 a6 d0 d1 d2 d3 d4 d5 d6
      go_wp2
      go_quiet (fail)
      go_wp2
      go_roundw
      case rel => exact ⟨j + 1, _, by omega, by go_num, rfl⟩
      case measure => simp [intOf]; omega
    · go_wp2
      go_ret
      exact ⟨rfl, below_drewN _ _⟩
end Go.Proofs.Ytgemaeibmgkneaa
