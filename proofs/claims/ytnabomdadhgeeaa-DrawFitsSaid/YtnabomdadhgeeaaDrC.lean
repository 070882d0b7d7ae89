/- Contracts of Decode, and of the document's own Decode. -/
import Derived.Test.YtnabomdadhgeeaaDrB
import Derived.Deep.RegionLaw
namespace Go.Proofs.Ytnabomdadhgeeaa
open Go.RowKit Go.Deep

/-- The pick that the bytes 3i to 3i+2 tell. -/
def bt (b : List Int) (i : Nat) : Pk := (b.getD (3 * i) 0 % 4, b.getD (3 * i + 1) 0, b.getD (3 * i + 2) 0)
def decN (b : List Int) (j : Nat) : List Pk := (List.range j).map (bt b)
/-- A script's picks. -/
def dec (b : List Int) : List Pk := decN b (b.length / 3)
theorem decN_len (b : List Int) (j : Nat) : (decN b j).length = j := by simp [decN]
theorem decN_succ (b : List Int) (j : Nat) : decN b (j + 1) = decN b j ++ [bt b j] := by simp [decN, List.range_succ]
/-- Bytes. -/
def Bs (b : List Int) : Prop := ∀ x ∈ b, 0 ≤ x ∧ x < 256
theorem Bs.at {b : List Int} (h : Bs b) {i : Nat} (hi : i < b.length) : 0 ≤ b[i] ∧ b[i] < 256 := h _ (List.getElem_mem hi)
theorem getD_at {b : List Int} {i : Nat} (hi : i < b.length) : b.getD i 0 = b[i] := by rw [List.getD_eq_getElem?_getD, List.getElem?_eq_getElem hi]; rfl

set_option maxHeartbeats 1000000 in
theorem rdec_any (A : Option Addr) (c n₀ : Nat) (b : List Int) (w : World) (h : By n₀ w A b) (hn : n₀ ≤ w.heap.size) (hs : b.length ≤ 1000) (hb : Bs b) : Calls Try.prog 13 #[.slice A b.length c] w (RetP w (dec b)) := by
  have H := Lib.hid h
  have HB := Lib.hid hb
  clear h hb
  go_enter Try.func13, Try.ntmps13
  go_wp2
  go_loopw [3, 4] (fun s i wr => ∃ (j k : Nat) (R : Option Addr) (d : Nat), k = 3 * j ∧ j ≤ b.length / 3 ∧ i = .int .i64 k ∧ s = .slice R j d ∧ Ow wr w.heap.size R j d (decN b j) ∧ Below w.heap.size w wr) (fun _ i _ => b.length - (intOf i).toNat)
  case atStart => exact ⟨0, 0, none, 0, rfl, Nat.zero_le _, rfl, rfl, Ow.nil _ _, Below.refl _ _⟩
  case round =>
    obtain ⟨j, k, R, d, hk, hj, rfl, rfl, hO, hB⟩ := hrel
    by_cases hlt : k + 2 < b.length
    · obtain ⟨g, off, rfl, hgl, c0⟩ := (H.out.below (hB.mono hn)).at (i := k) (by omega)
      obtain ⟨g', off', e, _, c1⟩ := (H.out.below (hB.mono hn)).at (i := k + 1) (by omega)
      cases e
      obtain ⟨g', off', e, _, c2⟩ := (H.out.below (hB.mono hn)).at (i := k + 2) (by omega)
      cases e
      have x0 := HB.out.at (i := k) (by omega)
      have x1 := HB.out.at (i := k + 1) (by omega)
      have x2 := HB.out.at (i := k + 2) (by omega)
      have hbt : bt b j = (b[k] % 4, b[k + 1], b[k + 2]) := by unfold bt; rw [← hk, getD_at (by omega), getD_at (by omega), getD_at (by omega)]
      have hj' : j ≤ 1000 := by omega
      have HK := Lib.hid hk
      generalize b[k] = y0 at *
      generalize b[k + 1] = y1 at *
      generalize b[k + 2] = y2 at *
      clear hk hj
      have HO : Ow wr.drew w.heap.size R j d (decN b j) := hO
      obtain ⟨R', d', w', hrun, hown, hbel⟩ := app_one HO (y0 % 4, y1, y2) (by omega) hB.size
      have RUN := Lib.hid hrun
      have OWN := Lib.hid hown
      have BW := Lib.hid (hB.drew.trans hbel)
      have BT := Lib.hid hbt
      have g0 : k < b.length := by omega
      have g1 : k + 1 < b.length := by omega
      have v1 : IntKind.i64.wrap ((k : Int) + 1) = ((k + 1 : Nat) : Int) := by rw [IntKind.wrap_i64]; omega
      have v2 : IntKind.i64.wrap ((k : Int) + 2) = ((k + 2 : Nat) : Int) := by rw [IntKind.wrap_i64]; omega
      have i1 : (0 : Int) ≤ (k : Int) + 1 := by omega
      have i2 : (k : Int) + 1 < (b.length : Int) := by omega
      have i3 : (0 : Int) ≤ (k : Int) + 2 := by omega
      have i4 : (k : Int) + 2 < (b.length : Int) := by omega
      have z2 : ((k : Int) + 2).toNat = k + 2 := by omega
      have t4 : y0.tmod 4 = y0 % 4 := Int.tmod_eq_emod_of_nonneg x0.1
      have t5 : IntKind.i64.wrap (y0 % 4) = y0 % 4 := by rw [IntKind.wrap_i64]; omega
      have t6 : IntKind.i64.wrap y1 = y1 := by rw [IntKind.wrap_i64]; omega
      have t7 : IntKind.u64.wrap y2 = y2 := by rw [IntKind.wrap_u64]; omega
      clear hO HO hrun hown hbel hbt hB
      go_wp2
      go_region_law (refine step_append_run RUN.out ⟨_, _, rfl, rfl, rfl⟩ rfl rfl ?_)
      all_goals
        go_wp2
        go_roundw
        case rel => exact ⟨j + 1, k + 3, R', d', by have := HK.out; omega, by have := HK.out; omega, by go_num, rfl, by rw [decN_succ, BT.out]; exact OWN.out, BW.out⟩
        case measure => simp [intOf]; omega
    · have HO := Lib.hid hO
      have HBl := Lib.hid hB
      have e : (dec b).length = j := by unfold dec; rw [decN_len]; omega
      have e2 : dec b = decN b j := by unfold dec; congr 1; omega
      have E := Lib.hid e
      have E2 := Lib.hid e2
      clear hO hB e e2
      go_wp2
      go_ret
      refine ⟨R, d, by rw [E.out]; rfl, ?_, HBl.out⟩
      rw [E.out, E2.out]
      exact HO.out
end Go.Proofs.Ytnabomdadhgeeaa
