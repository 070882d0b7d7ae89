/- Contracts of think.May and of what it calls of slices; of Same and Clone of items. -/
import Derived.Test.YtobcedlkmnmikaaThA
import Derived.Test.YtobcedlkmnmikaaItQ
namespace Go.Proofs.Ytobcedlkmnmikaa.Fo
open Go.RowKit Go.Deep
set_option maxRecDepth 100000 in
theorem may1_any (A : Option Addr) (c n₀ B : Nat) (T : List Tsk) (x : Itm) (w : World) (hB : w.cell? ⟨B, 0, none⟩ = some (.slice A T.length c)) (hT : Tk n₀ w A T) (hn₀ : n₀ ≤ w.heap.size) (hs : Sm T) : Tells 31 #[iv x, .pointer (some ⟨B, 0, none⟩)] w (.bool (!okI T x)) := by
  obtain ⟨m, d, k⟩ := x
  have HT := Lib.hid hT
  have HS := Lib.hid hs
  have hbw := block_lt_of_cell hB
  have Z := Lib.hid ((Below.refl w.heap.size w).alloc (Nat.le_refl _) (.cells #[.int .i64 m, .int .i64 d, .int .i64 k] 40))
  clear hT hs
  go_enter Try.func31, Try.ntmps31
  go_wp2_with fail
  refine (itemmay_any A c n₀ T (m, d, k) _ (HT.out.below (Z.out.mono hn₀)) (Nat.le_trans hn₀ Z.out.size) HS.out).mono ?_
  rintro _ w1 ⟨rfl, z1⟩
  have Z1 := Lib.hid (Z.out.trans (z1.mono Z.out.size))
  clear z1
  go_wp2
  go_ret
  exact ⟨rfl, Z1.out⟩
set_option maxRecDepth 100000 in
theorem all_take {T : List Tsk} {s : List Itm} {j : Nat} (hj : j < s.length) (h : (s.take j).all (okI T) = true) (hx : okI T s[j] = true) : (s.take (j + 1)).all (okI T) = true := by
  rw [List.take_add_one, List.getElem?_eq_getElem hj, List.all_append, h]
  simpa using hx
set_option maxRecDepth 100000 in
theorem all_no {T : List Tsk} {s : List Itm} {j : Nat} (hj : j < s.length) (hx : okI T s[j] = false) : s.all (okI T) = false := by
  rw [List.all_eq_false]
  exact ⟨s[j], List.getElem_mem hj, by simp [hx]⟩
set_option maxHeartbeats 800000 in
set_option maxRecDepth 100000 in
theorem indexf_any (A S : Option Addr) (c cs n₀ B : Nat) (T : List Tsk) (s : List Itm) (w : World) (hB : w.cell? ⟨B, 0, none⟩ = some (.slice A T.length c)) (hT : Tk n₀ w A T) (hS : Ir n₀ w S s) (hn₀ : n₀ ≤ w.heap.size) (hs : Sm T) (hl : s.length ≤ 1000) :
    Calls Try.prog 36 #[.slice S s.length cs, .func (.func 31) #[] #[.pointer (some ⟨B, 0, none⟩)]] w fun e w' => ∃ r : Int, e = .returned (.int .i64 r) ∧ decide (0 ≤ r) = (!s.all (okI T)) ∧ Below w.heap.size w w' := by
  have HT := Lib.hid hT
  have HS := Lib.hid hS
  have HM := Lib.hid hs
  have HB := Lib.hid hB
  have hbw := block_lt_of_cell hB
  clear hT hS hs hB
  go_enter Try.func36, Try.ntmps36
  go_wp2
  go_loopw [8] (fun i wr => ∃ j : Nat, j ≤ s.length ∧ i = .int .i64 j ∧ (s.take j).all (okI T) = true ∧ Below w.heap.size w wr) (fun i _ => s.length - (intOf i).toNat)
  case atStart => exact ⟨0, Nat.zero_le _, rfl, by simp, Below.refl _ _⟩
  case round =>
    obtain ⟨j, hj, rfl, heq, hw⟩ := hrel
    have HE := Lib.hid heq
    have HW := Lib.hid hw
    clear heq hw
    by_cases hlt : j < s.length
    · obtain ⟨b, off, rfl, l1, x1, x2, x3⟩ := (HS.out.below (HW.out.mono hn₀)).at hlt
      have hb := (HW.out.cell (p := ⟨B, 0, none⟩) hbw).trans HB.out
      have C := fun (q : Bool) => may1_any A c n₀ B T s[j] wr hb (HT.out.below (HW.out.mono hn₀)) (Nat.le_trans hn₀ HW.out.size) HM.out
      have CC := Lib.hid (C true)
      cases hok : okI T s[j]
      · have E := Lib.hid (all_no hlt hok)
        have CK := Lib.hid (Tells.of CC.out (v' := .bool true) (by rw [hok]; rfl))
        clear hok CC C hb
        go_wp2_with (refine CK.out.mono ?_; rintro _ w1 ⟨rfl, z1⟩)
        have Z := Lib.hid (HW.out.trans (z1.mono HW.out.size))
        clear z1
        go_ret
        exact ⟨j, rfl, by rw [E.out, decide_eq_true (show (0 : Int) ≤ (j : Int) by omega)]; rfl, Z.out⟩
      · have E := Lib.hid (all_take hlt HE.out hok)
        have CK := Lib.hid (Tells.of CC.out (v' := .bool false) (by rw [hok]; rfl))
        clear hok CC C hb
        go_wp2_with (refine CK.out.mono ?_; rintro _ w1 ⟨rfl, z1⟩)
        have Z := Lib.hid (HW.out.trans (z1.mono HW.out.size))
        clear z1
        go_roundw
        case rel => exact ⟨j + 1, by omega, by go_num, E.out, Z.out⟩
        case measure => simp [intOf]; omega
    · have E := Lib.hid (show s.all (okI T) = true by have := HE.out; rwa [List.take_of_length_le (by omega)] at this)
      go_wp2
      go_ret
      exact ⟨-1, rfl, by rw [E.out]; rfl, HW.out⟩
set_option maxRecDepth 100000 in
theorem containsf_any (A S : Option Addr) (c cs n₀ B : Nat) (T : List Tsk) (s : List Itm) (w : World) (hB : w.cell? ⟨B, 0, none⟩ = some (.slice A T.length c)) (hT : Tk n₀ w A T) (hS : Ir n₀ w S s) (hn₀ : n₀ ≤ w.heap.size) (hs : Sm T) (hl : s.length ≤ 1000) :
    Tells 30 #[.slice S s.length cs, .func (.func 31) #[] #[.pointer (some ⟨B, 0, none⟩)]] w (.bool (!s.all (okI T))) := by
  have K := Lib.hid (indexf_any A S c cs n₀ B T s w hB hT hS hn₀ hs hl)
  clear hB hT hS hs
  go_enter Try.func30, Try.ntmps30
  go_wp2_with fail
  refine K.out.mono ?_
  rintro _ w1 ⟨r, rfl, e, z1⟩
  have E := Lib.hid e
  clear e
  go_wp2
  go_ret
  exact ⟨by rw [← E.out]; rfl, z1⟩
set_option maxRecDepth 100000 in
theorem tmay_any (A S : Option Addr) (c cs n₀ : Nat) (T : List Tsk) (s : List Itm) (w : World) (hT : Tk n₀ w A T) (hS : Ir n₀ w S s) (hn₀ : n₀ ≤ w.heap.size) (hs : Sm T) (hl : s.length ≤ 1000) : Tells 21 #[.slice A T.length c, .slice S s.length cs] w (.bool (mayS T s)) := by
  have HT := Lib.hid hT
  have HS := Lib.hid hS
  have HM := Lib.hid hs
  have Z := Lib.hid ((Below.refl w.heap.size w).alloc (Nat.le_refl _) (.cells #[.slice A T.length c] 22))
  clear hT hS hs
  cases hm : may T
  · have E := Lib.hid (show mayS T s = false by unfold mayS; rw [hm]; rfl)
    have HH := Lib.hid hm
    clear hm
    go_enter Try.func21, Try.ntmps21
    go_wp2_with fail
    refine (Tells.of (may_any A c n₀ T _ (HT.out.below (Z.out.mono hn₀)) (Nat.le_trans hn₀ Z.out.size) HM.out) (v' := .bool false) (by rw [HH.out])).mono ?_
    rintro _ w1 ⟨rfl, z1⟩
    have Z1 := Lib.hid (Z.out.trans (z1.mono Z.out.size))
    clear z1
    go_wp2
    go_ret
    exact ⟨by rw [E.out]; rfl, Z1.out⟩
  · have E := Lib.hid (show mayS T s = s.all (okI T) by unfold mayS; rw [hm]; rfl)
    have HH := Lib.hid hm
    clear hm
    go_enter Try.func21, Try.ntmps21
    go_wp2_with fail
    refine (Tells.of (may_any A c n₀ T _ (HT.out.below (Z.out.mono hn₀)) (Nat.le_trans hn₀ Z.out.size) HM.out) (v' := .bool true) (by rw [HH.out])).mono ?_
    rintro _ w1 ⟨rfl, z1⟩
    have hb := (z1.cell (p := ⟨w.heap.size, 0, none⟩) (by simp)).trans (Boxed.new w 22 (.slice A T.length c)).cell
    have Z1 := Lib.hid (Z.out.trans (z1.mono Z.out.size))
    have HB := Lib.hid hb
    clear z1 hb
    go_wp2_with fail
    refine (containsf_any A S c cs n₀ w.heap.size T s _ HB.out (HT.out.below (Z1.out.mono hn₀)) (HS.out.below (Z1.out.mono hn₀)) (Nat.le_trans hn₀ Z1.out.size) HM.out hl).mono ?_
    rintro _ w2 ⟨rfl, z2⟩
    have Z2 := Lib.hid (Z1.out.trans (z2.mono Z1.out.size))
    clear z2
    generalize s.all (okI T) = q at *
    go_wp2
    go_ret
    exact ⟨by rw [E.out]; rfl, Z2.out⟩
end Go.Proofs.Ytobcedlkmnmikaa.Fo
