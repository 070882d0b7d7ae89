/- Contracts of think.Left and think.Start. -/
import Derived.Test.YtobcedlkmnmikaaThD
namespace Go.Proofs.Ytobcedlkmnmikaa.Fo
open Go.RowKit Go.Deep
set_option maxRecDepth 100000 in
theorem leftI_le {T : List Tsk} {x : Itm} (hs : Sm T) (hm : may T = true) (h : okI T x = true) : 1 ≤ leftI T x ∧ leftI T x ≤ 1021 := by
  refine ⟨leftI_pos h, ?_⟩
  obtain ⟨⟨a1, a2⟩, ⟨b1, b2⟩, ⟨c1, c2⟩, _⟩ := okI_iff.1 h
  obtain ⟨n, hn⟩ := Int.eq_ofNat_of_zero_le a1
  unfold leftI
  rw [hn] at a2 b2 c2 ⊢
  have hl : n < T.length := by omega
  have h2 := wk_at (may_parts hm).2.1 hl
  have h3 := hs.at hl
  rw [wkA_at hl, kdA_at hl] at *
  omega
set_option maxRecDepth 100000 in
theorem leftN_more {T : List Tsk} {s : List Itm} {j : Nat} (hj : j < s.length) : leftN T (s.take (j + 1)) = leftN T (s.take j) + leftI T s[j] := by
  rw [List.take_add_one, List.getElem?_eq_getElem hj, leftN_app]
  simp [leftN]
set_option maxRecDepth 100000 in
theorem okI_get {T : List Tsk} {s : List Itm} (h : mayS T s = true) {j : Nat} (hj : j < s.length) : okI T s[j] = true := (List.all_eq_true.1 (mayS_all h).2) _ (List.getElem_mem hj)
set_option maxHeartbeats 1600000 in
set_option maxRecDepth 100000 in
theorem tleft_yes (A S : Option Addr) (c cs n₀ : Nat) (T : List Tsk) (s : List Itm) (w : World) (hT : Tk n₀ w A T) (hS : Ir n₀ w S s) (hn₀ : n₀ ≤ w.heap.size) (hs : Sm T) (hl : s.length ≤ 1000) (hm : mayS T s = true) : Tells 19 #[.slice A T.length c, .slice S s.length cs] w (.int .i64 (leftS T s)) := by
  have K := tmay_any A S c cs n₀ T s w hT hS hn₀ hs hl
  rw [hm] at K
  have KK := Lib.hid K
  have HT := Lib.hid hT
  have HS := Lib.hid hS
  have HM := Lib.hid hs
  have HH := Lib.hid hm
  clear K hT hS hs hm
  go_enter Try.func19, Try.ntmps19
  go_wp2_with fail
  refine KK.out.mono ?_
  rintro _ w1 ⟨rfl, z1⟩
  have Z1 := Lib.hid z1
  clear z1
  go_wp2
  go_loopw [5, 15] (fun x i wr => ∃ (j : Nat) (y : Int), x = .int .i64 y ∧ i = .int .i64 j ∧ j ≤ s.length ∧ Hid (y = leftN T (s.take j)) ∧ 0 ≤ y ∧ y ≤ 1021 * (j : Int) ∧ Below w.heap.size w wr) (fun x i _ => s.length - (intOf i).toNat)
  case atStart => exact ⟨0, 0, rfl, rfl, Nat.zero_le _, Lib.hid (by simp [leftN]), by omega, by omega, Z1.out⟩
  case round =>
    obtain ⟨j, y, rfl, rfl, hj, hy, hy0, hy1, hw⟩ := hrel
    have HW := Lib.hid hw
    clear hw
    by_cases hlt : j < s.length
    · obtain ⟨b, off, rfl, hbl, s0, s1, s2⟩ := (HS.out.below (HW.out.mono hn₀)).at hlt
      have hok := okI_get HH.out hlt
      have hle := leftI_le HM.out (mayS_all HH.out).1 hok
      have HY := Lib.hid (leftN_more (T := T) hlt)
      generalize s[j] = x at s0 s1 s2 hok hle HY
      obtain ⟨a, d, k⟩ := x
      obtain ⟨⟨a1, a2⟩, ⟨b1, b2⟩, ⟨c1, c2⟩, _⟩ := okI_iff.1 hok
      simp only at s0 s1 s2 a1 a2 b1 b2 c1 c2
      obtain ⟨n, rfl⟩ := Int.eq_ofNat_of_zero_le a1
      have hn : n < T.length := by omega
      obtain ⟨b', o', K, c', rfl, hal, t0, t1, _⟩ := (HT.out.below (HW.out.mono hn₀)).at hn
      have hsz := HW.out.size
      have hx1 : b < wr.heap.size := by omega
      have hx2 : b' < wr.heap.size := by omega
      have hx3 : b' < wr.heap.size + 1 := by omega
      have hkl := HM.out.at hn
      have hwk := wk_at (may_parts (mayS_all HH.out).1).2.1 hn
      have EL : Hid (leftI T ((n : Int), d, k) = T[n].1 - d + (T[n].2.length - k) + 1) := Lib.hid (by unfold leftI; simp only [wkA_at hn, kdA_at hn])
      rw [EL.out] at hle
      rw [wkA_at hn] at b2
      rw [kdA_at hn] at c2
      have Z := Lib.hid ((HW.out.alloc HW.out.size (.cells #[.int .i64 n, .int .i64 d, .int .i64 k] 40)).alloc (by simp; omega) (.cells #[.int .i64 T[n].1, .slice K T[n].2.length c'] 37))
      have hj1 : (j : Int) ≤ 1000 := by omega
      clear hok a2
      generalize T[n].1 = W at *
      generalize T[n].2.length = L at *
      go_wp2
      go_roundw
      case rel => exact ⟨j + 1, _, rfl, by go_num, by omega, Lib.hid (by rw [HY.out, EL.out, ← hy.out]; omega), by omega, by omega, Z.out⟩
      case measure => simp [intOf]; omega
    · have E := Lib.hid (show leftS T s = y by unfold leftS; rw [if_pos HH.out, hy.out, List.take_of_length_le (by omega)])
      go_wp2
      go_ret
      exact ⟨by rw [E.out]; rfl, HW.out⟩
set_option maxRecDepth 100000 in
theorem tleft_any (A S : Option Addr) (c cs n₀ : Nat) (T : List Tsk) (s : List Itm) (w : World) (hT : Tk n₀ w A T) (hS : Ir n₀ w S s) (hn₀ : n₀ ≤ w.heap.size) (hs : Sm T) (hl : s.length ≤ 1000) : Tells 19 #[.slice A T.length c, .slice S s.length cs] w (.int .i64 (leftS T s)) := by
  cases hm : mayS T s
  · have K := tmay_any A S c cs n₀ T s w hT hS hn₀ hs hl
    rw [hm] at K
    have KK := Lib.hid K
    have E := Lib.hid (leftS_no hm)
    clear K hT hS hs hm
    go_enter Try.func19, Try.ntmps19
    go_wp2_with fail
    refine KK.out.mono ?_
    rintro _ w1 ⟨rfl, z1⟩
    go_wp2
    go_ret
    exact ⟨by rw [E.out]; rfl, z1⟩
  · exact tleft_yes A S c cs n₀ T s w hT hS hn₀ hs hl hm
/-- What a function hands back that makes a new row of items. -/
def RetS (w : World) (l : List Itm) (e : Ending) (w' : World) : Prop := ∃ A c, e = .returned (.slice A l.length c) ∧ Iow w' w.heap.size A l.length c l ∧ Below w.heap.size w w'
set_option maxHeartbeats 800000 in
set_option maxRecDepth 100000 in
theorem tstart_any (A S : Option Addr) (c cs n₀ : Nat) (T : List Tsk) (s : List Itm) (k : Int) (w : World) (hT : Tk n₀ w A T) (hS : Ir n₀ w S s) (hn₀ : n₀ ≤ w.heap.size) (hs : Sm T) (hl : s.length ≤ 1000) : Calls Try.prog 14 #[.slice A T.length c, .slice S s.length cs, .int .i64 k] w (RetS w (startS T s k)) := by
  have K0 := iclone_any S s.length cs n₀ s w hS hn₀ rfl hl
  have K1 := fun w1 (hb : Below w.heap.size w w1) => tmay_any A S c cs n₀ T s w1 (hT.below (hb.mono hn₀)) (hS.below (hb.mono hn₀)) (Nat.le_trans hn₀ hb.size) hs hl
  have K2 := fun w1 => istask_any A c T.length k w1
  have E0 : startS T s k = if mayS T s = true ∧ (decide (0 ≤ k) && decide (k < (T.length : Int))) = true then s ++ [(k, 0, 0)] else s := by
    unfold startS
    simp only [Bool.and_eq_true, decide_eq_true_eq]
  have KK0 := Lib.hid K0
  have EE := Lib.hid E0
  clear K0 E0 hT hS hs
  cases hm : mayS T s
  · simp only [hm] at K1
    have KK1 := Lib.hid K1
    have E := Lib.hid (show startS T s k = s by rw [EE.out, if_neg (by rw [hm]; simp)])
    clear K1 K2 hm
    go_enter Try.func14, Try.ntmps14
    go_wp2_with fail
    refine KK0.out.mono ?_
    rintro _ w1 ⟨A', c', rfl, ho, z1⟩
    have HO := Lib.hid ho
    have Z1 := Lib.hid z1
    clear ho z1
    go_wp2_with fail
    refine (KK1.out w1 Z1.out).mono ?_
    rintro _ w2 ⟨rfl, z2⟩
    have HO2 := Lib.hid (HO.out.below z2)
    have Z2 := Lib.hid (Z1.out.trans (z2.mono Z1.out.size))
    clear z2
    go_wp2
    go_ret
    rw [E.out]
    exact ⟨_, _, rfl, HO2.out, Z2.out⟩
  · simp only [hm] at K1
    have KK1 := Lib.hid K1
    cases hk : (decide (0 ≤ k) && decide (k < (T.length : Int)))
    · have E := Lib.hid (show startS T s k = s by rw [EE.out, if_neg (by rw [hk]; simp)])
      simp only [hk] at K2
      have KK2 := Lib.hid K2
      clear K1 K2 hm hk
      go_enter Try.func14, Try.ntmps14
      go_wp2_with fail
      refine KK0.out.mono ?_
      rintro _ w1 ⟨A', c', rfl, ho, z1⟩
      have HO := Lib.hid ho
      have Z1 := Lib.hid z1
      clear ho z1
      go_wp2_with fail
      refine (KK1.out w1 Z1.out).mono ?_
      rintro _ w2 ⟨rfl, z2⟩
      have HO2 := Lib.hid (HO.out.below z2)
      have Z2 := Lib.hid (Z1.out.trans (z2.mono Z1.out.size))
      clear z2
      go_wp2_with fail
      refine (KK2.out w2).mono ?_
      rintro _ w3 ⟨rfl, e3⟩
      subst e3
      go_wp2
      go_ret
      rw [E.out]
      exact ⟨_, _, rfl, HO2.out, Z2.out⟩
    · have E := Lib.hid (show startS T s k = s ++ [(k, 0, 0)] by rw [EE.out, if_pos ⟨hm, hk⟩])
      simp only [hk] at K2
      have KK2 := Lib.hid K2
      clear K1 K2 hm hk
      go_enter Try.func14, Try.ntmps14
      go_wp2_with fail
      refine KK0.out.mono ?_
      rintro _ w1 ⟨A', c', rfl, ho, z1⟩
      have HO := Lib.hid ho
      have Z1 := Lib.hid z1
      clear ho z1
      go_wp2_with fail
      refine (KK1.out w1 Z1.out).mono ?_
      rintro _ w2 ⟨rfl, z2⟩
      have HO2 := Lib.hid (HO.out.below z2)
      have Z2 := Lib.hid (Z1.out.trans (z2.mono Z1.out.size))
      clear z2
      go_wp2_with fail
      refine (KK2.out w2).mono ?_
      rintro _ w3 ⟨rfl, e3⟩
      subst e3
      obtain ⟨A2, c2, w4, hrun, hown, hb⟩ := iapp_one HO2.out (k, 0, 0) (by omega) Z2.out.size
      have HRUN := Lib.hid hrun
      have HOW := Lib.hid hown
      have HB := Lib.hid (Z2.out.trans hb)
      clear hrun hown hb
      go_wp2_with (at_builtin; (with_reducible refine wpList_append_run HRUN.out ?_ ?_ ?_ ?_); exact ⟨_, _, rfl, rfl, rfl⟩; rfl; rfl)
      go_ret
      rw [E.out]
      have el : (s ++ [(k, 0, 0)]).length = s.length + 1 := by simp
      refine ⟨A2, c2, by rw [el]; rfl, by rw [el]; exact HOW.out, HB.out⟩
end Go.Proofs.Ytobcedlkmnmikaa.Fo
