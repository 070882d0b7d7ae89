/- Merged: SameR, PuL. -/
import Derived.Test.YtomlgglcfbdimaaBaM
import Derived.Test.YtomlgglcfbdimaaPuH2
import Derived.Test.YtomlgglcfbdimaaFrH2
namespace Go.Proofs.Ytomlgglcfbdimaa
open Go.RowKit Go.Deep
set_option maxHeartbeats 400000 in
theorem rsame_len (A B : Option Addr) (n c m d : Nat) (w : World) (hne : n ≠ m) :
    Calls Try.prog 12 #[.slice A n c, .slice B m d] w fun e w' => e = .returned (.bool false) ∧ Below w.heap.size w w' := by
  go_enter Try.func12, Try.ntmps12
  go_wp2
  go_ret
  exact ⟨rfl, Below.refl _ _⟩
set_option maxHeartbeats 400000 in
theorem rsame_eq (A B : Option Addr) (n c d : Nat) (l k : List Int) (w : World) (ha : Rd w A l) (hb : Rd w B k) (hn : l.length = n) (hm : k.length = n) (hs : n ≤ 501) :
    Calls Try.prog 12 #[.slice A n c, .slice B n d] w fun e w' => e = .returned (.bool (decide (l = k))) ∧ Below w.heap.size w w' := by
  have HA := Lib.hid ha
  have HB := Lib.hid hb
  have HN := Lib.hid hn
  have HM := Lib.hid hm
  clear ha hb hn hm
  go_enter Try.func12, Try.ntmps12
  go_wp2
  go_loopw [5] (fun i wr => ∃ j q : Nat, j ≤ n ∧ i = .int .i64 j ∧ l.take j = k.take j ∧ wr = w.drewN q) (fun i _ => n - (intOf i).toNat)
  case atStart => exact ⟨0, 0, Nat.zero_le _, rfl, by simp, rfl⟩
  case round =>
    obtain ⟨j, q, hj, rfl, heq, rfl⟩ := hrel
    have HE := Lib.hid heq
    clear heq
    by_cases hlt : j < n
    · obtain ⟨ad, rfl, hal, hac⟩ := HA.out (by rw [HN.out]; omega)
      obtain ⟨bd, rfl, hbl, hbc⟩ := HB.out (by rw [HM.out]; omega)
      have hx := hac j _ (List.getElem?_eq_getElem (by rw [HN.out]; exact hlt))
      have hy := hbc j _ (List.getElem?_eq_getElem (by rw [HM.out]; exact hlt))
      clear hac hbc
      generalize hX : l[j]'(by rw [HN.out]; exact hlt) = x at hx
      generalize hY : k[j]'(by rw [HM.out]; exact hlt) = y at hy
      have HX := Lib.hid hX
      have HY := Lib.hid hY
      clear hX hY
      by_cases hxy : x = y
      · have hne : (x != y) = false := by simp [hxy]
        have HXY := Lib.hid hxy
        clear hxy
        go_wp2
        go_region
        go_wp2
        go_roundw
        case rel => exact ⟨j + 1, q + 1, by omega, by go_num, take_more (by rw [HN.out]; exact hlt) (by rw [HM.out]; exact hlt) HE.out (by rw [HX.out, HY.out, HXY.out]), rfl⟩
        case measure => simp [intOf]; omega
      · have hne : (x != y) = true := by simp [hxy]
        have HXY := Lib.hid hxy
        clear hxy
        go_wp2
        go_region
        go_wp2
        go_ret
        exact ⟨by rw [differ (j := j) (by rw [HN.out]; exact hlt) (by rw [HM.out]; exact hlt) (by rw [HX.out, HY.out]; exact HXY.out)]; rfl, below_drewN _ _⟩
    · go_wp2
      go_ret
      exact ⟨by rw [agree HN.out HM.out hj hlt HE.out]; rfl, below_drewN _ _⟩
theorem rsame_any (A B : Option Addr) (n c m d : Nat) (l k : List Int) (w : World) (ha : Rd w A l) (hb : Rd w B k) (hn : l.length = n) (hm : k.length = m) (hs : n ≤ 501) :
    Calls Try.prog 12 #[.slice A n c, .slice B m d] w fun e w' => e = .returned (.bool (decide (l = k))) ∧ Below w.heap.size w w' := by
  by_cases h : n = m
  · subst h
    exact rsame_eq A B n c d l k w ha hb hn hm hs
  · have e : decide (l = k) = false := decide_eq_false (by rintro rfl; exact h (hn.symm.trans hm))
    rw [e]
    exact rsame_len A B n c m d w h
end Go.Proofs.Ytomlgglcfbdimaa
namespace Go.Proofs.Ytomlgglcfbdimaa
open Go.RowKit Go.Deep
theorem list_L {W D J S x : Int} {A : Option Addr} {n c : Nat} {m : List Int} {w : World} (h : Rd w A m) (hn : m.length = n) {o : Option (List Int)} (e : lst W D J S m x = o) {L : List Int} (hL : o.getD [] = L) {k : Nat} (hk : L.length = k) {b : Bool} (hb : o.isSome = b) :
    Calls Try.prog 15 #[cf W D J S, .slice A n c, .int .i64 x] w fun e w' => ∃ A' c', e = .returned (.tuple #[.slice A' k c', .bool b]) ∧ k ≤ c' ∧ Rd w' A' L ∧ Below w.heap.size w w' := by
  subst hL
  exact list_n h hn e hk hb
theorem lst_len {W D J S x : Int} {m l : List Int} (hu : UM m) (h : lst W D J S m x = some l) : l.length ≤ 16 := by
  have h1 := (lst_some hu h).2.len
  have h2 := (may_lim (okw_iff.1 (lst_some hu h).1).1).2.1
  omega
theorem lst_len0 {W D J S x : Int} {m : List Int} (hu : UM m) : ((lst W D J S m x).getD []).length ≤ 16 := by
  cases h : lst W D J S m x with
  | none => simp
  | some l => simpa using lst_len hu h
theorem rsame_eq2 {A B : Option Addr} {n c d : Nat} {l : List Int} {w : World} (ha : Rd w A l) (hb : Rd w B l) (hn : l.length = n) (hs : n ≤ 500) : Tells 12 #[.slice A n c, .slice B n d] w (.bool true) := by
  have h := rsame_eq A B n c d l l w ha hb hn hn (by omega)
  rw [show decide (l = l) = true from decide_eq_true rfl] at h
  exact h
theorem no_below {W D J S x : Int} {m : List Int} (h : 500 < m.length) : lst W D J S m x = none := by
  refine lst_no (fun hk => ?_)
  obtain ⟨hm, hl, _, _⟩ := okw_iff.1 hk
  obtain ⟨hW, hD, hJ, hS⟩ := may_lim hm
  have := (bg_lim hD hJ (x := W) (by omega)).2
  omega
theorem goes_pc (W D J S : Int) (m : List Int) (f : Fr) (op k : Int) : goes W D J S m { f with pc := k } op k = false := by
  cases h : goes W D J S m { f with pc := k } op k
  · rfl
  · obtain ⟨_, _, _, _, h⟩ := goes_iff.1 h
    simp only at h; omega
theorem goes_more {W D J S : Int} {m : List Int} {f : Fr} {op k : Int} (h : goes W D J S m f op k = true) : goes W D J S m f op (k + 1) = true := by
  obtain ⟨a, b, c, d, e⟩ := goes_iff.1 h
  exact goes_iff.2 ⟨a, b, c, d, by omega⟩
theorem goes_op {W D J S : Int} {m : List Int} {f : Fr} {op k : Int} (h : ¬ f.op = op) : goes W D J S m f op k = false := by
  cases h' : goes W D J S m f op k
  · rfl
  · exact absurd (goes_iff.1 h').2.2.1 h
theorem goes_over {W D J S : Int} {m : List Int} {f : Fr} {op k : Int} (h : f.res ≠ 0) : goes W D J S m f op k = false := by
  cases h' : goes W D J S m f op k
  · rfl
  · exact absurd (goes_iff.1 h').2.1 h
end Go.Proofs.Ytomlgglcfbdimaa
