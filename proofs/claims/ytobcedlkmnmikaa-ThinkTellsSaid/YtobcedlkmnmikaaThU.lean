/- Contract of the document's own Next of stacks (layer 17). -/
import Derived.Test.YtobcedlkmnmikaaThR
import Derived.Deep.RegionLaw
namespace Go.Proofs.Ytobcedlkmnmikaa.Fo
open Go.RowKit Go.Deep
set_option maxHeartbeats 800000 in
set_option maxRecDepth 100000 in
theorem rtnext_nil (A S : Option Addr) (c cs n₀ : Nat) (T : List Tsk) (w : World) (hT : Tk n₀ w A T) (hn₀ : n₀ ≤ w.heap.size) (hs : Sm T) : Tells 18 #[.slice A T.length c, .slice S 0 cs] w (av (0, 0)) := by
  have Z := Lib.hid (bel_new w (.cells #[.int .i64 0, .int .i64 0] 31))
  have AB := Lib.hid (Ab.new w 0 0)
  have KK := Lib.hid (fun w1 (hb : Below w.heap.size w w1) => rtmay_any A S c cs n₀ T [] w1 (hT.below (hb.mono hn₀)) (Ir.nil _ _ _) (Nat.le_trans hn₀ hb.size) hs (by simp))
  clear hT hs
  go_enter Try.func18, Try.ntmps18
  go_upto_region 1 with fail
  generalize w.alloc (.cells #[.int .i64 0, .int .i64 0] 31) = w1 at *
  go_wp2_with fail
  refine (KK.out w1 Z.out).mono ?_
  rintro _ w2 ⟨rfl, z2⟩
  have a2 := AB.out.below z2 AB.out.lt
  have A2 := Lib.hid a2
  have Z2 := Lib.hid (Z.out.trans (z2.mono Z.out.size))
  obtain ⟨c0, c1, f0, f1⟩ := a2.cells
  cases hq : mayS T []
  · clear z2 a2
    go_wp2
    refine bodyPost_ret (results_act Try.results18 _ rfl (A2.out.set 0 0)) rfl ?_
    exact ⟨rfl, (Z2.out.setCell (p := ⟨w.heap.size, 0, none⟩) (Nat.le_refl _) _).setCell (p := ⟨w.heap.size, 1, none⟩) (Nat.le_refl _) _⟩
  · clear z2 a2
    go_wp2
    refine bodyPost_ret (results_act Try.results18 _ rfl (A2.out.set 0 0)) rfl ?_
    exact ⟨rfl, (Z2.out.setCell (p := ⟨w.heap.size, 0, none⟩) (Nat.le_refl _) _).setCell (p := ⟨w.heap.size, 1, none⟩) (Nat.le_refl _) _⟩
set_option maxHeartbeats 800000 in
set_option maxRecDepth 100000 in
theorem rtnext_no (A S : Option Addr) (c cs n₀ m : Nat) (T : List Tsk) (s : List Itm) (w : World) (hT : Tk n₀ w A T) (hS : Ir n₀ w S s) (hn₀ : n₀ ≤ w.heap.size) (hs : Sm T) (hl : s.length ≤ 1000) (hm : mayS T s = false) (hsm : s.length = m + 1) : Tells 18 #[.slice A T.length c, .slice S (m + 1) cs] w (av (0, 0)) := by
  have Z := Lib.hid (bel_new w (.cells #[.int .i64 0, .int .i64 0] 31))
  have AB := Lib.hid (Ab.new w 0 0)
  have HT := Lib.hid hT
  have HS := Lib.hid hS
  have HM := Lib.hid hs
  have HH := Lib.hid hm
  have HL := Lib.hid hsm
  have h0 : ((m : Int) + 1 == 0) = false := by simp; omega
  clear hT hS hs hm hsm
  go_enter Try.func18, Try.ntmps18
  go_upto_region 1 with fail
  generalize w.alloc (.cells #[.int .i64 0, .int .i64 0] 31) = w1 at *
  go_wp2_with fail
  have K := rtmay_any A S c cs n₀ T s w1 (HT.out.below (Z.out.mono hn₀)) (HS.out.below (Z.out.mono hn₀)) (Nat.le_trans hn₀ Z.out.size) HM.out hl
  rw [HL.out, HH.out] at K
  refine K.mono ?_
  rintro _ w2 ⟨rfl, z2⟩
  have a2 := AB.out.below z2 AB.out.lt
  have A2 := Lib.hid a2
  have Z2 := Lib.hid (Z.out.trans (z2.mono Z.out.size))
  obtain ⟨c0, c1, f0, f1⟩ := a2.cells
  clear z2 a2 K
  go_wp2
  refine bodyPost_ret (results_act Try.results18 _ rfl (A2.out.set 0 0)) rfl ?_
  exact ⟨rfl, (Z2.out.setCell (p := ⟨w.heap.size, 0, none⟩) (Nat.le_refl _) _).setCell (p := ⟨w.heap.size, 1, none⟩) (Nat.le_refl _) _⟩
set_option maxHeartbeats 1600000 in
set_option maxRecDepth 100000 in
theorem rtnext_yes (A S : Option Addr) (c cs n₀ m n : Nat) (T : List Tsk) (p : List Itm) (d k : Int) (w : World) (hT : Tk n₀ w A T) (hS : Ir n₀ w S (p ++ [((n : Int), d, k)])) (hn₀ : n₀ ≤ w.heap.size) (hs : Sm T) (hl : p.length = m) (hm1 : m < 1000) (hm : mayS T (p ++ [((n : Int), d, k)]) = true) : Tells 18 #[.slice A T.length c, .slice S (m + 1) cs] w (av (actI T ((n : Int), d, k))) := by
  have Z := Lib.hid (bel_new w (.cells #[.int .i64 0, .int .i64 0] 31))
  have AB := Lib.hid (Ab.new w 0 0)
  have HM := Lib.hid hs
  have HH := Lib.hid hm
  have hlen : (p ++ [((n : Int), d, k)]).length = m + 1 := by simp [hl]
  have HL := Lib.hid hlen
  obtain ⟨n', e0, hn, hd0, hd1, hk0, hk1⟩ := item_at hm
  simp only at e0 hd0 hd1 hk0 hk1
  obtain rfl : n' = n := by omega
  clear e0
  obtain ⟨b, off, rfl, hbl, s0, s1, s2⟩ := hS.at (i := m) (by omega)
  have hlast : (p ++ [((n' : Int), d, k)])[m] = ((n' : Int), d, k) := by subst hl; simp
  rw [hlast] at s0 s1 s2
  simp only at s0 s1 s2
  obtain ⟨b2, o2, K, c', rfl, hal, t0, t1, hkd⟩ := hT.at hn
  have HT := Lib.hid hT
  have HS := Lib.hid hS
  have HKD := Lib.hid hkd
  have hkl := hs.at hn
  have hbw : b < w.heap.size := by omega
  have hbw2 : b2 < w.heap.size := by omega
  have h0 : ((m : Int) + 1 == 0) = false := by simp; omega
  have EA : Hid (actI T ((n' : Int), d, k) = if d < T[n'].1 then (1, (n' : Int)) else if k < T[n'].2.length then (2, T[n'].2.getD k.toNat 0) else (3, (n' : Int))) := Lib.hid (by unfold actI; rw [wkA_at hn, kdA_at hn])
  have K0 := fun w1 (hb : Below w.heap.size w w1) => rtmay_any (some ⟨b2, o2, none⟩) (some ⟨b, off, none⟩) c cs n₀ T _ w1 (hT.below (hb.mono hn₀)) (hS.below (hb.mono hn₀)) (Nat.le_trans hn₀ hb.size) hs (by omega)
  rw [hlen, hm] at K0
  have KK := Lib.hid K0
  clear hT hS hs hm hlen hlast hl K0 hkd
  go_enter Try.func18, Try.ntmps18
  go_upto_region 1 with fail
  generalize w.alloc (.cells #[.int .i64 0, .int .i64 0] 31) = w1 at *
  go_wp2_with fail
  refine (KK.out w1 Z.out).mono ?_
  rintro _ w2 ⟨rfl, z2⟩
  have a2 := AB.out.below z2 AB.out.lt
  have A2 := Lib.hid a2
  have Z2 := Lib.hid (Z.out.trans (z2.mono Z.out.size))
  obtain ⟨c0, c1, f0, f1⟩ := a2.cells
  have s0 := (Z2.out.cell (p := ⟨b, off + m * 3, none⟩) hbw).trans s0
  have s1 := (Z2.out.cell (p := ⟨b, off + m * 3 + 1, none⟩) hbw).trans s1
  have s2 := (Z2.out.cell (p := ⟨b, off + m * 3 + 2, none⟩) hbw).trans s2
  have t0 := (Z2.out.cell (p := ⟨b2, o2 + n' * 2, none⟩) hbw2).trans t0
  have t1 := (Z2.out.cell (p := ⟨b2, o2 + n' * 2 + 1, none⟩) hbw2).trans t1
  have hg : w.heap.size < w2.heap.size := Nat.lt_of_lt_of_le AB.out.lt z2.size
  have hx : b < w2.heap.size := by omega
  have hx2 : b2 < w2.heap.size := by omega
  have hx3 : b < w2.heap.size + 1 := by omega
  have hx4 : b2 < w2.heap.size + 1 := by omega
  have hx5 : w.heap.size < w2.heap.size + 1 := by omega
  have i0 : ((m : Int) + 1 - 1) = (m : Int) := by omega
  have hz1 := hg
  have hz2 := Z2.out.size
  clear z2 a2
  have B3 := Lib.hid (A2.out.alloc (.cells #[.int .i64 n', .int .i64 d, .int .i64 k] 40))
  have ZZ := Lib.hid (Z2.out.alloc Z2.out.size (.cells #[.int .i64 n', .int .i64 d, .int .i64 k] 40))
  have u0 : (w2.alloc (.cells #[.int .i64 n', .int .i64 d, .int .i64 k] 40)).cell? ⟨w2.heap.size, 0, none⟩ = some (.int .i64 n') := by simp only [World.cell?, heap_alloc_new]; rfl
  have u1 : (w2.alloc (.cells #[.int .i64 n', .int .i64 d, .int .i64 k] 40)).cell? ⟨w2.heap.size, 1, none⟩ = some (.int .i64 d) := by simp only [World.cell?, heap_alloc_new]; rfl
  have u2 : (w2.alloc (.cells #[.int .i64 n', .int .i64 d, .int .i64 k] 40)).cell? ⟨w2.heap.size, 2, none⟩ = some (.int .i64 k) := by simp only [World.cell?, heap_alloc_new]; rfl
  have t0' := (Below.heap_alloc w2 (.cells #[.int .i64 n', .int .i64 d, .int .i64 k] 40) b2 hx2)
  have t0 := (World.cell?_of_block (a := ⟨b2, o2 + n' * 2, none⟩) t0').trans t0
  have t1 := (World.cell?_of_block (a := ⟨b2, o2 + n' * 2 + 1, none⟩) t0').trans t1
  have hbe : ∀ v : Nat → Value, ∀ q : Nat, (∃ e3 : Nat, b = e3) → True := fun _ _ _ => trivial
  clear hbe t0' c0 c1 f0 f1
  go_upto_region 5 with fail
  generalize hw3 : w2.alloc (.cells #[.int .i64 n', .int .i64 d, .int .i64 k] 40) = w3 at *
  generalize hg3 : w2.heap.size = g3 at *
  obtain ⟨c0, c1, f0, f1⟩ := B3.out.cells
  have hb3w : b2 < w3.heap.size := block_lt_of_cell t0
  clear s0 s1 s2
  by_cases h1 : d < T[n'].1
  · have E := Lib.hid (show actI T ((n' : Int), d, k) = (1, (n' : Int)) by rw [EA.out, if_pos h1])
    have d1 : decide (d < T[n'].1) = true := decide_eq_true h1
    generalize T[n'].1 = W at *
    generalize T[n'].2.length = L at *
    go_wp2
    go_quiet (fail)
    go_wp2
    refine bodyPost_ret (results_act Try.results18 _ rfl (Ab.set (show Ab (w3.drewN nq) _ 0 0 from B3.out) 1 n')) rfl ?_
    exact ⟨by rw [E.out], ((ZZ.out.trans ((below_drewN _ _).mono ZZ.out.size)).setCell (p := ⟨w.heap.size, 0, none⟩) (Nat.le_refl _) _).setCell (p := ⟨w.heap.size, 1, none⟩) (Nat.le_refl _) _⟩
  · have d1 : decide (d < T[n'].1) = false := decide_eq_false h1
    by_cases h2 : k < T[n'].2.length
    · obtain ⟨k', rfl⟩ := Int.eq_ofNat_of_zero_le hk0
      have hk2 : k' < T[n'].2.length := by omega
      obtain ⟨b3, o3, rfl, hb3, r0⟩ := HKD.out.at hk2
      have E := Lib.hid (show actI T ((n' : Int), d, (k' : Int)) = (2, T[n'].2[k']) by rw [EA.out, if_neg h1, if_pos h2, Int.toNat_natCast, List.getD_eq_getElem?_getD, List.getElem?_eq_getElem hk2]; rfl)
      have hbw3 : b3 < w.heap.size := by omega
      have r0 := (ZZ.out.cell (p := ⟨b3, o3 + k', none⟩) hbw3).trans r0
      generalize T[n'].2[k'] = v at *
      have d2 : decide ((k' : Int) < (T[n'].2.length : Int)) = true := decide_eq_true h2
      have d2' : decide (k' < T[n'].2.length) = true := decide_eq_true hk2
      generalize T[n'].1 = W at *
      generalize T[n'].2.length = L at *
      go_wp2
      go_quiet (fail)
      go_wp2
      go_quiet (fail)
      go_wp2
      go_region
      all_goals
        go_wp2
        refine bodyPost_ret (results_act Try.results18 _ rfl (Ab.set (g := w.heap.size) (k := 0) (t := 0) (by first | exact B3.out | exact (show Ab (w3.drewN _) _ 0 0 from B3.out)) 2 v)) rfl ?_
        exact ⟨by rw [E.out], ((by first | exact (ZZ.out.trans ((below_drewN _ _).mono ZZ.out.size)) | exact ZZ.out.trans (((below_drewN _ _).trans ((below_drewN _ _).mono (Nat.le_refl _))).mono ZZ.out.size) : Below w.heap.size w _).setCell (p := ⟨w.heap.size, 0, none⟩) (Nat.le_refl _) _).setCell (p := ⟨w.heap.size, 1, none⟩) (Nat.le_refl _) _⟩
    · have E := Lib.hid (show actI T ((n' : Int), d, k) = (3, (n' : Int)) by rw [EA.out, if_neg h1, if_neg h2])
      have d2 : decide (k < (T[n'].2.length : Int)) = false := decide_eq_false h2
      generalize T[n'].1 = W at *
      generalize T[n'].2.length = L at *
      go_wp2
      go_quiet (fail)
      go_wp2
      go_quiet (fail)
      go_wp2
      refine bodyPost_ret (results_act Try.results18 _ rfl (Ab.set (g := w.heap.size) (k := 0) (t := 0) (by first | exact B3.out | exact (show Ab (w3.drewN _) _ 0 0 from B3.out)) 3 n')) rfl ?_
      exact ⟨by rw [E.out], ((by first | exact (ZZ.out.trans ((below_drewN _ _).mono ZZ.out.size)) | exact ZZ.out.trans (((below_drewN _ _).trans ((below_drewN _ _).mono (Nat.le_refl _))).mono ZZ.out.size) : Below w.heap.size w _).setCell (p := ⟨w.heap.size, 0, none⟩) (Nat.le_refl _) _).setCell (p := ⟨w.heap.size, 1, none⟩) (Nat.le_refl _) _⟩
set_option maxRecDepth 100000 in
theorem rtnext_any (A S : Option Addr) (c cs n₀ : Nat) (T : List Tsk) (s : List Itm) (w : World) (hT : Tk n₀ w A T) (hS : Ir n₀ w S s) (hn₀ : n₀ ≤ w.heap.size) (hs : Sm T) (hl : s.length ≤ 1000) : Tells 18 #[.slice A T.length c, .slice S s.length cs] w (av (nextS T s)) := by
  rcases Classical.em (s = []) with rfl | e
  · rw [nextS_nil]
    exact rtnext_nil A S c cs n₀ T w hT hn₀ hs
  · obtain ⟨p, x, rfl⟩ := snoc_of e
    have e2 : (p ++ [x]).length = p.length + 1 := by simp
    cases hm : mayS T (p ++ [x])
    · rw [nextS_no hm, e2]
      exact rtnext_no A S c cs n₀ p.length T _ w hT hS hn₀ hs hl hm e2
    · rw [nextS_snoc hm, e2]
      obtain ⟨n, e0, _⟩ := item_at hm
      obtain ⟨x0, x1, x2⟩ := x
      simp only at e0
      subst e0
      exact rtnext_yes A S c cs n₀ p.length n T p x1 x2 w hT hS hn₀ hs rfl (by omega) hm
end Go.Proofs.Ytobcedlkmnmikaa.Fo
