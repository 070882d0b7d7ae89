/- Contracts of think.Next. -/
import Derived.Test.YtobcedlkmnmikaaThC
import Derived.Deep.CutRange
import Derived.Deep.DeepCutAuto
namespace Go.Proofs.Ytobcedlkmnmikaa.Fo
open Go.RowKit Go.Deep
/-- An act as a value. -/
abbrev av (a : Int × Int) : Value := .agg #[.int .i64 a.1, .int .i64 a.2]
set_option maxRecDepth 100000 in
theorem bel_new (w : World) (o : Obj) : Below w.heap.size w (w.alloc o) := (Below.refl _ _).alloc (Nat.le_refl _) _
set_option maxRecDepth 100000 in
theorem item_at {T : List Tsk} {p : List Itm} {x : Itm} (h : mayS T (p ++ [x]) = true) : ∃ n : Nat, x.1 = (n : Int) ∧ ∃ hn : n < T.length, 0 ≤ x.2.1 ∧ x.2.1 ≤ T[n].1 ∧ 0 ≤ x.2.2 ∧ x.2.2 ≤ T[n].2.length := by
  have h2 := h
  rw [mayS_snoc, Bool.and_eq_true] at h2
  obtain ⟨⟨a1, a2⟩, ⟨b1, b2⟩, ⟨c1, c2⟩, _⟩ := okI_iff.1 h2.2
  obtain ⟨n, hn⟩ := Int.eq_ofNat_of_zero_le a1
  rw [hn] at a2 b2 c2
  have hl : n < T.length := by omega
  rw [wkA_at hl] at b2
  rw [kdA_at hl] at c2
  exact ⟨n, hn, hl, b1, b2, c1, c2⟩
/-- An act in a box. -/
def Ab (w : World) (g : Nat) (k t : Int) : Prop := w.heap[g]? = some (.cells #[.int .i64 k, .int .i64 t] 31 (0, 0))
set_option maxRecDepth 100000 in
theorem Ab.new (w : World) (k t : Int) : Ab (w.alloc (.cells #[.int .i64 k, .int .i64 t] 31)) w.heap.size k t := heap_alloc_new _ _
set_option maxRecDepth 100000 in
theorem Ab.cells {w : World} {g : Nat} {k t : Int} (h : Ab w g k t) : w.cell? ⟨g, 0, none⟩ = some (.int .i64 k) ∧ w.cell? ⟨g, 1, none⟩ = some (.int .i64 t) ∧ w.frozen? ⟨g, 0, none⟩ = false ∧ w.frozen? ⟨g, 1, none⟩ = false := by
  unfold Ab at h
  simp [World.cell?, World.frozen?, h]
set_option maxRecDepth 100000 in
theorem Ab.below {n : Nat} {w w' : World} {g : Nat} {k t : Int} (h : Ab w g k t) (hb : Below n w w') (hg : g < n) : Ab w' g k t := (hb.block g hg).trans h
set_option maxRecDepth 100000 in
theorem Ab.alloc {w : World} {g : Nat} {k t : Int} (h : Ab w g k t) (o : Obj) : Ab (w.alloc o) g k t := (Below.heap_alloc w o g (Array.getElem?_eq_some_iff.1 h).1).trans h
set_option maxRecDepth 100000 in
theorem Ab.set {w : World} {g : Nat} {k t : Int} (h : Ab w g k t) (k' t' : Int) : Ab ((w.setCell ⟨g, 0, none⟩ (.int .i64 k')).setCell ⟨g, 1, none⟩ (.int .i64 t')) g k' t' := by
  unfold Ab at h ⊢
  simp [World.setCell, Array.getElem?_modify, h]
set_option maxRecDepth 100000 in
theorem Ab.lt {w : World} {g : Nat} {k t : Int} (h : Ab w g k t) : g < w.heap.size := (Array.getElem?_eq_some_iff.1 h).1
set_option maxRecDepth 100000 in
theorem results_act {fn : Func} {u : Tmp} (h : fn.results = #[.cell u 31]) (tmps : Array Value) {w : World} {g : Nat} {k t : Int} (hp : tmps.getD u undef = .pointer (some ⟨g, 0, none⟩)) (hb : Ab w g k t) :
    (results fn tmps).run Try.prog w = .ok (av (k, t)) w := by
  obtain ⟨c0, c1, _, _⟩ := hb.cells
  have hp2 : tmps[u]?.getD undef = .pointer (some ⟨g, 0, none⟩) := by simpa using hp
  simp [results, h, hp2, go_sem, c0, c1]
set_option maxRecDepth 100000 in
theorem tnext_nil (A S : Option Addr) (c cs k : Nat) (w : World) : Tells 17 #[.slice A k c, .slice S 0 cs] w (av (0, 0)) := by
  have Z := Lib.hid (bel_new w (.cells #[.int .i64 0, .int .i64 0] 31))
  have a0 := Ab.new w 0 0
  have AB := Lib.hid a0
  obtain ⟨c0, c1, z0, z1⟩ := a0.cells
  clear a0
  go_enter Try.func17, Try.ntmps17
  go_upto_region 1 with fail
  generalize w.alloc (.cells #[.int .i64 0, .int .i64 0] 31) = w1 at *
  go_wp2
  refine bodyPost_ret (results_act Try.results17 _ rfl (AB.out.set 0 0)) rfl ?_
  exact ⟨rfl, (Z.out.setCell (p := ⟨w.heap.size, 0, none⟩) (Nat.le_refl _) _).setCell (p := ⟨w.heap.size, 1, none⟩) (Nat.le_refl _) _⟩
set_option maxHeartbeats 800000 in
set_option maxRecDepth 100000 in
theorem tnext_no (A S : Option Addr) (c cs n₀ m : Nat) (T : List Tsk) (s : List Itm) (w : World) (hT : Tk n₀ w A T) (hS : Ir n₀ w S s) (hn₀ : n₀ ≤ w.heap.size) (hs : Sm T) (hl : s.length ≤ 1000) (hm : mayS T s = false) (hsm : s.length = m + 1) : Tells 17 #[.slice A T.length c, .slice S (m + 1) cs] w (av (0, 0)) := by
  have Z := Lib.hid (bel_new w (.cells #[.int .i64 0, .int .i64 0] 31))
  have AB := Lib.hid (Ab.new w 0 0)
  have HT := Lib.hid hT
  have HS := Lib.hid hS
  have HM := Lib.hid hs
  have HH := Lib.hid hm
  have HL := Lib.hid hsm
  have h0 : ((m : Int) + 1 == 0) = false := by simp; omega
  clear hT hS hs hm hsm
  go_enter Try.func17, Try.ntmps17
  go_upto_region 1 with fail
  generalize w.alloc (.cells #[.int .i64 0, .int .i64 0] 31) = w1 at *
  go_wp2_with fail
  have K := tmay_any A S c cs n₀ T s w1 (HT.out.below (Z.out.mono hn₀)) (HS.out.below (Z.out.mono hn₀)) (Nat.le_trans hn₀ Z.out.size) HM.out hl
  rw [HL.out, HH.out] at K
  refine K.mono ?_
  rintro _ w2 ⟨rfl, z2⟩
  have a2 := AB.out.below z2 AB.out.lt
  have A2 := Lib.hid a2
  have Z2 := Lib.hid (Z.out.trans (z2.mono Z.out.size))
  obtain ⟨c0, c1, f0, f1⟩ := a2.cells
  clear z2 a2 K
  go_wp2
  refine bodyPost_ret (results_act Try.results17 _ rfl (A2.out.set 0 0)) rfl ?_
  exact ⟨rfl, (Z2.out.setCell (p := ⟨w.heap.size, 0, none⟩) (Nat.le_refl _) _).setCell (p := ⟨w.heap.size, 1, none⟩) (Nat.le_refl _) _⟩
set_option maxHeartbeats 1600000 in
set_option maxRecDepth 100000 in
theorem tnext_yes (A S : Option Addr) (c cs n₀ m n : Nat) (T : List Tsk) (p : List Itm) (d k : Int) (w : World) (hT : Tk n₀ w A T) (hS : Ir n₀ w S (p ++ [((n : Int), d, k)])) (hn₀ : n₀ ≤ w.heap.size) (hs : Sm T) (hl : p.length = m) (hm1 : m < 1000) (hm : mayS T (p ++ [((n : Int), d, k)]) = true) : Tells 17 #[.slice A T.length c, .slice S (m + 1) cs] w (av (actI T ((n : Int), d, k))) := by
  have Z := Lib.hid (bel_new w (.cells #[.int .i64 0, .int .i64 0] 31))
  have AB := Lib.hid (Ab.new w 0 0)
  have HM := Lib.hid hs
  have HH := Lib.hid hm
  have hlen : (p ++ [((n : Int), d, k)]).length = m + 1 := by simp [hl]
  have HL := Lib.hid hlen
  obtain ⟨n', e0, hn, hd0, hd1, hk0, hk1⟩ := item_at hm
  simp only at e0 hd0 hd1 hk0 hk1
  obtain rfl : n' = n := by omega
  clear e0
  obtain ⟨b, off, rfl, hbl, s0, s1, s2⟩ := hS.at (i := m) (by omega)
  have hlast : (p ++ [((n' : Int), d, k)])[m] = ((n' : Int), d, k) := by subst hl; simp
  rw [hlast] at s0 s1 s2
  simp only at s0 s1 s2
  obtain ⟨b2, o2, K, c', rfl, hal, t0, t1, hkd⟩ := hT.at hn
  have HT := Lib.hid hT
  have HS := Lib.hid hS
  have HKD := Lib.hid hkd
  have hkl := hs.at hn
  have hbw : b < w.heap.size := by omega
  have hbw2 : b2 < w.heap.size := by omega
  have h0 : ((m : Int) + 1 == 0) = false := by simp; omega
  have EA : Hid (actI T ((n' : Int), d, k) = if d < T[n'].1 then (1, (n' : Int)) else if k < T[n'].2.length then (2, T[n'].2.getD k.toNat 0) else (3, (n' : Int))) := Lib.hid (by unfold actI; rw [wkA_at hn, kdA_at hn])
  have K0 := fun w1 (hb : Below w.heap.size w w1) => tmay_any (some ⟨b2, o2, none⟩) (some ⟨b, off, none⟩) c cs n₀ T _ w1 (hT.below (hb.mono hn₀)) (hS.below (hb.mono hn₀)) (Nat.le_trans hn₀ hb.size) hs (by omega)
  rw [hlen, hm] at K0
  have KK := Lib.hid K0
  clear hT hS hs hm hlen hlast hl K0 hkd
  go_enter Try.func17, Try.ntmps17
  go_upto_region 1 with fail
  generalize w.alloc (.cells #[.int .i64 0, .int .i64 0] 31) = w1 at *
  go_wp2_with fail
  refine (KK.out w1 Z.out).mono ?_
  rintro _ w2 ⟨rfl, z2⟩
  have a2 := AB.out.below z2 AB.out.lt
  have A2 := Lib.hid a2
  have Z2 := Lib.hid (Z.out.trans (z2.mono Z.out.size))
  obtain ⟨c0, c1, f0, f1⟩ := a2.cells
  have s0 := (Z2.out.cell (p := ⟨b, off + m * 3, none⟩) hbw).trans s0
  have s1 := (Z2.out.cell (p := ⟨b, off + m * 3 + 1, none⟩) hbw).trans s1
  have s2 := (Z2.out.cell (p := ⟨b, off + m * 3 + 2, none⟩) hbw).trans s2
  have t0 := (Z2.out.cell (p := ⟨b2, o2 + n' * 2, none⟩) hbw2).trans t0
  have t1 := (Z2.out.cell (p := ⟨b2, o2 + n' * 2 + 1, none⟩) hbw2).trans t1
  have hg : w.heap.size < w2.heap.size := Nat.lt_of_lt_of_le AB.out.lt z2.size
  have hx : b < w2.heap.size := by omega
  have hx2 : b2 < w2.heap.size := by omega
  have hx3 : b < w2.heap.size + 1 := by omega
  have hx4 : b2 < w2.heap.size + 1 := by omega
  have hx5 : w.heap.size < w2.heap.size + 1 := by omega
  have i0 : ((m : Int) + 1 - 1) = (m : Int) := by omega
  have hz1 := hg
  have hz2 := Z2.out.size
  clear z2 a2
  by_cases h1 : d < T[n'].1
  · have E := Lib.hid (show actI T ((n' : Int), d, k) = (1, (n' : Int)) by rw [EA.out, if_pos h1])
    generalize T[n'].1 = W at *
    generalize hl2 : T[n'].2 = L at *
    have HL2 := Lib.hid hl2
    clear hl2
    go_wp2
    refine bodyPost_ret (results_act Try.results17 _ rfl (((A2.out.set 1 n').alloc _).alloc _)) rfl ?_
    exact ⟨by rw [E.out], (((Z2.out.setCell (p := ⟨w.heap.size, 0, none⟩) (Nat.le_refl _) _).setCell (p := ⟨w.heap.size, 1, none⟩) (Nat.le_refl _) _).alloc (by simpa using hz2) _).alloc (by simp; omega) _⟩
  · by_cases h2 : k < T[n'].2.length
    · obtain ⟨k', rfl⟩ := Int.eq_ofNat_of_zero_le hk0
      have hk2 : k' < T[n'].2.length := by omega
      obtain ⟨b3, o3, rfl, hb3, r0⟩ := HKD.out.at hk2
      have E := Lib.hid (show actI T ((n' : Int), d, (k' : Int)) = (2, T[n'].2[k']) by rw [EA.out, if_neg h1, if_pos h2, Int.toNat_natCast, List.getD_eq_getElem?_getD, List.getElem?_eq_getElem hk2]; rfl)
      have hbw3 : b3 < w.heap.size := by omega
      have r0 := (Z2.out.cell (p := ⟨b3, o3 + k', none⟩) hbw3).trans r0
      have hx6 : b3 < w2.heap.size := by omega
      have hx7 : b3 < w2.heap.size + 1 := by omega
      generalize T[n'].2[k'] = v at *
      generalize T[n'].1 = W at *
      generalize T[n'].2.length = L at *
      go_wp2
      refine bodyPost_ret (results_act Try.results17 _ rfl (((A2.out.set 2 v).alloc _).alloc _)) rfl ?_
      exact ⟨by rw [E.out], (((Z2.out.setCell (p := ⟨w.heap.size, 0, none⟩) (Nat.le_refl _) _).setCell (p := ⟨w.heap.size, 1, none⟩) (Nat.le_refl _) _).alloc (by simpa using hz2) _).alloc (by simp; omega) _⟩
    · have E := Lib.hid (show actI T ((n' : Int), d, k) = (3, (n' : Int)) by rw [EA.out, if_neg h1, if_neg h2])
      generalize T[n'].1 = W at *
      generalize T[n'].2.length = L at *
      go_wp2
      refine bodyPost_ret (results_act Try.results17 _ rfl (((A2.out.set 3 n').alloc _).alloc _)) rfl ?_
      exact ⟨by rw [E.out], (((Z2.out.setCell (p := ⟨w.heap.size, 0, none⟩) (Nat.le_refl _) _).setCell (p := ⟨w.heap.size, 1, none⟩) (Nat.le_refl _) _).alloc (by simpa using hz2) _).alloc (by simp; omega) _⟩
set_option maxRecDepth 100000 in
theorem tnext_any (A S : Option Addr) (c cs n₀ : Nat) (T : List Tsk) (s : List Itm) (w : World) (hT : Tk n₀ w A T) (hS : Ir n₀ w S s) (hn₀ : n₀ ≤ w.heap.size) (hs : Sm T) (hl : s.length ≤ 1000) : Tells 17 #[.slice A T.length c, .slice S s.length cs] w (av (nextS T s)) := by
  rcases Classical.em (s = []) with rfl | e
  · rw [nextS_nil]
    exact tnext_nil A S c cs _ w
  · obtain ⟨p, x, rfl⟩ := snoc_of e
    have e2 : (p ++ [x]).length = p.length + 1 := by simp
    cases hm : mayS T (p ++ [x])
    · rw [nextS_no hm, e2]
      exact tnext_no A S c cs n₀ p.length T _ w hT hS hn₀ hs hl hm e2
    · rw [nextS_snoc hm, e2]
      obtain ⟨n, e0, _⟩ := item_at hm
      obtain ⟨x0, x1, x2⟩ := x
      simp only at e0
      subst e0
      exact tnext_yes A S c cs n₀ p.length n T p x1 x2 w hT hS hn₀ hs rfl (by omega) hm
end Go.Proofs.Ytobcedlkmnmikaa.Fo
