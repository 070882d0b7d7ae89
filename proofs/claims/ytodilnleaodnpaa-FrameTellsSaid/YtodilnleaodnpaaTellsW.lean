/- The walk of FrameTells. -/
import Derived.Test.YtodilnleaodnpaaFrL
namespace Go.Proofs.Ytodilnleaodnpaa
open Go.RowKit Go.Deep
attribute [local go_sem ↓] eql_fr guard_fr
theorem beq_no' {a b : Int} (h : a ≠ b) : (a == b) = false := by simpa using h
/-- The document's own Once. -/
theorem rref_any (A : Option Addr) (n c : Nat) (l : List Int) (r : Int) (f : Fr) (w : World) (h : Rd w A l) (hn : l.length = n) (hc : n ≤ c) (hs : n ≤ 1000) : Calls Try.prog 11 #[.slice A n c, .int .i64 r, fv f] w (RetR w (on l r f).1 (on l r f).2) := by
  obtain ⟨o, p, q, v, x, y, s⟩ := f
  by_cases h0 : s = 0
  · subst h0
    by_cases k : o = 0 ∨ o = 3
    · have e : on l r ⟨o, p, q, v, x, y, 0⟩ = onPut l r ⟨o, p, q, v, x, y, 0⟩ := by
        simp only [on]; rw [if_neg (by decide), if_pos k]
      rw [e]
      by_cases hr : r ≤ (l.length : Int)
      · rw [onPut, if_pos hr]
        have hd : decide ((n : Int) ≥ r) = true := decide_eq_true (by omega)
        rcases k with rfl | rfl
        · exact rref_full0 A n c l r p q v x y w h hn hd
        · exact rref_full3 A n c l r p q v x y w h hn hd
      · rw [onPut, if_neg hr]
        have hd : decide ((n : Int) ≥ r) = false := decide_eq_false (by omega)
        rcases k with rfl | rfl
        · exact rref_put0 A n c l r p q v x y w h hn hd hs
        · exact rref_put3 A n c l r p q v x y w h hn hd hs
    by_cases k1 : o = 1
    · subst k1
      have e : on l r ⟨1, p, q, v, x, y, 0⟩ = onLast l ⟨1, p, q, v, x, y, 0⟩ := by simp [on]
      rw [e]
      rcases List.eq_nil_or_concat l with rfl | ⟨t, u, rfl⟩
      · exact rref_nil1 A n c [] r p q v x y w h hn (by simpa using hn.symm)
      · rw [List.concat_eq_append] at *
        rw [onLast_snoc]
        obtain rfl : n = t.length + 1 := by simpa using hn.symm
        exact rref_pop A t.length c t r p q v x y u w h rfl hc hs
    by_cases k2 : o = 2
    · subst k2
      have e : on l r ⟨2, p, q, v, x, y, 0⟩ = onFirst l ⟨2, p, q, v, x, y, 0⟩ := by simp [on]
      rw [e]
      rcases l with _ | ⟨u, t⟩
      · exact rref_nil2 A n c [] r p q v x y w h hn (by simpa using hn.symm)
      · obtain rfl : n = t.length + 1 := by simpa using hn.symm
        obtain ⟨k, rfl⟩ : ∃ k, c = k + 1 := ⟨c - 1, by omega⟩
        exact rref_first2 A t.length k t r p q v x y u w h rfl (by omega)
    by_cases k4 : o = 4
    · subst k4
      have e : on l r ⟨4, p, q, v, x, y, 0⟩ = onFirst l ⟨4, p, q, v, x, y, 0⟩ := by simp [on]
      rw [e]
      rcases l with _ | ⟨u, t⟩
      · exact rref_nil4 A n c [] r p q v x y w h hn (by simpa using hn.symm)
      · obtain rfl : n = t.length + 1 := by simpa using hn.symm
        obtain ⟨k, rfl⟩ : ∃ k, c = k + 1 := ⟨c - 1, by omega⟩
        exact rref_first4 A t.length k t r p q v x y u w h rfl (by omega)
    have e : on l r ⟨o, p, q, v, x, y, 0⟩ = (l, ⟨o, p, q, v, x, y, 0⟩) := by
      simp only [on]; rw [if_neg (by decide), if_neg k, if_neg k1, if_neg (by omega)]
    rw [e]
    exact rref_none A n c l r p q v x y o w h hn (beq_no' (by omega)) (beq_no' k1) (beq_no' k2) (beq_no' (by omega)) (beq_no' k4)
  · rw [on_leave (.inl h0)]
    exact rref_over A n c l r p q v x y o s w h hn (by simpa using h0)
theorem rref_at {A : Option Addr} {n c : Nat} {l : List Int} {r : Int} {f : Fr} {w : World} (l' : List Int) (f' : Fr) (e : on l r f = (l', f')) (h : Rd w A l) (hn : l.length = n) (hc : n ≤ c) (hs : n ≤ 1000) : Calls Try.prog 11 #[.slice A n c, .int .i64 r, fv f] w (RetR w l' f') := by
  have := rref_any A n c l r f w h hn hc hs
  rw [e] at this
  exact this
theorem on_len (l : List Int) (r : Int) (f : Fr) : (on l r f).1.length ≤ l.length + 1 := by
  by_cases h : f.res ≠ 0 ∨ f.op < 0 ∨ 4 < f.op
  · rw [on_leave h]; simp
  · obtain ⟨l', u, t, e, _, hl⟩ := on_known (l := l) (r := r) (f := f) (by omega) (by omega) (by omega)
    rw [e]; exact hl
theorem hd_call2 {S : World → Prop} {n : Nat} {w0 w w' : World} (K : ∀ x, Below n w0 x → S x) (G : ∀ x, S x → Below n w0 x) (hn : n ≤ w0.heap.size) (hc : Below w.heap.size w w') (h : S w) : S w' := K _ ((G _ h).trans (hc.mono (Nat.le_trans hn (G _ h).size)))
theorem tells_big (A : Option Addr) (n c : Nat) (r t : Int) (f : Fr) (w : World) (hn : 300 < n) : Tells 3 #[.slice A n c, .int .i64 r, fv f, .int .i64 t] w (.bool true) := by
  obtain ⟨o, p, q, v, x, y, s⟩ := f
  have hd : decide ((300 : Int) < (n : Int)) = true := decide_eq_true (by omega)
  go_enter Try.func3, Try.ntmps3
  go_wp2_with fail
  refine (awake_any _).mono ?_
  rintro _ w1 ⟨rfl, z⟩
  have Z := Lib.hid (keep_call z (bel_alloc w _))
  clear z
  go_wp2
  go_ret
  exact ⟨rfl, Z.out⟩
set_option maxHeartbeats 8000000 in
theorem tells_walk (A : Option Addr) (n c : Nat) (l : List Int) (r t o p q v x y s : Int) (w : World) (hA : Rd w A l) (hn : l.length = n) (hc : n ≤ c) (hm : n ≤ 300) : Tells 3 #[.slice A n c, .int .i64 r, fv ⟨o, p, q, v, x, y, s⟩, .int .i64 t] w (.bool true) := by
  have hd : decide ((300 : Int) < (n : Int)) = false := decide_eq_false (by omega)
  obtain ⟨b, hb⟩ : ∃ b, (s != 0) = b := ⟨_, rfl⟩
  have HS := Lib.hid hb
  obtain ⟨l1, ⟨o1, p1, q1, v1, x1, y1, s1⟩, e⟩ : ∃ l1 f1, on l r ⟨o, p, q, v, x, y, s⟩ = (l1, f1) := ⟨_, _, rfl⟩
  have E := Lib.hid e
  have HL1 := Lib.hid (show l1.length ≤ 301 by have := on_len l r ⟨o, p, q, v, x, y, s⟩; rw [e] at this; simp only at this; omega)
  have HN := Lib.hid hn
  have L := Lib.hid hA
  clear hA hn hb e
  go_enter Try.func3, Try.ntmps3
  go_wp2_with fail
  refine (awake_any _).mono ?_
  rintro _ w1 ⟨rfl, z⟩
  have BF := Lib.hid ((Bf.new w ⟨o, p, q, v, x, y, s⟩).after z)
  replace z := keep_call z (bel_alloc w _)
  have Z := Lib.hid z
  replace L := Lib.hid (L.out.below z)
  clear z
  obtain ⟨a0, a1, a2, a3, a4, a5, a6⟩ := BF.out.cells
  have la := BF.out.lt
  simp only at a0 a1 a2 a3 a4 a5 a6 la
  go_wp2_with fail
  refine (once_at l1 ⟨o1, p1, q1, v1, x1, y1, s1⟩ E.out L.out HN.out hc (by omega)).mono ?_
  rintro _ w2 ⟨A2, c2, rfl, hc2, n2, z⟩
  clear a0 a1 a2 a3 a4 a5 a6 la
  replace Z := Lib.hid (Z.out.trans (z.mono Z.out.size))
  replace L := Lib.hid (L.out.below z)
  replace BF := Lib.hid (BF.out.after z)
  have LA := Lib.hid n2.rd
  clear z n2 hc2
  obtain ⟨a0, a1, a2, a3, a4, a5, a6⟩ := BF.out.cells
  have la := BF.out.lt
  simp only at a0 a1 a2 a3 a4 a5 a6 la
  go_wp2_with fail
  refine (rref_at l1 ⟨o1, p1, q1, v1, x1, y1, s1⟩ E.out (L.out.alloc _) HN.out hc (by omega)).mono ?_
  rintro _ w3 ⟨A3, c3, rfl, n3, z⟩
  clear a0 a1 a2 a3 a4 a5 a6 la
  have BG := Lib.hid ((Bf.new w2 ⟨o1, p1, q1, v1, x1, y1, s1⟩).after z)
  replace z := keep_call z (bel_alloc w2 _)
  replace Z := Lib.hid (Z.out.trans (z.mono Z.out.size))
  replace LA := Lib.hid (LA.out.below z)
  replace BF := Lib.hid (BF.out.after z)
  have LB := Lib.hid n3
  clear z n3 L
  go_wp2_with fail
  refine (nums_eq (LA.out.alloc _) (LB.out.alloc _) rfl (by have := HL1.out; omega)).mono ?_
  rintro _ w4 ⟨rfl, q4, hq⟩
  have z := below_of_drewN hq
  clear hq
  have BH := Lib.hid ((Bf.new w3 ⟨o1, p1, q1, v1, x1, y1, s1⟩).after z)
  replace z := keep_call z (bel_alloc w3 _)
  replace Z := Lib.hid (Z.out.trans (z.mono Z.out.size))
  replace BF := Lib.hid (BF.out.after z)
  replace BG := Lib.hid (BG.out.after z)
  clear z LA LB
  obtain ⟨a0, a1, a2, a3, a4, a5, a6⟩ := BF.out.cells
  have la := BF.out.lt
  simp only at a0 a1 a2 a3 a4 a5 a6 la
  go_wp2_with fail
  refine (Tells.of (rover_any ⟨o, p, q, v, x, y, s⟩ _) (v' := .bool b) (by rw [← HS.out])).mono ?_
  rintro _ w5 ⟨rfl, z⟩
  clear a0 a1 a2 a3 a4 a5 a6 la
  replace Z := Lib.hid (Z.out.trans (z.mono Z.out.size))
  replace BF := Lib.hid (BF.out.after z)
  replace BG := Lib.hid (BG.out.after z)
  replace BH := Lib.hid (BH.out.after z)
  clear z
  have HK := Lib.hid (show ∀ x', Below w5.heap.size w5 x' → (fun w' => w'.cell? ⟨w.heap.size, 0, none⟩ = some (.int .i64 o) ∧ w'.cell? ⟨w.heap.size, 1, none⟩ = some (.int .i64 p) ∧ w'.cell? ⟨w.heap.size, 2, none⟩ = some (.int .i64 q) ∧ w'.cell? ⟨w.heap.size, 3, none⟩ = some (.int .u64 v) ∧ w'.cell? ⟨w.heap.size, 4, none⟩ = some (.int .u64 x) ∧ w'.cell? ⟨w.heap.size, 5, none⟩ = some (.int .u64 y) ∧ w'.cell? ⟨w.heap.size, 6, none⟩ = some (.int .i64 s) ∧ w'.cell? ⟨w2.heap.size, 0, none⟩ = some (.int .i64 o1) ∧ w'.cell? ⟨w2.heap.size, 1, none⟩ = some (.int .i64 p1) ∧ w'.cell? ⟨w2.heap.size, 2, none⟩ = some (.int .i64 q1) ∧ w'.cell? ⟨w2.heap.size, 3, none⟩ = some (.int .u64 v1) ∧ w'.cell? ⟨w2.heap.size, 4, none⟩ = some (.int .u64 x1) ∧ w'.cell? ⟨w2.heap.size, 5, none⟩ = some (.int .u64 y1) ∧ w'.cell? ⟨w2.heap.size, 6, none⟩ = some (.int .i64 s1) ∧ w'.cell? ⟨w3.heap.size, 0, none⟩ = some (.int .i64 o1) ∧ w'.cell? ⟨w3.heap.size, 1, none⟩ = some (.int .i64 p1) ∧ w'.cell? ⟨w3.heap.size, 2, none⟩ = some (.int .i64 q1) ∧ w'.cell? ⟨w3.heap.size, 3, none⟩ = some (.int .u64 v1) ∧ w'.cell? ⟨w3.heap.size, 4, none⟩ = some (.int .u64 x1) ∧ w'.cell? ⟨w3.heap.size, 5, none⟩ = some (.int .u64 y1) ∧ w'.cell? ⟨w3.heap.size, 6, none⟩ = some (.int .i64 s1) ∧ Below w5.heap.size w5 w') x' from fun x' hx => by
    obtain ⟨e0, e1, e2, e3, e4, e5, e6⟩ := (BF.out.after hx).cells
    obtain ⟨f0, f1, f2, f3, f4, f5, f6⟩ := (BG.out.after hx).cells
    obtain ⟨g0, g1, g2, g3, g4, g5, g6⟩ := (BH.out.after hx).cells
    exact ⟨e0, e1, e2, e3, e4, e5, e6, f0, f1, f2, f3, f4, f5, f6, g0, g1, g2, g3, g4, g5, g6, hx⟩)
  have hHeld0 := HK.out _ (Below.refl _ _)
  go_wp2_with fail
  go_region_held3 (fun w' => w'.cell? ⟨w.heap.size, 0, none⟩ = some (.int .i64 o) ∧ w'.cell? ⟨w.heap.size, 1, none⟩ = some (.int .i64 p) ∧ w'.cell? ⟨w.heap.size, 2, none⟩ = some (.int .i64 q) ∧ w'.cell? ⟨w.heap.size, 3, none⟩ = some (.int .u64 v) ∧ w'.cell? ⟨w.heap.size, 4, none⟩ = some (.int .u64 x) ∧ w'.cell? ⟨w.heap.size, 5, none⟩ = some (.int .u64 y) ∧ w'.cell? ⟨w.heap.size, 6, none⟩ = some (.int .i64 s) ∧ w'.cell? ⟨w2.heap.size, 0, none⟩ = some (.int .i64 o1) ∧ w'.cell? ⟨w2.heap.size, 1, none⟩ = some (.int .i64 p1) ∧ w'.cell? ⟨w2.heap.size, 2, none⟩ = some (.int .i64 q1) ∧ w'.cell? ⟨w2.heap.size, 3, none⟩ = some (.int .u64 v1) ∧ w'.cell? ⟨w2.heap.size, 4, none⟩ = some (.int .u64 x1) ∧ w'.cell? ⟨w2.heap.size, 5, none⟩ = some (.int .u64 y1) ∧ w'.cell? ⟨w2.heap.size, 6, none⟩ = some (.int .i64 s1) ∧ w'.cell? ⟨w3.heap.size, 0, none⟩ = some (.int .i64 o1) ∧ w'.cell? ⟨w3.heap.size, 1, none⟩ = some (.int .i64 p1) ∧ w'.cell? ⟨w3.heap.size, 2, none⟩ = some (.int .i64 q1) ∧ w'.cell? ⟨w3.heap.size, 3, none⟩ = some (.int .u64 v1) ∧ w'.cell? ⟨w3.heap.size, 4, none⟩ = some (.int .u64 x1) ∧ w'.cell? ⟨w3.heap.size, 5, none⟩ = some (.int .u64 y1) ∧ w'.cell? ⟨w3.heap.size, 6, none⟩ = some (.int .i64 s1) ∧ Below w5.heap.size w5 w') (first | with_reducible exact hd_drew HK.out (fun _ h => h.2.2.2.2.2.2.2.2.2.2.2.2.2.2.2.2.2.2.2.2.2) (by assumption) | with_reducible exact hd_call2 HK.out (fun _ h => h.2.2.2.2.2.2.2.2.2.2.2.2.2.2.2.2.2.2.2.2.2) (Nat.le_refl _) (by assumption) (by assumption)) (first
    | (go_at_call 14; (refine (Tells.of (over_any ⟨o, p, q, v, x, y, s⟩ _) (v' := .bool b) (by rw [← HS.out])).mono ?_); rintro _ wa ⟨rfl, za⟩)
    | (go_at_call 15; (refine (Tells.of (begin_any o q v _) (v' := .agg #[.int .i64 o, .int .i64 0, .int .i64 q, .int .u64 v, .int .u64 0, .int .u64 0, .int .i64 0]) rfl).mono ?_); rintro _ wb ⟨rfl, zb⟩)
    | (go_at_call 16; (refine (Tells.of (rbegin_any o q v _) (v' := .agg #[.int .i64 o, .int .i64 0, .int .i64 q, .int .u64 v, .int .u64 0, .int .u64 0, .int .i64 0]) rfl).mono ?_); rintro _ wc ⟨rfl, zc⟩)
    | (go_at_call 17; (refine (Tells.of (end_any ⟨o, p, q, v, x, y, s⟩ t x _) (v' := .agg #[.int .i64 o, .int .i64 0, .int .i64 q, .int .u64 x, .int .u64 0, .int .u64 0, .int .i64 t]) rfl).mono ?_); rintro _ wd ⟨rfl, zd⟩)
    | (go_at_call 18; (refine (Tells.of (rend_any ⟨o, p, q, v, x, y, s⟩ t x _) (v' := .agg #[.int .i64 o, .int .i64 0, .int .i64 q, .int .u64 x, .int .u64 0, .int .u64 0, .int .i64 t]) rfl).mono ?_); rintro _ we ⟨rfl, ze⟩))
  go_wp2
  go_ret
  exact ⟨rfl, Z.out.trans ((keep_call ze (keep_call zd (keep_call zc (keep_call zb (keep_call za (Below.refl w5.heap.size w5).drew))))).mono Z.out.size)⟩
theorem frameTells_walk (A : Option Addr) (n c : Nat) (l : List Int) (r t : Int) (f : Fr) (w : World) (hA : Rd w A l) (hn : l.length = n) (hc : n ≤ c) : Tells 3 #[.slice A n c, .int .i64 r, fv f, .int .i64 t] w (.bool true) := by
  by_cases hm : n ≤ 300
  · obtain ⟨o, p, q, v, x, y, s⟩ := f
    exact tells_walk A n c l r t o p q v x y s w hA hn hc hm
  · exact tells_big A n c r t f w (by omega)
end Go.Proofs.Ytodilnleaodnpaa
