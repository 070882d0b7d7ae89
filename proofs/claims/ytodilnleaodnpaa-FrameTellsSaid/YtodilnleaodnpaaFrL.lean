/- The document's own Once, where it puts a number in. -/
import Derived.Test.YtodilnleaodnpaaFrK
namespace Go.Proofs.Ytodilnleaodnpaa
open Go.RowKit Go.Deep
theorem own_nil (w : World) (base : Nat) : Own w base none 0 0 [] := ⟨rfl, .inl ⟨rfl, rfl⟩⟩
/-- An append to a row that the call owns, as one step of a region that draws. -/
theorem step_app {ops : Array Oper} {o : Oper} {a : Act} {w : World} {K : Act → World → Prop} {Q : Exit → Act → World → Prop} {E : Prop} {A B : Option Addr} {base n c m d : Nat} {l k : List Int}
    (ho : ∃ s x, o.op = .call { callee := .builtin .append, args := #[s, x], argTypes := #[22, 22] } ∧ a.eval s = .slice A n c ∧ a.eval x = .slice B m d) (hu : o.type = 22) (hg : o.guard = none)
    (hO : Own w base A n c l) (hB : Rd w B k) (hm : k.length = m) (hs : n + m ≤ 1000000) (hb : base ≤ w.heap.size)
    (hK : ∀ A' c' w', Own w' base A' (n + m) c' (l ++ k) → Below base w w' → K (a.put o.dst (.slice A' (n + m : Nat) c')) w') :
    if Region.wanted o (yielded ops a.tmps) = true then Oper.wp Try.prog o a w K Q else E := by
  obtain ⟨A', c', w', hrun, h1, h2⟩ := run_app hO d hB hm hs hb
  obtain ⟨s, x, hop, hs, hx⟩ := ho
  have hw : Region.wanted o (yielded ops a.tmps) = true := by simp [Region.wanted, hg]
  rw [if_pos hw]
  unfold Oper.wp
  simp [execOp, hop, resolve, invoke, builtin, hs, hx, hu, hrun, Result.andThen]
  exact hK _ _ _ h1 h2
theorem Own.rn {w : World} {base : Nat} {A : Option Addr} {n c : Nat} {l : List Int} (h : Own w base A n c l) : Rn base w A l := fun hp => by
  rcases h.2 with ⟨hv, hx⟩ | ⟨g, cap, cur, hv, hb, hg, _⟩
  · have := h.len; omega
  · injection hv with hA _ _
    subst hA
    refine ⟨_, rfl, hb, (Array.getElem?_eq_some_iff.1 hg).1, fun j u hu => ?_⟩
    exact World.ownsRow.cells h (g := g) rfl j _ (by simp [hu])
theorem own_alloc {w : World} {base : Nat} {A : Option Addr} {n c : Nat} {l : List Int} (h : Own w base A n c l) (o : Obj) : Own (w.alloc o) base A n c l := by
  refine ⟨h.1, ?_⟩
  rcases h.2 with h' | ⟨g, cap, cur, hv, hb, hg, hr⟩
  · exact .inl h'
  · exact .inr ⟨g, cap, cur, hv, hb, (Below.heap_alloc w o g (Array.getElem?_eq_some_iff.1 hg).1).trans hg, hr⟩
theorem put_fin {w w0 w5 w6 : World} {l : List Int} {n c base : Nat} {A : Option Addr} {f : Fr} (Z : Below w.heap.size w w0) (hz : w0.heap.size = w.heap.size + 2) (z6 : Below w0.heap.size w0 w6) (hb : w0.heap.size ≤ base)
    (ho : Own w5 base A n c l) (z5 : Below w5.heap.size w5 w6) : RetR w l f (.returned (.tuple #[.slice A n c, fv f])) (pf w6 (w.heap.size + 1) f) := by
  obtain rfl := ho.len
  exact ⟨_, _, rfl, ((ho.rn.below z5).pf (by omega) f).rd, below_pf (Z.trans (z6.mono (by omega))) (by omega) _⟩
theorem hd_drew {S : World → Prop} {n : Nat} {w0 w : World} (K : ∀ x, Below n w0 x → S x) (G : ∀ x, S x → Below n w0 x) (h : S w) : S w.drew := K _ (G _ h).drew
theorem hd_alloc {S : World → Prop} {n : Nat} {w0 w : World} (K : ∀ x, Below n w0 x → S x) (G : ∀ x, S x → Below n w0 x) (hn : n ≤ w0.heap.size) (o : Obj) (h : S w) : S (w.alloc o) := K _ ((G _ h).alloc (Nat.le_trans hn (G _ h).size) o)
theorem hd_alloc_drew {S : World → Prop} {n : Nat} {w0 w : World} (K : ∀ x, Below n w0 x → S x) (G : ∀ x, S x → Below n w0 x) (hn : n ≤ w0.heap.size) (o : Obj) (h : S w.drew) : S (w.alloc o).drew := K _ (show Below n w0 (w.drew.alloc o) from (G _ h).alloc (Nat.le_trans hn (G _ h).size) o)
theorem hd_call {S : World → Prop} {n : Nat} {w0 w w' : World} (K : ∀ x, Below n w0 x → S x) (G : ∀ x, S x → Below n w0 x) (hc : Below n w w') (h : S w) : S w' := K _ ((G _ h).trans hc)
theorem hd_set7 {S : World → Prop} {n : Nat} {w0 w : World} (K : ∀ x, Below n w0 x → S x) (G : ∀ x, S x → Below n w0 x) (v0 v1 v2 v3 v4 v5 v6 : Value) (h : S w) : S (((((((w.setCell ⟨n, 0, none⟩ v0).setCell ⟨n, 1, none⟩ v1).setCell ⟨n, 2, none⟩ v2).setCell ⟨n, 3, none⟩ v3).setCell ⟨n, 4, none⟩ v4).setCell ⟨n, 5, none⟩ v5).setCell ⟨n, 6, none⟩ v6) :=
  K _ ((((((((G _ h).setCell (p := ⟨n, 0, none⟩) (Nat.le_refl _) _).setCell (p := ⟨n, 1, none⟩) (Nat.le_refl _) _).setCell (p := ⟨n, 2, none⟩) (Nat.le_refl _) _).setCell (p := ⟨n, 3, none⟩) (Nat.le_refl _) _).setCell (p := ⟨n, 4, none⟩) (Nat.le_refl _) _).setCell (p := ⟨n, 5, none⟩) (Nat.le_refl _) _).setCell (p := ⟨n, 6, none⟩) (Nat.le_refl _) _)
set_option maxHeartbeats 4000000 in
theorem rref_put0 (A : Option Addr) (n c : Nat) (l : List Int) (r p q v x y : Int) (w : World) (h : Rd w A (l)) (hn : l.length = n) (hr : decide ((n : Int) ≥ r) = false) (hs : n ≤ 1000) : Calls Try.prog 11 #[.slice A n c, .int .i64 r, fv ⟨0, p, q, v, x, y, 0⟩] w (RetR w (l ++ [v]) ⟨0, 0, q, v, 0, 0, 1⟩) := by
  have H := Lib.hid h; clear h
  have HN := Lib.hid hn; clear hn
  obtain ⟨B5, B7, Z, hz⟩ := boxes w ⟨0, p, q, v, x, y, 0⟩
  go_enter Try.func11, Try.ntmps11
  go_wp2_with fail
  change Calls _ _ _ (bxs w ⟨0, p, q, v, x, y, 0⟩) _
  generalize bxs w ⟨0, p, q, v, x, y, 0⟩ = w0 at B5 B7 Z hz ⊢
  refine (Tells.of (rover_any ⟨0, p, q, v, x, y, 0⟩ _) (v' := .bool false) (by first | rfl | rw [← HF.out])).mono ?_
  rintro _ w2 ⟨rfl, z2⟩
  have h5 : w.heap.size < w0.heap.size := by omega
  have h7 : w.heap.size + 1 < w0.heap.size := by omega
  have y5 : w.heap.size < w2.heap.size := Nat.lt_of_lt_of_le h5 z2.size
  obtain ⟨a0, a1, a2, a3, a4, a5, a6⟩ := (B5.below z2 h5).cells
  obtain ⟨d0, d1, d2, d3, d4, d5, d6⟩ := (B7.below z2 h7).cells
  have fz := (B7.below z2 h7).free
  simp only at a0 a1 a2 a3 a4 a5 a6 d0 d1 d2 d3 d4 d5 d6
  have HR2 := Lib.hid (H.out.below (Z.trans (z2.mono (by omega))))
  have y7 : w0.heap.size ≤ (w2.alloc (.cells #[.int .u64 v] 23)).drew.heap.size := Nat.le_trans z2.size (by simp)
  have hn0 : w.heap.size + 1 ≤ w0.heap.size := by omega
  have HK := Lib.hid (show ∀ x', Below (w.heap.size + 1) w0 x' → (fun w' => w'.cell? ⟨w.heap.size, 0, none⟩ = some (.int .i64 0) ∧ w'.cell? ⟨w.heap.size, 1, none⟩ = some (.int .i64 p) ∧ w'.cell? ⟨w.heap.size, 2, none⟩ = some (.int .i64 q) ∧ w'.cell? ⟨w.heap.size, 3, none⟩ = some (.int .u64 v) ∧ w'.cell? ⟨w.heap.size, 4, none⟩ = some (.int .u64 x) ∧ w'.cell? ⟨w.heap.size, 5, none⟩ = some (.int .u64 y) ∧ w'.cell? ⟨w.heap.size, 6, none⟩ = some (.int .i64 0) ∧ Below (w.heap.size + 1) w0 w') x' from fun x' hx => by
    obtain ⟨e0, e1, e2, e3, e4, e5, e6⟩ := (B5.below hx (Nat.lt_succ_self _)).cells
    exact ⟨e0, e1, e2, e3, e4, e5, e6, hx⟩)
  have hHeld0 := HK.out _ (z2.mono hn0)
  clear a0 a1 a2 a3 a4 a5 a6
  go_wp2_with fail
  go_region_held3 (fun w' => w'.cell? ⟨w.heap.size, 0, none⟩ = some (.int .i64 0) ∧ w'.cell? ⟨w.heap.size, 1, none⟩ = some (.int .i64 p) ∧ w'.cell? ⟨w.heap.size, 2, none⟩ = some (.int .i64 q) ∧ w'.cell? ⟨w.heap.size, 3, none⟩ = some (.int .u64 v) ∧ w'.cell? ⟨w.heap.size, 4, none⟩ = some (.int .u64 x) ∧ w'.cell? ⟨w.heap.size, 5, none⟩ = some (.int .u64 y) ∧ w'.cell? ⟨w.heap.size, 6, none⟩ = some (.int .i64 0) ∧ Below (w.heap.size + 1) w0 w') (first | with_reducible exact hd_drew HK.out (fun _ h => h.2.2.2.2.2.2.2) (by assumption) | with_reducible exact hd_alloc HK.out (fun _ h => h.2.2.2.2.2.2.2) hn0 _ (by assumption) | with_reducible exact hd_alloc_drew HK.out (fun _ h => h.2.2.2.2.2.2.2) hn0 _ (by assumption) | with_reducible exact hd_call HK.out (fun _ h => h.2.2.2.2.2.2.2) (by assumption) (by assumption) | with_reducible exact hd_set7 HK.out (fun _ h => h.2.2.2.2.2.2.2) _ _ _ _ _ _ _ (by assumption)) (first
    | (refine step_app (A := none) (n := 0) (c := 0) (B := A) (m := n) (d := c) (l := []) (k := l) ⟨_, _, rfl, rfl, rfl⟩ rfl rfl (own_nil _ _) (by first | exact HR2.out | exact HR2.out.alloc _) HN.out (by omega) (Nat.le_refl _) ?_; intro A1 c1 w3 o3 z3'; simp only [Nat.zero_add, List.nil_append] at o3 ⊢; have z3 : Below w0.heap.size w0 w3 := (by first | exact keep_call z3' z2.drew | exact keep_call z3' (z2.alloc z2.size _).drew | exact keep_call z3' (z2.drew.alloc z2.size _)); have O3 := Lib.hid o3; have Z3 := Lib.hid z3'; have sz3 := z3'.size; have hgrow := z3'.mono (Nat.le_trans hn0 (by first | exact z2.size | exact y7)); have ya3 : w.heap.size < w3.heap.size := Nat.lt_of_lt_of_le h5 z3.size; have yb3 : w.heap.size + 1 < w3.heap.size := Nat.lt_of_lt_of_le h7 z3.size; obtain ⟨d0, d1, d2, d3, d4, d5, d6⟩ := (B7.below z3 h7).cells; have fz := (B7.below z3 h7).free; clear o3 z3')
    | (refine step_app (A := A1) (n := n) (c := c1) (m := 1) (l := l) (k := [v]) ⟨_, _, rfl, rfl, rfl⟩ rfl rfl (by first | exact O3.out | exact own_alloc O3.out _) (by first | exact rd_one _ _ | exact Rd.below (w := (w2.alloc (.cells #[.int .u64 v] 23)).drew) (rd_one w2 v) Z3.out | exact Rd.below (w := (w2.drew.alloc (.cells #[.int .u64 v] 23))) (rd_one w2.drew v) Z3.out) rfl (by omega) (by first | exact sz3 | exact Nat.le_trans sz3 (by simp)) ?_; intro A5 c5 w5 o5 z5'; have z5 : Below w0.heap.size w0 w5 := (by first | exact z3.trans (z5'.mono y7) | exact z3.trans (z5'.mono z2.size) | exact (z3.alloc z3.size _).trans (z5'.mono z2.size) | exact (z3.alloc z3.size _).trans (z5'.mono y7)); have O5 := Lib.hid o5; have hgrow := z5'.mono (Nat.le_trans hn0 (by first | exact z2.size | exact y7)); have ya5 : w.heap.size < w5.heap.size := Nat.lt_of_lt_of_le h5 z5.size; have yb5 : w.heap.size + 1 < w5.heap.size := Nat.lt_of_lt_of_le h7 z5.size; obtain ⟨d0, d1, d2, d3, d4, d5, d6⟩ := (B7.below z5 h7).cells; have fz := (B7.below z5 h7).free; clear o5 z5')
    | (go_at_call 18; (refine (Tells.of (rend_any ⟨0, p, q, v, x, y, 0⟩ 1 v _) (v' := .agg #[.int .i64 0, .int .i64 0, .int .i64 q, .int .u64 v, .int .u64 0, .int .u64 0, .int .i64 1]) rfl).mono ?_); rintro _ w6 ⟨rfl, z6'⟩; have z6 := keep_call (w2 := w0) z6' z5; have Z6 := Lib.hid z6'; have hgrow := z6'.mono (Nat.le_trans hn0 z5.size); have ya6 : w.heap.size < w6.heap.size := Nat.lt_of_lt_of_le h5 z6.size; have yb6 : w.heap.size + 1 < w6.heap.size := Nat.lt_of_lt_of_le h7 z6.size; obtain ⟨d0, d1, d2, d3, d4, d5, d6⟩ := (B7.below z6 h7).cells; have fz := (B7.below z6 h7).free; clear z6'))
  all_goals
    go_wp2
    change bodyPost _ _ _ _ _ (pf w6 (w.heap.size + 1) ⟨0, 0, q, v, 0, 0, 1⟩)
    refine bodyPost_ret (results_fr Try.results11 _ rfl ((B7.below z6 h7).pf _)) rfl ?_
    exact put_fin Z hz z6 (by first | exact z2.size | exact Nat.le_trans z2.size (by simp)) O5.out Z6.out
set_option maxHeartbeats 4000000 in
theorem rref_put3 (A : Option Addr) (n c : Nat) (l : List Int) (r p q v x y : Int) (w : World) (h : Rd w A (l)) (hn : l.length = n) (hr : decide ((n : Int) ≥ r) = false) (hs : n ≤ 1000) : Calls Try.prog 11 #[.slice A n c, .int .i64 r, fv ⟨3, p, q, v, x, y, 0⟩] w (RetR w (l ++ [v]) ⟨3, 0, q, v, 0, 0, 1⟩) := by
  have H := Lib.hid h; clear h
  have HN := Lib.hid hn; clear hn
  obtain ⟨B5, B7, Z, hz⟩ := boxes w ⟨3, p, q, v, x, y, 0⟩
  go_enter Try.func11, Try.ntmps11
  go_wp2_with fail
  change Calls _ _ _ (bxs w ⟨3, p, q, v, x, y, 0⟩) _
  generalize bxs w ⟨3, p, q, v, x, y, 0⟩ = w0 at B5 B7 Z hz ⊢
  refine (Tells.of (rover_any ⟨3, p, q, v, x, y, 0⟩ _) (v' := .bool false) (by first | rfl | rw [← HF.out])).mono ?_
  rintro _ w2 ⟨rfl, z2⟩
  have h5 : w.heap.size < w0.heap.size := by omega
  have h7 : w.heap.size + 1 < w0.heap.size := by omega
  have y5 : w.heap.size < w2.heap.size := Nat.lt_of_lt_of_le h5 z2.size
  obtain ⟨a0, a1, a2, a3, a4, a5, a6⟩ := (B5.below z2 h5).cells
  obtain ⟨d0, d1, d2, d3, d4, d5, d6⟩ := (B7.below z2 h7).cells
  have fz := (B7.below z2 h7).free
  simp only at a0 a1 a2 a3 a4 a5 a6 d0 d1 d2 d3 d4 d5 d6
  have HR2 := Lib.hid (H.out.below (Z.trans (z2.mono (by omega))))
  have y7 : w0.heap.size ≤ (w2.alloc (.cells #[.int .u64 v] 23)).drew.heap.size := Nat.le_trans z2.size (by simp)
  have hn0 : w.heap.size + 1 ≤ w0.heap.size := by omega
  have HK := Lib.hid (show ∀ x', Below (w.heap.size + 1) w0 x' → (fun w' => w'.cell? ⟨w.heap.size, 0, none⟩ = some (.int .i64 3) ∧ w'.cell? ⟨w.heap.size, 1, none⟩ = some (.int .i64 p) ∧ w'.cell? ⟨w.heap.size, 2, none⟩ = some (.int .i64 q) ∧ w'.cell? ⟨w.heap.size, 3, none⟩ = some (.int .u64 v) ∧ w'.cell? ⟨w.heap.size, 4, none⟩ = some (.int .u64 x) ∧ w'.cell? ⟨w.heap.size, 5, none⟩ = some (.int .u64 y) ∧ w'.cell? ⟨w.heap.size, 6, none⟩ = some (.int .i64 0) ∧ Below (w.heap.size + 1) w0 w') x' from fun x' hx => by
    obtain ⟨e0, e1, e2, e3, e4, e5, e6⟩ := (B5.below hx (Nat.lt_succ_self _)).cells
    exact ⟨e0, e1, e2, e3, e4, e5, e6, hx⟩)
  have hHeld0 := HK.out _ (z2.mono hn0)
  clear a0 a1 a2 a3 a4 a5 a6
  go_wp2_with fail
  go_region_held3 (fun w' => w'.cell? ⟨w.heap.size, 0, none⟩ = some (.int .i64 3) ∧ w'.cell? ⟨w.heap.size, 1, none⟩ = some (.int .i64 p) ∧ w'.cell? ⟨w.heap.size, 2, none⟩ = some (.int .i64 q) ∧ w'.cell? ⟨w.heap.size, 3, none⟩ = some (.int .u64 v) ∧ w'.cell? ⟨w.heap.size, 4, none⟩ = some (.int .u64 x) ∧ w'.cell? ⟨w.heap.size, 5, none⟩ = some (.int .u64 y) ∧ w'.cell? ⟨w.heap.size, 6, none⟩ = some (.int .i64 0) ∧ Below (w.heap.size + 1) w0 w') (first | with_reducible exact hd_drew HK.out (fun _ h => h.2.2.2.2.2.2.2) (by assumption) | with_reducible exact hd_alloc HK.out (fun _ h => h.2.2.2.2.2.2.2) hn0 _ (by assumption) | with_reducible exact hd_alloc_drew HK.out (fun _ h => h.2.2.2.2.2.2.2) hn0 _ (by assumption) | with_reducible exact hd_call HK.out (fun _ h => h.2.2.2.2.2.2.2) (by assumption) (by assumption) | with_reducible exact hd_set7 HK.out (fun _ h => h.2.2.2.2.2.2.2) _ _ _ _ _ _ _ (by assumption)) (first
    | (refine step_app (A := none) (n := 0) (c := 0) (B := A) (m := n) (d := c) (l := []) (k := l) ⟨_, _, rfl, rfl, rfl⟩ rfl rfl (own_nil _ _) (by first | exact HR2.out | exact HR2.out.alloc _) HN.out (by omega) (Nat.le_refl _) ?_; intro A1 c1 w3 o3 z3'; simp only [Nat.zero_add, List.nil_append] at o3 ⊢; have z3 : Below w0.heap.size w0 w3 := (by first | exact keep_call z3' z2.drew | exact keep_call z3' (z2.alloc z2.size _).drew | exact keep_call z3' (z2.drew.alloc z2.size _)); have O3 := Lib.hid o3; have Z3 := Lib.hid z3'; have sz3 := z3'.size; have hgrow := z3'.mono (Nat.le_trans hn0 (by first | exact z2.size | exact y7)); have ya3 : w.heap.size < w3.heap.size := Nat.lt_of_lt_of_le h5 z3.size; have yb3 : w.heap.size + 1 < w3.heap.size := Nat.lt_of_lt_of_le h7 z3.size; obtain ⟨d0, d1, d2, d3, d4, d5, d6⟩ := (B7.below z3 h7).cells; have fz := (B7.below z3 h7).free; clear o3 z3')
    | (refine step_app (A := A1) (n := n) (c := c1) (m := 1) (l := l) (k := [v]) ⟨_, _, rfl, rfl, rfl⟩ rfl rfl (by first | exact O3.out | exact own_alloc O3.out _) (by first | exact rd_one _ _ | exact Rd.below (w := (w2.alloc (.cells #[.int .u64 v] 23)).drew) (rd_one w2 v) Z3.out | exact Rd.below (w := (w2.drew.alloc (.cells #[.int .u64 v] 23))) (rd_one w2.drew v) Z3.out) rfl (by omega) (by first | exact sz3 | exact Nat.le_trans sz3 (by simp)) ?_; intro A5 c5 w5 o5 z5'; have z5 : Below w0.heap.size w0 w5 := (by first | exact z3.trans (z5'.mono y7) | exact z3.trans (z5'.mono z2.size) | exact (z3.alloc z3.size _).trans (z5'.mono z2.size) | exact (z3.alloc z3.size _).trans (z5'.mono y7)); have O5 := Lib.hid o5; have hgrow := z5'.mono (Nat.le_trans hn0 (by first | exact z2.size | exact y7)); have ya5 : w.heap.size < w5.heap.size := Nat.lt_of_lt_of_le h5 z5.size; have yb5 : w.heap.size + 1 < w5.heap.size := Nat.lt_of_lt_of_le h7 z5.size; obtain ⟨d0, d1, d2, d3, d4, d5, d6⟩ := (B7.below z5 h7).cells; have fz := (B7.below z5 h7).free; clear o5 z5')
    | (go_at_call 18; (refine (Tells.of (rend_any ⟨3, p, q, v, x, y, 0⟩ 1 v _) (v' := .agg #[.int .i64 3, .int .i64 0, .int .i64 q, .int .u64 v, .int .u64 0, .int .u64 0, .int .i64 1]) rfl).mono ?_); rintro _ w6 ⟨rfl, z6'⟩; have z6 := keep_call (w2 := w0) z6' z5; have Z6 := Lib.hid z6'; have hgrow := z6'.mono (Nat.le_trans hn0 z5.size); have ya6 : w.heap.size < w6.heap.size := Nat.lt_of_lt_of_le h5 z6.size; have yb6 : w.heap.size + 1 < w6.heap.size := Nat.lt_of_lt_of_le h7 z6.size; obtain ⟨d0, d1, d2, d3, d4, d5, d6⟩ := (B7.below z6 h7).cells; have fz := (B7.below z6 h7).free; clear z6'))
  all_goals
    go_wp2
    change bodyPost _ _ _ _ _ (pf w6 (w.heap.size + 1) ⟨3, 0, q, v, 0, 0, 1⟩)
    refine bodyPost_ret (results_fr Try.results11 _ rfl ((B7.below z6 h7).pf _)) rfl ?_
    exact put_fin Z hz z6 (by first | exact z2.size | exact Nat.le_trans z2.size (by simp)) O5.out Z6.out
end Go.Proofs.Ytodilnleaodnpaa
