/- Merged: StA, StB. -/
import Derived.Test.YtlpkccpijloidaaGreatNxA
namespace Go.Proofs.YtlpkccpijloidaaGreat
set_option linter.unusedSimpArgs false
set_option maxRecDepth 100000
open Go.RowKit Go.Deep
attribute [local go_sem] run_makeFunc run_store_func
theorem sload_any (g : Nat) (A : Option Addr) (c : Nat) (l : List Int) (i : Int) (w : World) (hM : Bm w g (.slice A l.length c)) (h : Rd w A l) (hs : l.length ≤ 500) : Tells 134 #[.int .i64 i, .pointer (some ⟨g, 0, none⟩)] w (.int .u64 (at0 l i)) := by
  have HS := Lib.hid hs
  have H := Lib.hid h
  have hm := hM.cell
  have hl := hM.lt
  clear hs h
  go_enter Tryz.func134, Tryz.ntmps134
  go_wp2_with fail
  refine (load_any A l.length c l i _ H.out rfl HS.out).mono ?_
  rintro _ w1 ⟨rfl, hb⟩
  have HB := Lib.hid hb
  clear hb
  go_wp2
  go_ret
  exact ⟨rfl, HB.out⟩
theorem send_any (g : Nat) (f : Fr) (r v : Int) (w : World) (hF : Bf w g f) : Calls Tryz.prog 135 #[.int .i64 r, .int .u64 v, .pointer (some ⟨g, 0, none⟩)] w (RetF w g (ed f r v)) := by
  have HF := Lib.hid hF
  obtain ⟨d0, d1, d2, d3, d4, d5, d6⟩ := hF.cells
  have hl := hF.lt
  clear hF
  go_enter Tryz.func135, Tryz.ntmps135
  go_wp2_with fail
  refine (end_any f r v _).mono ?_
  rintro _ w1 ⟨rfl, hb⟩
  have HB := Lib.hid hb
  have B1 := HF.out.after hb
  clear hb d0 d1 d2 d3 d4 d5 d6
  obtain ⟨d0, d1, d2, d3, d4, d5, d6⟩ := B1.cells
  have fz := B1.free
  have hl1 := B1.lt
  have HB1 := Lib.hid B1
  clear B1
  go_wp2
  change bodyPost _ _ _ _ _ (pf w1 g (ed f r v))
  refine bodyPost_ret (by simp [results, Tryz.results135, go_sem]; try rfl) rfl ?_
  exact ⟨rfl, HB1.out.pf _, ((Kb.refl g w).call HF.out.lt HB.out).pf _⟩
set_option maxHeartbeats 2000000 in
theorem stake_any (gm gx gf : Nat) (f : Fr) (W D J S : Int) (A : Option Addr) (c : Nat) (l : List Int) (bb : Bool) (T : List Int) (hb : isAt l (ow W D J S f.who 0) f.y = bb) (hT : (if isAt l (ow W D J S f.who 0) f.y = true then put l (ow W D J S f.who 0) ((f.y + 1) % 18446744073709551616) else l) = T) (w : World) (hM : Bm w gm (.slice A l.length c)) (hX : Bx w gx W D J S) (hF : Bf w gf f) (h : Rd w A l) (hgx : gx ≠ gm) (hgf : gf ≠ gm) (hs : l.length ≤ 500) :
    Calls Tryz.prog 136 #[.pointer (some ⟨gm, 0, none⟩), .pointer (some ⟨gx, 0, none⟩), .pointer (some ⟨gf, 0, none⟩)] w (RetV w gm l.length (.bool bb) T) := by
  have HM := Lib.hid hM
  have H := Lib.hid h
  have HS := Lib.hid hs
  obtain ⟨o, p, q, v, x, y, s⟩ := f
  have EB := Lib.hid hb
  have ET := Lib.hid hT
  clear hb hT
  have hg := hM.lt
  have lgx := hX.1
  have lgf := hF.lt
  have b0 := hM.cell
  have fz := hM.free
  have zr := Below.refl w.heap.size w
  have HK := Lib.hid (show ∀ x', Kb gm w x' → (fun w' => w'.cell? ⟨gx, 0, none⟩ = some (.int .i64 W) ∧ w'.cell? ⟨gx, 1, none⟩ = some (.int .i64 D) ∧ w'.cell? ⟨gx, 2, none⟩ = some (.int .i64 J) ∧ w'.cell? ⟨gx, 3, none⟩ = some (.int .i64 S) ∧ w'.cell? ⟨gf, 2, none⟩ = some (.int .i64 q) ∧ w'.cell? ⟨gf, 5, none⟩ = some (.int .u64 y) ∧ Kb gm w w') x' from fun x' hx => by
    obtain ⟨_, e0, e1, e2, e3⟩ := hX.kb hx hgx
    obtain ⟨d0, d1, d2, d3, d4, d5, d6⟩ := (hF.kb hx hgf).cells
    exact ⟨e0, e1, e2, e3, d2, d5, hx⟩)
  have hHeld0 := HK.out _ (Kb.refl gm w)
  clear hM h hs hX hF
  go_enter Tryz.func136, Tryz.ntmps136
  go_wp2_with fail
  refine wp_region_held_drew (S := fun w' => w'.cell? ⟨gx, 0, none⟩ = some (.int .i64 W) ∧ w'.cell? ⟨gx, 1, none⟩ = some (.int .i64 D) ∧ w'.cell? ⟨gx, 2, none⟩ = some (.int .i64 J) ∧ w'.cell? ⟨gx, 3, none⟩ = some (.int .i64 S) ∧ w'.cell? ⟨gf, 2, none⟩ = some (.int .i64 q) ∧ w'.cell? ⟨gf, 5, none⟩ = some (.int .u64 y) ∧ Kb gm w w') (by kernel_rfl) (kb_drew HK.out (fun _ h => h.2.2.2.2.2.2) hHeld0) (fun hHeld => ?_)
  refine tkH 1 (v := ?vtkq1) rfl ?ytkq1 ?rtkq1
  case ytkq1 => (intro w hSw; (try dsimp only at hSw); go_simp; (try with_reducible rfl))
  (try simp only [Act.put, jA, jB, jC])
  refine tkH 2 (v := ?vtkq2) rfl ?ytkq2 ?rtkq2
  case ytkq2 => (intro w hSw; (try dsimp only at hSw); go_simp; (try with_reducible rfl))
  (try simp only [Act.put, jA, jB, jC])
  refine tkH 3 (v := ?vtkq3) rfl ?ytkq3 ?rtkq3
  case ytkq3 => (intro w hSw; (try dsimp only at hSw); go_simp; (try with_reducible rfl))
  (try simp only [Act.put, jA, jB, jC])
  refine tkH 5 (v := ?vtkq4) rfl ?ytkq4 ?rtkq4
  case ytkq4 => (intro w hSw; (try dsimp only at hSw); go_simp; (try with_reducible rfl))
  (try simp only [Act.put, jA, jB, jC])
  refine tkH 6 (v := ?vtkq5) rfl ?ytkq5 ?rtkq5
  case ytkq5 => (intro w hSw; (try dsimp only at hSw); go_simp; (try with_reducible rfl))
  (try simp only [Act.put, jA, jB, jC])
  refine tkH 7 (v := ?vtkq6) rfl ?ytkq6 ?rtkq6
  case ytkq6 => (intro w hSw; (try dsimp only at hSw); go_simp; (try with_reducible rfl))
  (try simp only [Act.put, jA, jB, jC])
  refine tkH 8 (v := ?vtkq7) rfl ?ytkq7 ?rtkq7
  case ytkq7 => (intro w hSw; (try dsimp only at hSw); go_simp; (try with_reducible rfl))
  (try simp only [Act.put, jA, jB, jC])
  refine tkH 9 (v := ?vtkq8) rfl ?ytkq8 ?rtkq8
  case ytkq8 => (intro w hSw; (try dsimp only at hSw); go_simp; (try with_reducible rfl))
  (try simp only [Act.put, jA, jB, jC])
  refine wpAnyH_ready (rs := [0, 4]) (by kernel_rfl) (by simp) ?_
  refine (AllReadyH.cons rfl (fun K hK => ?_) (AllReadyH.cons rfl (fun K hK => ?_) AllReadyH.nil))
  · go_simp
    refine hK.out _ _ (hHeld) (fun hHeld2 => ?_)
    clear hK K hHeld
    have hHeld := hHeld2
    clear hHeld2
    (try simp only [Act.put, jA, jB, jC])
    refine wpAnyH_ready (rs := [4]) (by kernel_rfl) (by simp) ?_
    refine (AllReadyH.cons rfl (fun K hK => ?_) AllReadyH.nil)
    go_simp
    refine (top_any W D J S q _).mono ?_
    rintro e w1 ⟨rfl, hb⟩
    go_wp2_with fail
    have z1 := keep_call (w2 := w) hb zr.drew
    have Z1 := Lib.hid z1
    have b0 := (HM.out.after z1).cell
    have lm := (HM.out.after z1).lt
    have fz := (HM.out.after z1).free
    refine hK.out _ _ (kb_call HK.out (fun _ h => h.2.2.2.2.2.2) hg hb hHeld) (fun hHeld2 => ?_)
    clear hK K hHeld
    have hHeld := hHeld2
    clear hHeld2
    (try simp only [Act.put, jA, jB, jC])
    refine wpAnyH_ready (rs := [10]) (by kernel_rfl) (by simp) ?_
    refine (AllReadyH.cons rfl (fun K hK => ?_) AllReadyH.nil)
    go_simp
    refine (casn_n (H.out.below Z1.out) rfl HS.out EB.out ET.out).mono ?_
    rintro e w2 ⟨k, rfl, hk0, hk, hb2⟩
    go_wp2_with fail
    have HLO := Lib.hid (Nat.le_trans Z1.out.size hk0)
    have HKK := Lib.hid hk
    have z2 := keep_call (w2 := w) hb2 Z1.out
    have Z2 := Lib.hid z2
    have b0 := (HM.out.after z2).cell
    have lm := (HM.out.after z2).lt
    have fz := (HM.out.after z2).free
    clear hk hk0
    refine hK.out _ _ (kb_call HK.out (fun _ h => h.2.2.2.2.2.2) hg hb2 hHeld) (fun hHeld2 => ?_)
    clear hK K hHeld
    have hHeld := hHeld2
    clear hHeld2
    (try simp only [Act.put, jA, jB, jC])
    refine tkH 11 (v := ?vtkq9) rfl ?ytkq9 ?rtkq9
    case ytkq9 => (intro w hSw; (try dsimp only at hSw); go_simp; (try with_reducible rfl))
    (try simp only [Act.put, jA, jB, jC])
    refine tkH 12 (v := ?vtkq10) rfl ?ytkq10 ?rtkq10
    case ytkq10 => (intro w hSw; (try dsimp only at hSw); go_simp; (try with_reducible rfl))
    (try simp only [Act.put, jA, jB, jC])
    refine tkH 13 (v := ?vtkq11) rfl ?ytkq11 ?rtkq11
    case ytkq11 => (intro w hSw; (try dsimp only at hSw); go_simp; (try with_reducible rfl))
    (try simp only [Act.put, jA, jB, jC])
    refine wpAnyH_ready (rs := [14]) (by kernel_rfl) (by simp) ?_
    refine (AllReadyH.cons rfl (fun K hK => ?_) AllReadyH.nil)
    go_simp
    refine hK.out _ _ (kb_set HK.out (fun _ h => h.2.2.2.2.2.2) 0 _ hHeld) (fun hHeld2 => ?_)
    clear hK K hHeld
    have hHeld := hHeld2
    clear hHeld2
    (try simp only [Act.put, jA, jB, jC])
    refine tkH 15 (v := ?vtkq12) rfl ?ytkq12 ?rtkq12
    case ytkq12 => (intro w hSw; (try dsimp only at hSw); go_simp; (try with_reducible rfl))
    (try simp only [Act.put, jA, jB, jC])
    refine wpAnyH_done (by kernel_rfl) ?_ _
    have HKB := Lib.hid (hHeld.2.2.2.2.2.2)
    clear hHeld
    go_wp2
    refine bodyPost_ret (by simp [results, Tryz.results136, go_sem]; try rfl) rfl ?_
    exact ⟨k, rfl, HLO.out, Bk.other (k := k) (g := gm) HKK.out (by have := HLO.out; omega) _, (HM.out.after Z2.out).set _, HKB.out⟩
  · go_simp
    refine (top_any W D J S q _).mono ?_
    rintro e w1 ⟨rfl, hb⟩
    go_wp2_with fail
    have z1 := keep_call (w2 := w) hb zr.drew
    have Z1 := Lib.hid z1
    have b0 := (HM.out.after z1).cell
    have lm := (HM.out.after z1).lt
    have fz := (HM.out.after z1).free
    refine hK.out _ _ (kb_call HK.out (fun _ h => h.2.2.2.2.2.2) hg hb hHeld) (fun hHeld2 => ?_)
    clear hK K hHeld
    have hHeld := hHeld2
    clear hHeld2
    (try simp only [Act.put, jA, jB, jC])
    refine wpAnyH_ready (rs := [0]) (by kernel_rfl) (by simp) ?_
    refine (AllReadyH.cons rfl (fun K hK => ?_) AllReadyH.nil)
    go_simp
    refine hK.out _ _ (hHeld) (fun hHeld2 => ?_)
    clear hK K hHeld
    have hHeld := hHeld2
    clear hHeld2
    (try simp only [Act.put, jA, jB, jC])
    refine wpAnyH_ready (rs := [10]) (by kernel_rfl) (by simp) ?_
    refine (AllReadyH.cons rfl (fun K hK => ?_) AllReadyH.nil)
    go_simp
    refine (casn_n (H.out.below Z1.out) rfl HS.out EB.out ET.out).mono ?_
    rintro e w2 ⟨k, rfl, hk0, hk, hb2⟩
    go_wp2_with fail
    have HLO := Lib.hid (Nat.le_trans Z1.out.size hk0)
    have HKK := Lib.hid hk
    have z2 := keep_call (w2 := w) hb2 Z1.out
    have Z2 := Lib.hid z2
    have b0 := (HM.out.after z2).cell
    have lm := (HM.out.after z2).lt
    have fz := (HM.out.after z2).free
    clear hk hk0
    refine hK.out _ _ (kb_call HK.out (fun _ h => h.2.2.2.2.2.2) hg hb2 hHeld) (fun hHeld2 => ?_)
    clear hK K hHeld
    have hHeld := hHeld2
    clear hHeld2
    (try simp only [Act.put, jA, jB, jC])
    refine tkH 11 (v := ?vtkq13) rfl ?ytkq13 ?rtkq13
    case ytkq13 => (intro w hSw; (try dsimp only at hSw); go_simp; (try with_reducible rfl))
    (try simp only [Act.put, jA, jB, jC])
    refine tkH 12 (v := ?vtkq14) rfl ?ytkq14 ?rtkq14
    case ytkq14 => (intro w hSw; (try dsimp only at hSw); go_simp; (try with_reducible rfl))
    (try simp only [Act.put, jA, jB, jC])
    refine tkH 13 (v := ?vtkq15) rfl ?ytkq15 ?rtkq15
    case ytkq15 => (intro w hSw; (try dsimp only at hSw); go_simp; (try with_reducible rfl))
    (try simp only [Act.put, jA, jB, jC])
    refine wpAnyH_ready (rs := [14]) (by kernel_rfl) (by simp) ?_
    refine (AllReadyH.cons rfl (fun K hK => ?_) AllReadyH.nil)
    go_simp
    refine hK.out _ _ (kb_set HK.out (fun _ h => h.2.2.2.2.2.2) 0 _ hHeld) (fun hHeld2 => ?_)
    clear hK K hHeld
    have hHeld := hHeld2
    clear hHeld2
    (try simp only [Act.put, jA, jB, jC])
    refine tkH 15 (v := ?vtkq16) rfl ?ytkq16 ?rtkq16
    case ytkq16 => (intro w hSw; (try dsimp only at hSw); go_simp; (try with_reducible rfl))
    (try simp only [Act.put, jA, jB, jC])
    refine wpAnyH_done (by kernel_rfl) ?_ _
    have HKB := Lib.hid (hHeld.2.2.2.2.2.2)
    clear hHeld
    go_wp2
    refine bodyPost_ret (by simp [results, Tryz.results136, go_sem]; try rfl) rfl ?_
    exact ⟨k, rfl, HLO.out, Bk.other (k := k) (g := gm) HKK.out (by have := HLO.out; omega) _, (HM.out.after Z2.out).set _, HKB.out⟩
/-- What the last deed leaves. -/
def RetX (w : World) (gm gf n : Nat) (T : List Int) (f : Fr) (e : Ending) (w' : World) : Prop :=
  ∃ w1 k, e = .returned (.tuple #[]) ∧ w.heap.size ≤ k ∧ Bk w1 k T ∧ Bm w1 gm (.slice (some ⟨k, 0, none⟩) n n) ∧ Kb gm w w1 ∧ Bf w' gf f ∧ Kb gf w1 w'
theorem sload_n {g : Nat} {A : Option Addr} {n c : Nat} {l : List Int} {i : Int} {w : World} (hM : Bm w g (.slice A n c)) (h : Rd w A l) (hn : l.length = n) (hs : n ≤ 500) : Tells 134 #[.int .i64 i, .pointer (some ⟨g, 0, none⟩)] w (.int .u64 (at0 l i)) := by
  subst hn
  exact sload_any g A c l i w hM h hs
theorem stake_n {gm gx gf : Nat} {f : Fr} {W D J S : Int} {A : Option Addr} {n c : Nat} {l : List Int} {bb : Bool} {T : List Int} {w : World} (hM : Bm w gm (.slice A n c)) (hX : Bx w gx W D J S) (hF : Bf w gf f) (h : Rd w A l) (hn : l.length = n) (hgx : gx ≠ gm) (hgf : gf ≠ gm) (hs : n ≤ 500)
    (hb : isAt l (ow W D J S f.who 0) f.y = bb) (hT : (if isAt l (ow W D J S f.who 0) f.y = true then put l (ow W D J S f.who 0) ((f.y + 1) % 18446744073709551616) else l) = T) :
    Calls Tryz.prog 136 #[.pointer (some ⟨gm, 0, none⟩), .pointer (some ⟨gx, 0, none⟩), .pointer (some ⟨gf, 0, none⟩)] w (RetV w gm n (.bool bb) T) := by
  subst hn
  exact stake_any gm gx gf f W D J S A c l bb T hb hT w hM hX hF h hgx hgf hs
set_option maxHeartbeats 2000000 in
theorem deed_top (gl gm gx gf : Nat) (f : Fr) (W D J S : Int) (A : Option Addr) (n c : Nat) (l : List Int) (w : World) (hL : Bv w gl (.func (.func 134) #[] #[.pointer (some ⟨gm, 0, none⟩)]) 139) (hM : Bm w gm (.slice A n c)) (hX : Bx w gx W D J S) (hF : Bf w gf f) (h : Rd w A l) (hn : l.length = n) (hgl : gl ≠ gf) (hgx : gx ≠ gf) (hs : n ≤ 500) :
    Calls Tryz.prog 137 #[.pointer (some ⟨gl, 0, none⟩), .pointer (some ⟨gx, 0, none⟩), .pointer (some ⟨gf, 0, none⟩)] w (RetF w gf { f with y := at0 l (ow W D J S f.who 0) }) := by
  have HM := Lib.hid hM
  have HF := Lib.hid hF
  have H := Lib.hid h
  have HN := Lib.hid hn
  have HS := Lib.hid hs
  obtain ⟨o, p, q, v, x, y, s⟩ := f
  have hg := hF.lt
  have lgx := hX.1
  have lgl := hL.lt
  have lgm := hM.lt
  have fz := hF.free
  have zr := Below.refl w.heap.size w
  have HK := Lib.hid (show ∀ x', Kx gf 5 w x' → (fun w' => w'.cell? ⟨gx, 0, none⟩ = some (.int .i64 W) ∧ w'.cell? ⟨gx, 1, none⟩ = some (.int .i64 D) ∧ w'.cell? ⟨gx, 2, none⟩ = some (.int .i64 J) ∧ w'.cell? ⟨gx, 3, none⟩ = some (.int .i64 S) ∧ w'.cell? ⟨gl, 0, none⟩ = some (.func (.func 134) #[] #[.pointer (some ⟨gm, 0, none⟩)]) ∧ w'.cell? ⟨gf, 2, none⟩ = some (.int .i64 q) ∧ Kx gf 5 w w') x' from fun x' hx => by
    have e : x'.heap[gx]? = w.heap[gx]? := hx.others gx hX.1 hgx
    obtain ⟨_, e0, e1, e2, e3⟩ := hX
    have k : x'.heap[gl]? = w.heap[gl]? := hx.others gl hL.lt hgl
    obtain ⟨d0, d1, d2, d3, d4, d5, d6⟩ := hF.cells
    exact ⟨(World.cell?_of_block e).trans e0, (World.cell?_of_block e).trans e1, (World.cell?_of_block e).trans e2, (World.cell?_of_block e).trans e3, (World.cell?_of_block k).trans hL.cell, (hx.cells 2 (by decide)).trans d2, hx⟩)
  have hHeld0 := HK.out _ (Kx.refl gf 5 w)
  clear hM h hn hs hX hF hL
  go_enter Tryz.func137, Tryz.ntmps137
  go_wp2_with fail
  refine wp_region_held_drew (S := fun w' => w'.cell? ⟨gx, 0, none⟩ = some (.int .i64 W) ∧ w'.cell? ⟨gx, 1, none⟩ = some (.int .i64 D) ∧ w'.cell? ⟨gx, 2, none⟩ = some (.int .i64 J) ∧ w'.cell? ⟨gx, 3, none⟩ = some (.int .i64 S) ∧ w'.cell? ⟨gl, 0, none⟩ = some (.func (.func 134) #[] #[.pointer (some ⟨gm, 0, none⟩)]) ∧ w'.cell? ⟨gf, 2, none⟩ = some (.int .i64 q) ∧ Kx gf 5 w w') (by kernel_rfl) (kx_drew HK.out (fun _ h => h.2.2.2.2.2.2) hHeld0) (fun hHeld => ?_)
  refine tkH 0 (v := ?vdeeq1) rfl ?ydeeq1 ?rdeeq1
  case ydeeq1 => (intro w hSw; (try dsimp only at hSw); go_simp; (try with_reducible rfl))
  (try simp only [Act.put, jA, jB, jC])
  refine tkH 1 (v := ?vdeeq2) rfl ?ydeeq2 ?rdeeq2
  case ydeeq2 => (intro w hSw; (try dsimp only at hSw); go_simp; (try with_reducible rfl))
  (try simp only [Act.put, jA, jB, jC])
  refine tkH 2 (v := ?vdeeq3) rfl ?ydeeq3 ?rdeeq3
  case ydeeq3 => (intro w hSw; (try dsimp only at hSw); go_simp; (try with_reducible rfl))
  (try simp only [Act.put, jA, jB, jC])
  refine tkH 3 (v := ?vdeeq4) rfl ?ydeeq4 ?rdeeq4
  case ydeeq4 => (intro w hSw; (try dsimp only at hSw); go_simp; (try with_reducible rfl))
  (try simp only [Act.put, jA, jB, jC])
  refine wpAnyH_ready (rs := [4]) (by kernel_rfl) (by simp) ?_
  refine (AllReadyH.cons rfl (fun K hK => ?_) AllReadyH.nil)
  go_simp
  refine (top_any W D J S q _).mono ?_
  rintro e w1 ⟨rfl, hb⟩
  go_wp2_with fail
  have z1 := keep_call (w2 := w) hb zr.drew
  have Z1 := Lib.hid z1
  have lf := (HF.out.after z1).lt
  have fz := (HF.out.after z1).free
  have lm := (HM.out.after z1).lt
  refine hK.out _ _ (kx_call HK.out (fun _ h => h.2.2.2.2.2.2) hg hb hHeld) (fun hHeld2 => ?_)
  clear hK K hHeld
  have hHeld := hHeld2
  clear hHeld2
  (try simp only [Act.put, jA, jB, jC])
  refine wpAnyH_ready (rs := [5]) (by kernel_rfl) (by simp) ?_
  refine (AllReadyH.cons rfl (fun K hK => ?_) AllReadyH.nil)
  go_simp
  refine (sload_n (HM.out.after Z1.out) (H.out.below Z1.out) HN.out HS.out).mono ?_
  rintro e w2 ⟨rfl, hb2⟩
  go_wp2_with fail
  have z2 := keep_call (w2 := w) hb2 Z1.out
  have Z2 := Lib.hid z2
  have lf := (HF.out.after z2).lt
  obtain ⟨c0, c1, c2, c3, c4, c5, c6⟩ := (HF.out.after z2).cells
  have fz := (HF.out.after z2).free
  have lm := (HM.out.after z2).lt
  refine hK.out _ _ (kx_call HK.out (fun _ h => h.2.2.2.2.2.2) hg hb2 hHeld) (fun hHeld2 => ?_)
  clear hK K hHeld
  have hHeld := hHeld2
  clear hHeld2
  (try simp only [Act.put, jA, jB, jC])
  refine tkH 6 (v := ?vdeeq5) rfl ?ydeeq5 ?rdeeq5
  case ydeeq5 => (intro w hSw; (try dsimp only at hSw); go_simp; (try with_reducible rfl))
  (try simp only [Act.put, jA, jB, jC])
  refine wpAnyH_ready (rs := [7]) (by kernel_rfl) (by simp) ?_
  refine (AllReadyH.cons rfl (fun K hK => ?_) AllReadyH.nil)
  go_simp
  refine hK.out _ _ (kx_set HK.out (fun _ h => h.2.2.2.2.2.2) _ hHeld) (fun hHeld2 => ?_)
  clear hK K hHeld
  have hHeld := hHeld2
  clear hHeld2
  (try simp only [Act.put, jA, jB, jC])
  refine wpAnyH_done (by kernel_rfl) ?_ _
  clear hHeld
  go_wp2
  refine bodyPost_ret (by simp [results, Tryz.results137, go_sem]; try rfl) rfl ?_
  exact ⟨rfl, (HF.out.after Z2.out).wY _, (((Kb.refl gf w).call hg Z2.out).set 5 _)⟩
set_option maxHeartbeats 2000000 in
theorem deed_val (gl gm gx gf : Nat) (f : Fr) (W D J S : Int) (A : Option Addr) (n c : Nat) (l : List Int) (hu : U f.y) (w : World) (hL : Bv w gl (.func (.func 134) #[] #[.pointer (some ⟨gm, 0, none⟩)]) 139) (hM : Bm w gm (.slice A n c)) (hX : Bx w gx W D J S) (hF : Bf w gf f) (h : Rd w A l) (hn : l.length = n) (hgl : gl ≠ gf) (hgx : gx ≠ gf) (hs : n ≤ 500) :
    Calls Tryz.prog 139 #[.pointer (some ⟨gl, 0, none⟩), .pointer (some ⟨gx, 0, none⟩), .pointer (some ⟨gf, 0, none⟩)] w (RetF w gf { f with val := at0 l (sl W D J S f.who f.y) }) := by
  have HM := Lib.hid hM
  have HF := Lib.hid hF
  have H := Lib.hid h
  have HN := Lib.hid hn
  have HS := Lib.hid hs
  obtain ⟨o, p, q, v, x, y, s⟩ := f
  have HU := Lib.hid hu
  clear hu
  have hg := hF.lt
  have lgx := hX.1
  have lgl := hL.lt
  have lgm := hM.lt
  have fz := hF.free
  have zr := Below.refl w.heap.size w
  have HK := Lib.hid (show ∀ x', Kx gf 3 w x' → (fun w' => w'.cell? ⟨gx, 0, none⟩ = some (.int .i64 W) ∧ w'.cell? ⟨gx, 1, none⟩ = some (.int .i64 D) ∧ w'.cell? ⟨gx, 2, none⟩ = some (.int .i64 J) ∧ w'.cell? ⟨gx, 3, none⟩ = some (.int .i64 S) ∧ w'.cell? ⟨gl, 0, none⟩ = some (.func (.func 134) #[] #[.pointer (some ⟨gm, 0, none⟩)]) ∧ w'.cell? ⟨gf, 2, none⟩ = some (.int .i64 q) ∧ w'.cell? ⟨gf, 5, none⟩ = some (.int .u64 y) ∧ Kx gf 3 w w') x' from fun x' hx => by
    have e : x'.heap[gx]? = w.heap[gx]? := hx.others gx hX.1 hgx
    obtain ⟨_, e0, e1, e2, e3⟩ := hX
    have k : x'.heap[gl]? = w.heap[gl]? := hx.others gl hL.lt hgl
    obtain ⟨d0, d1, d2, d3, d4, d5, d6⟩ := hF.cells
    exact ⟨(World.cell?_of_block e).trans e0, (World.cell?_of_block e).trans e1, (World.cell?_of_block e).trans e2, (World.cell?_of_block e).trans e3, (World.cell?_of_block k).trans hL.cell, (hx.cells 2 (by decide)).trans d2, (hx.cells 5 (by decide)).trans d5, hx⟩)
  have hHeld0 := HK.out _ (Kx.refl gf 3 w)
  clear hM h hn hs hX hF hL
  go_enter Tryz.func139, Tryz.ntmps139
  go_wp2_with fail
  refine wp_region_held_drew (S := fun w' => w'.cell? ⟨gx, 0, none⟩ = some (.int .i64 W) ∧ w'.cell? ⟨gx, 1, none⟩ = some (.int .i64 D) ∧ w'.cell? ⟨gx, 2, none⟩ = some (.int .i64 J) ∧ w'.cell? ⟨gx, 3, none⟩ = some (.int .i64 S) ∧ w'.cell? ⟨gl, 0, none⟩ = some (.func (.func 134) #[] #[.pointer (some ⟨gm, 0, none⟩)]) ∧ w'.cell? ⟨gf, 2, none⟩ = some (.int .i64 q) ∧ w'.cell? ⟨gf, 5, none⟩ = some (.int .u64 y) ∧ Kx gf 3 w w') (by kernel_rfl) (kx_drew HK.out (fun _ h => h.2.2.2.2.2.2.2) hHeld0) (fun hHeld => ?_)
  refine tkH 0 (v := ?vdeeq1) rfl ?ydeeq1 ?rdeeq1
  case ydeeq1 => (intro w hSw; (try dsimp only at hSw); go_simp; (try with_reducible rfl))
  (try simp only [Act.put, jA, jB, jC])
  refine tkH 1 (v := ?vdeeq2) rfl ?ydeeq2 ?rdeeq2
  case ydeeq2 => (intro w hSw; (try dsimp only at hSw); go_simp; (try with_reducible rfl))
  (try simp only [Act.put, jA, jB, jC])
  refine tkH 2 (v := ?vdeeq3) rfl ?ydeeq3 ?rdeeq3
  case ydeeq3 => (intro w hSw; (try dsimp only at hSw); go_simp; (try with_reducible rfl))
  (try simp only [Act.put, jA, jB, jC])
  refine tkH 3 (v := ?vdeeq4) rfl ?ydeeq4 ?rdeeq4
  case ydeeq4 => (intro w hSw; (try dsimp only at hSw); go_simp; (try with_reducible rfl))
  (try simp only [Act.put, jA, jB, jC])
  refine tkH 4 (v := ?vdeeq5) rfl ?ydeeq5 ?rdeeq5
  case ydeeq5 => (intro w hSw; (try dsimp only at hSw); go_simp; (try with_reducible rfl))
  (try simp only [Act.put, jA, jB, jC])
  refine tkH 5 (v := ?vdeeq6) rfl ?ydeeq6 ?rdeeq6
  case ydeeq6 => (intro w hSw; (try dsimp only at hSw); go_simp; (try with_reducible rfl))
  (try simp only [Act.put, jA, jB, jC])
  refine wpAnyH_ready (rs := [6]) (by kernel_rfl) (by simp) ?_
  refine (AllReadyH.cons rfl (fun K hK => ?_) AllReadyH.nil)
  go_simp
  refine (slot_any W D J S q y _ HU.out).mono ?_
  rintro e w1 ⟨rfl, hb⟩
  go_wp2_with fail
  have z1 := keep_call (w2 := w) hb zr.drew
  have Z1 := Lib.hid z1
  have lf := (HF.out.after z1).lt
  have fz := (HF.out.after z1).free
  have lm := (HM.out.after z1).lt
  refine hK.out _ _ (kx_call HK.out (fun _ h => h.2.2.2.2.2.2.2) hg hb hHeld) (fun hHeld2 => ?_)
  clear hK K hHeld
  have hHeld := hHeld2
  clear hHeld2
  (try simp only [Act.put, jA, jB, jC])
  refine wpAnyH_ready (rs := [7]) (by kernel_rfl) (by simp) ?_
  refine (AllReadyH.cons rfl (fun K hK => ?_) AllReadyH.nil)
  go_simp
  refine (sload_n (HM.out.after Z1.out) (H.out.below Z1.out) HN.out HS.out).mono ?_
  rintro e w2 ⟨rfl, hb2⟩
  go_wp2_with fail
  have z2 := keep_call (w2 := w) hb2 Z1.out
  have Z2 := Lib.hid z2
  have lf := (HF.out.after z2).lt
  obtain ⟨c0, c1, c2, c3, c4, c5, c6⟩ := (HF.out.after z2).cells
  have fz := (HF.out.after z2).free
  have lm := (HM.out.after z2).lt
  refine hK.out _ _ (kx_call HK.out (fun _ h => h.2.2.2.2.2.2.2) hg hb2 hHeld) (fun hHeld2 => ?_)
  clear hK K hHeld
  have hHeld := hHeld2
  clear hHeld2
  (try simp only [Act.put, jA, jB, jC])
  refine tkH 8 (v := ?vdeeq7) rfl ?ydeeq7 ?rdeeq7
  case ydeeq7 => (intro w hSw; (try dsimp only at hSw); go_simp; (try with_reducible rfl))
  (try simp only [Act.put, jA, jB, jC])
  refine wpAnyH_ready (rs := [9]) (by kernel_rfl) (by simp) ?_
  refine (AllReadyH.cons rfl (fun K hK => ?_) AllReadyH.nil)
  go_simp
  refine hK.out _ _ (kx_set HK.out (fun _ h => h.2.2.2.2.2.2.2) _ hHeld) (fun hHeld2 => ?_)
  clear hK K hHeld
  have hHeld := hHeld2
  clear hHeld2
  (try simp only [Act.put, jA, jB, jC])
  refine wpAnyH_done (by kernel_rfl) ?_ _
  clear hHeld
  go_wp2
  refine bodyPost_ret (by simp [results, Tryz.results139, go_sem]; try rfl) rfl ?_
  exact ⟨rfl, (HF.out.after Z2.out).wVal _, (((Kb.refl gf w).call hg Z2.out).set 3 _)⟩
set_option maxHeartbeats 2000000 in
theorem deed_bott (gl gm gx gf ge : Nat) (f : Fr) (W D J S : Int) (A : Option Addr) (n c : Nat) (l : List Int) (hd : decide (far (at0 l (ow W D J S f.who 1)) f.y ≤ 0) = true) (w : World) (hL : Bv w gl (.func (.func 134) #[] #[.pointer (some ⟨gm, 0, none⟩)]) 139) (hM : Bm w gm (.slice A n c)) (hX : Bx w gx W D J S) (hF : Bf w gf f) (h : Rd w A l) (hn : l.length = n) (hE : Bv w ge (.func (.func 135) #[] #[.pointer (some ⟨gf, 0, none⟩)]) 146) (hge : ge ≠ gf) (hgl : gl ≠ gf) (hgx : gx ≠ gf) (hs : n ≤ 500) :
    Calls Tryz.prog 138 #[.pointer (some ⟨gl, 0, none⟩), .pointer (some ⟨gx, 0, none⟩), .pointer (some ⟨gf, 0, none⟩), .pointer (some ⟨ge, 0, none⟩)] w (RetF w gf (ed { f with x := at0 l (ow W D J S f.who 1) } 3 0)) := by
  have HM := Lib.hid hM
  have HF := Lib.hid hF
  have H := Lib.hid h
  have HN := Lib.hid hn
  have HS := Lib.hid hs
  obtain ⟨o, p, q, v, x, y, s⟩ := f
  have HD := Lib.hid hd
  clear hd
  have HE := Lib.hid hE
  have hge := Lib.hid hge
  have hg := hF.lt
  have lgx := hX.1
  have lgl := hL.lt
  have lgm := hM.lt
  have fz := hF.free
  have zr := Below.refl w.heap.size w
  have HK := Lib.hid (show ∀ x', Kx gf 4 w x' → (fun w' => w'.cell? ⟨gx, 0, none⟩ = some (.int .i64 W) ∧ w'.cell? ⟨gx, 1, none⟩ = some (.int .i64 D) ∧ w'.cell? ⟨gx, 2, none⟩ = some (.int .i64 J) ∧ w'.cell? ⟨gx, 3, none⟩ = some (.int .i64 S) ∧ w'.cell? ⟨gl, 0, none⟩ = some (.func (.func 134) #[] #[.pointer (some ⟨gm, 0, none⟩)]) ∧ w'.cell? ⟨gf, 2, none⟩ = some (.int .i64 q) ∧ Kx gf 4 w w') x' from fun x' hx => by
    have e : x'.heap[gx]? = w.heap[gx]? := hx.others gx hX.1 hgx
    obtain ⟨_, e0, e1, e2, e3⟩ := hX
    have k : x'.heap[gl]? = w.heap[gl]? := hx.others gl hL.lt hgl
    obtain ⟨d0, d1, d2, d3, d4, d5, d6⟩ := hF.cells
    exact ⟨(World.cell?_of_block e).trans e0, (World.cell?_of_block e).trans e1, (World.cell?_of_block e).trans e2, (World.cell?_of_block e).trans e3, (World.cell?_of_block k).trans hL.cell, (hx.cells 2 (by decide)).trans d2, hx⟩)
  have hHeld0 := HK.out _ (Kx.refl gf 4 w)
  clear hM h hn hs hX hF hL hE
  go_enter Tryz.func138, Tryz.ntmps138
  go_wp2_with fail
  refine wp_region_held_drew (S := fun w' => w'.cell? ⟨gx, 0, none⟩ = some (.int .i64 W) ∧ w'.cell? ⟨gx, 1, none⟩ = some (.int .i64 D) ∧ w'.cell? ⟨gx, 2, none⟩ = some (.int .i64 J) ∧ w'.cell? ⟨gx, 3, none⟩ = some (.int .i64 S) ∧ w'.cell? ⟨gl, 0, none⟩ = some (.func (.func 134) #[] #[.pointer (some ⟨gm, 0, none⟩)]) ∧ w'.cell? ⟨gf, 2, none⟩ = some (.int .i64 q) ∧ Kx gf 4 w w') (by kernel_rfl) (kx_drew HK.out (fun _ h => h.2.2.2.2.2.2) hHeld0) (fun hHeld => ?_)
  refine tkH 0 (v := ?vdeeq1) rfl ?ydeeq1 ?rdeeq1
  case ydeeq1 => (intro w hSw; (try dsimp only at hSw); go_simp; (try with_reducible rfl))
  (try simp only [Act.put, jA, jB, jC])
  refine tkH 1 (v := ?vdeeq2) rfl ?ydeeq2 ?rdeeq2
  case ydeeq2 => (intro w hSw; (try dsimp only at hSw); go_simp; (try with_reducible rfl))
  (try simp only [Act.put, jA, jB, jC])
  refine tkH 2 (v := ?vdeeq3) rfl ?ydeeq3 ?rdeeq3
  case ydeeq3 => (intro w hSw; (try dsimp only at hSw); go_simp; (try with_reducible rfl))
  (try simp only [Act.put, jA, jB, jC])
  refine tkH 3 (v := ?vdeeq4) rfl ?ydeeq4 ?rdeeq4
  case ydeeq4 => (intro w hSw; (try dsimp only at hSw); go_simp; (try with_reducible rfl))
  (try simp only [Act.put, jA, jB, jC])
  refine wpAnyH_ready (rs := [4]) (by kernel_rfl) (by simp) ?_
  refine (AllReadyH.cons rfl (fun K hK => ?_) AllReadyH.nil)
  go_simp
  refine (bottom_any W D J S q _).mono ?_
  rintro e w1 ⟨rfl, hb⟩
  go_wp2_with fail
  have z1 := keep_call (w2 := w) hb zr.drew
  have Z1 := Lib.hid z1
  have lf := (HF.out.after z1).lt
  have fz := (HF.out.after z1).free
  have lm := (HM.out.after z1).lt
  refine hK.out _ _ (kx_call HK.out (fun _ h => h.2.2.2.2.2.2) hg hb hHeld) (fun hHeld2 => ?_)
  clear hK K hHeld
  have hHeld := hHeld2
  clear hHeld2
  (try simp only [Act.put, jA, jB, jC])
  refine wpAnyH_ready (rs := [5]) (by kernel_rfl) (by simp) ?_
  refine (AllReadyH.cons rfl (fun K hK => ?_) AllReadyH.nil)
  go_simp
  refine (sload_n (HM.out.after Z1.out) (H.out.below Z1.out) HN.out HS.out).mono ?_
  rintro e w2 ⟨rfl, hb2⟩
  go_wp2_with fail
  have z2 := keep_call (w2 := w) hb2 Z1.out
  have Z2 := Lib.hid z2
  have lf := (HF.out.after z2).lt
  obtain ⟨c0, c1, c2, c3, c4, c5, c6⟩ := (HF.out.after z2).cells
  have fz := (HF.out.after z2).free
  have lm := (HM.out.after z2).lt
  refine hK.out _ _ (kx_call HK.out (fun _ h => h.2.2.2.2.2.2) hg hb2 hHeld) (fun hHeld2 => ?_)
  clear hK K hHeld
  have hHeld := hHeld2
  clear hHeld2
  (try simp only [Act.put, jA, jB, jC])
  refine tkH 6 (v := ?vdeeq5) rfl ?ydeeq5 ?rdeeq5
  case ydeeq5 => (intro w hSw; (try dsimp only at hSw); go_simp; (try with_reducible rfl))
  (try simp only [Act.put, jA, jB, jC])
  refine wpAnyH_ready (rs := [7]) (by kernel_rfl) (by simp) ?_
  refine (AllReadyH.cons rfl (fun K hK => ?_) AllReadyH.nil)
  go_simp
  refine hK.out _ _ (kx_set HK.out (fun _ h => h.2.2.2.2.2.2) _ hHeld) (fun hHeld2 => ?_)
  clear hK K hHeld
  have hHeld := hHeld2
  clear hHeld2
  (try simp only [Act.put, jA, jB, jC])
  refine wpAnyH_done (by kernel_rfl) ?_ _
  clear hHeld
  have B3 := Lib.hid ((HF.out.after Z2.out).wX (at0 l (ow W D J S q 1)))
  have K3 := Lib.hid ((((Kb.refl gf w).call hg Z2.out).set 4 (.int .u64 (at0 l (ow W D J S q 1)))))
  have E3 := Lib.hid (HE.out.kb K3.out hge.out)
  go_upto_region 1 with fail
  change Code.wp _ _ _ _ (w2.setCell ⟨gf, 4, none⟩ (.int .u64 (at0 l (ow W D J S q 1))))
  generalize w2.setCell ⟨gf, 4, none⟩ (.int .u64 (at0 l (ow W D J S q 1))) = w3 at B3 K3 E3 ⊢
  clear lf fz lm z1 z2 lgx lgl lgm
  have hd := HD.out
  obtain ⟨d0, d1, d2, d3, d4, d5, d6⟩ := B3.out.cells
  have lf := B3.out.lt
  have e0 := E3.out.cell
  have le := E3.out.lt
  simp only at d0 d1 d2 d3 d4 d5 d6
  go_wp2_with fail
  refine (far_any _ _ _).mono ?_
  rintro _ _ ⟨rfl, rfl⟩
  go_wp2_with fail
  refine (send_any gf _ 3 0 _ B3.out).mono ?_
  rintro _ w5 ⟨rfl, hb5, hk5⟩
  have HB5 := Lib.hid hb5
  have HK5 := Lib.hid hk5
  clear hb5 hk5 d0 d1 d2 d3 d4 d5 d6 e0 lf le
  go_wp2
  refine bodyPost_ret (by simp [results, Tryz.results138, go_sem]; try rfl) rfl ?_
  exact ⟨rfl, HB5.out, K3.out.trans HK5.out⟩
set_option maxHeartbeats 2000000 in
theorem deed_botf (gl gm gx gf ge : Nat) (f : Fr) (W D J S : Int) (A : Option Addr) (n c : Nat) (l : List Int) (hd : decide (far (at0 l (ow W D J S f.who 1)) f.y ≤ 0) = false) (w : World) (hL : Bv w gl (.func (.func 134) #[] #[.pointer (some ⟨gm, 0, none⟩)]) 139) (hM : Bm w gm (.slice A n c)) (hX : Bx w gx W D J S) (hF : Bf w gf f) (h : Rd w A l) (hn : l.length = n) (hE : Bv w ge (.func (.func 135) #[] #[.pointer (some ⟨gf, 0, none⟩)]) 146) (hge : ge ≠ gf) (hgl : gl ≠ gf) (hgx : gx ≠ gf) (hs : n ≤ 500) :
    Calls Tryz.prog 138 #[.pointer (some ⟨gl, 0, none⟩), .pointer (some ⟨gx, 0, none⟩), .pointer (some ⟨gf, 0, none⟩), .pointer (some ⟨ge, 0, none⟩)] w (RetF w gf { f with x := at0 l (ow W D J S f.who 1) }) := by
  have HM := Lib.hid hM
  have HF := Lib.hid hF
  have H := Lib.hid h
  have HN := Lib.hid hn
  have HS := Lib.hid hs
  obtain ⟨o, p, q, v, x, y, s⟩ := f
  have HD := Lib.hid hd
  clear hd
  have HE := Lib.hid hE
  have hge := Lib.hid hge
  have hg := hF.lt
  have lgx := hX.1
  have lgl := hL.lt
  have lgm := hM.lt
  have fz := hF.free
  have zr := Below.refl w.heap.size w
  have HK := Lib.hid (show ∀ x', Kx gf 4 w x' → (fun w' => w'.cell? ⟨gx, 0, none⟩ = some (.int .i64 W) ∧ w'.cell? ⟨gx, 1, none⟩ = some (.int .i64 D) ∧ w'.cell? ⟨gx, 2, none⟩ = some (.int .i64 J) ∧ w'.cell? ⟨gx, 3, none⟩ = some (.int .i64 S) ∧ w'.cell? ⟨gl, 0, none⟩ = some (.func (.func 134) #[] #[.pointer (some ⟨gm, 0, none⟩)]) ∧ w'.cell? ⟨gf, 2, none⟩ = some (.int .i64 q) ∧ Kx gf 4 w w') x' from fun x' hx => by
    have e : x'.heap[gx]? = w.heap[gx]? := hx.others gx hX.1 hgx
    obtain ⟨_, e0, e1, e2, e3⟩ := hX
    have k : x'.heap[gl]? = w.heap[gl]? := hx.others gl hL.lt hgl
    obtain ⟨d0, d1, d2, d3, d4, d5, d6⟩ := hF.cells
    exact ⟨(World.cell?_of_block e).trans e0, (World.cell?_of_block e).trans e1, (World.cell?_of_block e).trans e2, (World.cell?_of_block e).trans e3, (World.cell?_of_block k).trans hL.cell, (hx.cells 2 (by decide)).trans d2, hx⟩)
  have hHeld0 := HK.out _ (Kx.refl gf 4 w)
  clear hM h hn hs hX hF hL hE
  go_enter Tryz.func138, Tryz.ntmps138
  go_wp2_with fail
  refine wp_region_held_drew (S := fun w' => w'.cell? ⟨gx, 0, none⟩ = some (.int .i64 W) ∧ w'.cell? ⟨gx, 1, none⟩ = some (.int .i64 D) ∧ w'.cell? ⟨gx, 2, none⟩ = some (.int .i64 J) ∧ w'.cell? ⟨gx, 3, none⟩ = some (.int .i64 S) ∧ w'.cell? ⟨gl, 0, none⟩ = some (.func (.func 134) #[] #[.pointer (some ⟨gm, 0, none⟩)]) ∧ w'.cell? ⟨gf, 2, none⟩ = some (.int .i64 q) ∧ Kx gf 4 w w') (by kernel_rfl) (kx_drew HK.out (fun _ h => h.2.2.2.2.2.2) hHeld0) (fun hHeld => ?_)
  refine tkH 0 (v := ?vdeeq1) rfl ?ydeeq1 ?rdeeq1
  case ydeeq1 => (intro w hSw; (try dsimp only at hSw); go_simp; (try with_reducible rfl))
  (try simp only [Act.put, jA, jB, jC])
  refine tkH 1 (v := ?vdeeq2) rfl ?ydeeq2 ?rdeeq2
  case ydeeq2 => (intro w hSw; (try dsimp only at hSw); go_simp; (try with_reducible rfl))
  (try simp only [Act.put, jA, jB, jC])
  refine tkH 2 (v := ?vdeeq3) rfl ?ydeeq3 ?rdeeq3
  case ydeeq3 => (intro w hSw; (try dsimp only at hSw); go_simp; (try with_reducible rfl))
  (try simp only [Act.put, jA, jB, jC])
  refine tkH 3 (v := ?vdeeq4) rfl ?ydeeq4 ?rdeeq4
  case ydeeq4 => (intro w hSw; (try dsimp only at hSw); go_simp; (try with_reducible rfl))
  (try simp only [Act.put, jA, jB, jC])
  refine wpAnyH_ready (rs := [4]) (by kernel_rfl) (by simp) ?_
  refine (AllReadyH.cons rfl (fun K hK => ?_) AllReadyH.nil)
  go_simp
  refine (bottom_any W D J S q _).mono ?_
  rintro e w1 ⟨rfl, hb⟩
  go_wp2_with fail
  have z1 := keep_call (w2 := w) hb zr.drew
  have Z1 := Lib.hid z1
  have lf := (HF.out.after z1).lt
  have fz := (HF.out.after z1).free
  have lm := (HM.out.after z1).lt
  refine hK.out _ _ (kx_call HK.out (fun _ h => h.2.2.2.2.2.2) hg hb hHeld) (fun hHeld2 => ?_)
  clear hK K hHeld
  have hHeld := hHeld2
  clear hHeld2
  (try simp only [Act.put, jA, jB, jC])
  refine wpAnyH_ready (rs := [5]) (by kernel_rfl) (by simp) ?_
  refine (AllReadyH.cons rfl (fun K hK => ?_) AllReadyH.nil)
  go_simp
  refine (sload_n (HM.out.after Z1.out) (H.out.below Z1.out) HN.out HS.out).mono ?_
  rintro e w2 ⟨rfl, hb2⟩
  go_wp2_with fail
  have z2 := keep_call (w2 := w) hb2 Z1.out
  have Z2 := Lib.hid z2
  have lf := (HF.out.after z2).lt
  obtain ⟨c0, c1, c2, c3, c4, c5, c6⟩ := (HF.out.after z2).cells
  have fz := (HF.out.after z2).free
  have lm := (HM.out.after z2).lt
  refine hK.out _ _ (kx_call HK.out (fun _ h => h.2.2.2.2.2.2) hg hb2 hHeld) (fun hHeld2 => ?_)
  clear hK K hHeld
  have hHeld := hHeld2
  clear hHeld2
  (try simp only [Act.put, jA, jB, jC])
  refine tkH 6 (v := ?vdeeq5) rfl ?ydeeq5 ?rdeeq5
  case ydeeq5 => (intro w hSw; (try dsimp only at hSw); go_simp; (try with_reducible rfl))
  (try simp only [Act.put, jA, jB, jC])
  refine wpAnyH_ready (rs := [7]) (by kernel_rfl) (by simp) ?_
  refine (AllReadyH.cons rfl (fun K hK => ?_) AllReadyH.nil)
  go_simp
  refine hK.out _ _ (kx_set HK.out (fun _ h => h.2.2.2.2.2.2) _ hHeld) (fun hHeld2 => ?_)
  clear hK K hHeld
  have hHeld := hHeld2
  clear hHeld2
  (try simp only [Act.put, jA, jB, jC])
  refine wpAnyH_done (by kernel_rfl) ?_ _
  clear hHeld
  have B3 := Lib.hid ((HF.out.after Z2.out).wX (at0 l (ow W D J S q 1)))
  have K3 := Lib.hid ((((Kb.refl gf w).call hg Z2.out).set 4 (.int .u64 (at0 l (ow W D J S q 1)))))
  have E3 := Lib.hid (HE.out.kb K3.out hge.out)
  go_upto_region 1 with fail
  change Code.wp _ _ _ _ (w2.setCell ⟨gf, 4, none⟩ (.int .u64 (at0 l (ow W D J S q 1))))
  generalize w2.setCell ⟨gf, 4, none⟩ (.int .u64 (at0 l (ow W D J S q 1))) = w3 at B3 K3 E3 ⊢
  clear lf fz lm z1 z2 lgx lgl lgm
  have hd := HD.out
  obtain ⟨d0, d1, d2, d3, d4, d5, d6⟩ := B3.out.cells
  have lf := B3.out.lt
  have e0 := E3.out.cell
  have le := E3.out.lt
  simp only at d0 d1 d2 d3 d4 d5 d6
  go_wp2_with fail
  refine (far_any _ _ _).mono ?_
  rintro _ _ ⟨rfl, rfl⟩
  go_wp2
  refine bodyPost_ret (by simp [results, Tryz.results138, go_sem]; try rfl) rfl ?_
  exact ⟨rfl, B3.out, K3.out⟩
set_option maxHeartbeats 1000000 in
theorem deed_raisey (gk ge gm gx gf : Nat) (f : Fr) (W D J S : Int) (A : Option Addr) (n c : Nat) (l T : List Int) (w : World) (hL : Bv w gk (.func (.func 136) #[] #[.pointer (some ⟨gm, 0, none⟩), .pointer (some ⟨gx, 0, none⟩), .pointer (some ⟨gf, 0, none⟩)]) 33) (hE : Bv w ge (.func (.func 135) #[] #[.pointer (some ⟨gf, 0, none⟩)]) 146) (hM : Bm w gm (.slice A n c)) (hX : Bx w gx W D J S) (hF : Bf w gf f) (h : Rd w A l) (hn : l.length = n) (hgx : gx ≠ gm) (hgf : gf ≠ gm) (hge : ge ≠ gm) (hs : n ≤ 500)
    (hb : isAt l (ow W D J S f.who 0) f.y = true) (hT : (if isAt l (ow W D J S f.who 0) f.y = true then put l (ow W D J S f.who 0) ((f.y + 1) % 18446744073709551616) else l) = T) :
    Calls Tryz.prog 140 #[.pointer (some ⟨gk, 0, none⟩), .pointer (some ⟨ge, 0, none⟩), .pointer (some ⟨gf, 0, none⟩)] w (RetX w gm gf n T (ed f 1 f.val)) := by
  have HM := Lib.hid hM
  have HX := Lib.hid hX
  have HF := Lib.hid hF
  have HE := Lib.hid hE
  have H := Lib.hid h
  have HN := Lib.hid hn
  have HS := Lib.hid hs
  have HB := Lib.hid hb
  have HT := Lib.hid hT
  have hk0 := hL.cell
  have hk1 := hL.lt
  clear hM hX hF hE h hn hs hb hT hL
  obtain ⟨o, p, q, v, x, y, s⟩ := f
  go_enter Tryz.func140, Tryz.ntmps140
  go_wp2_with fail
  refine (stake_n HM.out HX.out HF.out H.out HN.out hgx hgf HS.out HB.out HT.out).mono ?_
  rintro _ w1 ⟨k, rfl, hk, hB, hM2, hK⟩
  have HKK := Lib.hid hk
  have HBK := Lib.hid hB
  have HM2 := Lib.hid hM2
  have HK := Lib.hid hK
  have HF1 := Lib.hid (HF.out.kb hK hgf)
  have e0 := (HE.out.kb hK hge).cell
  have le := (HE.out.kb hK hge).lt
  clear hk hB hM2 hK hk0 hk1
  obtain ⟨d0, d1, d2, d3, d4, d5, d6⟩ := HF1.out.cells
  have lf := HF1.out.lt
  simp only at d0 d1 d2 d3 d4 d5 d6
  go_wp2_with fail
  refine (send_any gf _ 1 v _ HF1.out).mono ?_
  rintro _ w2 ⟨rfl, hb2, hk2⟩
  have HB2 := Lib.hid hb2
  have HK2 := Lib.hid hk2
  clear hb2 hk2 d0 d1 d2 d3 d4 d5 d6 lf e0 le
  go_wp2
  refine bodyPost_ret (by simp [results, Tryz.results140, go_sem]; try rfl) rfl ?_
  exact ⟨w1, k, rfl, HKK.out, HBK.out, HM2.out, HK.out, HB2.out, HK2.out⟩
set_option maxHeartbeats 1000000 in
theorem deed_raisen (gk ge gm gx gf : Nat) (f : Fr) (W D J S : Int) (A : Option Addr) (n c : Nat) (l T : List Int) (w : World) (hL : Bv w gk (.func (.func 136) #[] #[.pointer (some ⟨gm, 0, none⟩), .pointer (some ⟨gx, 0, none⟩), .pointer (some ⟨gf, 0, none⟩)]) 33) (hE : Bv w ge (.func (.func 135) #[] #[.pointer (some ⟨gf, 0, none⟩)]) 146) (hM : Bm w gm (.slice A n c)) (hX : Bx w gx W D J S) (hF : Bf w gf f) (h : Rd w A l) (hn : l.length = n) (hgx : gx ≠ gm) (hgf : gf ≠ gm) (hge : ge ≠ gm) (hs : n ≤ 500)
    (hb : isAt l (ow W D J S f.who 0) f.y = false) (hT : (if isAt l (ow W D J S f.who 0) f.y = true then put l (ow W D J S f.who 0) ((f.y + 1) % 18446744073709551616) else l) = T) :
    Calls Tryz.prog 140 #[.pointer (some ⟨gk, 0, none⟩), .pointer (some ⟨ge, 0, none⟩), .pointer (some ⟨gf, 0, none⟩)] w (RetX w gm gf n T (ed f 4 0)) := by
  have HM := Lib.hid hM
  have HX := Lib.hid hX
  have HF := Lib.hid hF
  have HE := Lib.hid hE
  have H := Lib.hid h
  have HN := Lib.hid hn
  have HS := Lib.hid hs
  have HB := Lib.hid hb
  have HT := Lib.hid hT
  have hk0 := hL.cell
  have hk1 := hL.lt
  clear hM hX hF hE h hn hs hb hT hL
  obtain ⟨o, p, q, v, x, y, s⟩ := f
  go_enter Tryz.func140, Tryz.ntmps140
  go_wp2_with fail
  refine (stake_n HM.out HX.out HF.out H.out HN.out hgx hgf HS.out HB.out HT.out).mono ?_
  rintro _ w1 ⟨k, rfl, hk, hB, hM2, hK⟩
  have HKK := Lib.hid hk
  have HBK := Lib.hid hB
  have HM2 := Lib.hid hM2
  have HK := Lib.hid hK
  have HF1 := Lib.hid (HF.out.kb hK hgf)
  have e0 := (HE.out.kb hK hge).cell
  have le := (HE.out.kb hK hge).lt
  clear hk hB hM2 hK hk0 hk1
  obtain ⟨d0, d1, d2, d3, d4, d5, d6⟩ := HF1.out.cells
  have lf := HF1.out.lt
  simp only at d0 d1 d2 d3 d4 d5 d6
  go_wp2_with fail
  refine (send_any gf _ 4 0 _ HF1.out).mono ?_
  rintro _ w2 ⟨rfl, hb2, hk2⟩
  have HB2 := Lib.hid hb2
  have HK2 := Lib.hid hk2
  clear hb2 hk2 d0 d1 d2 d3 d4 d5 d6 lf e0 le
  go_wp2
  refine bodyPost_ret (by simp [results, Tryz.results140, go_sem]; try rfl) rfl ?_
  exact ⟨w1, k, rfl, HKK.out, HBK.out, HM2.out, HK.out, HB2.out, HK2.out⟩
end Go.Proofs.YtlpkccpijloidaaGreat
namespace Go.Proofs.YtlpkccpijloidaaGreat
set_option linter.unusedSimpArgs false
set_option maxRecDepth 100000
open Go.RowKit Go.Deep
/-- The slice at A reads as the numbers l, in a block from number lo on that is none of p to p + 7. -/
def Rz (lo p : Nat) (w : World) (A : Option Addr) (l : List Int) : Prop :=
  0 < l.length → ∃ ad, A = some ad ∧ lo ≤ ad.block ∧ (ad.block < p ∨ p + 8 ≤ ad.block) ∧ ad.block < w.heap.size ∧ ∀ j u, l[j]? = some u → w.cell? (ad.add j) = some (.int .u64 u)
theorem Rz.rn {lo p : Nat} {w : World} {A : Option Addr} {l : List Int} (h : Rz lo p w A l) : Rn lo w A l := fun hp => by
  obtain ⟨ad, e, hlo, _, hlt, hc⟩ := h hp
  exact ⟨ad, e, hlo, hlt, hc⟩
theorem Rz.rd {lo p : Nat} {w : World} {A : Option Addr} {l : List Int} (h : Rz lo p w A l) : Rd w A l := h.rn.rd
theorem Rz.after {lo p : Nat} {w w' : World} {A : Option Addr} {l : List Int} (h : Rz lo p w A l) (hb : Below w.heap.size w w') : Rz lo p w' A l := fun hp => by
  obtain ⟨ad, e, hl, hne, hlt, hc⟩ := h hp
  exact ⟨ad, e, hl, hne, Nat.lt_of_lt_of_le hlt hb.size, fun j u hu => (hb.cell (p := ad.add j) (by rw [block_add]; exact hlt)).trans (hc j u hu)⟩
theorem Rz.set {lo p : Nat} {w : World} {A : Option Addr} {l : List Int} (h : Rz lo p w A l) {k i : Nat} (hk : p ≤ k ∧ k < p + 8) (v : Value) : Rz lo p (w.setCell ⟨k, i, none⟩ v) A l := fun hq => by
  obtain ⟨ad, e, hl, hne, hlt, hc⟩ := h hq
  refine ⟨ad, e, hl, hne, by simpa using hlt, fun j u hu => ?_⟩
  refine Eq.trans ?_ (hc j u hu)
  have hne : (ad.add j).block ≠ k := by rw [block_add]; omega
  exact World.cell?_of_block (Below.heap_setCell w ⟨k, i, none⟩ v _ hne)
theorem Rz.kb {lo p k : Nat} {w w' : World} {A : Option Addr} {l : List Int} (h : Rz lo p w A l) (hK : Kb k w w') (hk : p ≤ k ∧ k < p + 8) : Rz lo p w' A l := fun hq => by
  obtain ⟨ad, e, hl, hne, hlt, hc⟩ := h hq
  exact ⟨ad, e, hl, hne, Nat.lt_of_lt_of_le hlt hK.size, fun j u hu => (World.cell?_of_block (by rw [block_add]; exact hK.others _ hlt (by omega))).trans (hc j u hu)⟩
theorem Rz.pf {lo p : Nat} {w : World} {A : Option Addr} {l : List Int} (h : Rz lo p w A l) {k : Nat} (hk : p ≤ k ∧ k < p + 8) (f : Fr) : Rz lo p (pf w k f) A l :=
  ((((((h.set hk _).set hk _).set hk _).set hk _).set hk _).set hk _).set hk _
theorem Bk.rz {lo p k : Nat} {w : World} {l : List Int} (h : Bk w k l) (hk : p + 8 ≤ k) (hl : lo ≤ k) : Rz lo p w (some ⟨k, 0, none⟩) l := fun _ =>
  ⟨_, rfl, hl, .inr hk, h.lt, fun j u hu => by rw [add_zero']; exact h.cell j u hu⟩
theorem Rn.rz {lo : Nat} {w : World} {A : Option Addr} {l : List Int} (h : Rn lo w A l) {w' : World} (hb : Below w.heap.size w w') : Rz lo w.heap.size w' A l := fun hp => by
  obtain ⟨ad, e, hlo, hlt, hc⟩ := h hp
  exact ⟨ad, e, hlo, .inl hlt, Nat.lt_of_lt_of_le hlt hb.size, fun j u hu => (hb.cell (p := ad.add j) (by rw [block_add]; exact hlt)).trans (hc j u hu)⟩
/-- What a steal's next has at hand. -/
structure Nz (w : World) (lo : Nat) (W D J S : Int) (A : Option Addr) (n c : Nat) (l : List Int) (f : Fr) (w1 : World) : Prop where
  bx : Bx w1 w.heap.size W D J S
  bm : Bm w1 (w.heap.size + 1) (.slice A n c)
  bf : Bf w1 (w.heap.size + 1 + 1) f
  br : Bf w1 (w.heap.size + 1 + 1 + 1) f0
  c4 : Bv w1 (w.heap.size + 1 + 1 + 1 + 1) (.func (.func 134) #[] #[.pointer (some ⟨w.heap.size + 1, 0, none⟩)]) 139
  c5 : Bv w1 (w.heap.size + 1 + 1 + 1 + 1 + 1) (.func (.func 135) #[] #[.pointer (some ⟨w.heap.size + 1 + 1, 0, none⟩)]) 146
  c6 : Bv w1 (w.heap.size + 1 + 1 + 1 + 1 + 1 + 1) (.func (.func 136) #[] #[.pointer (some ⟨w.heap.size + 1, 0, none⟩), .pointer (some ⟨w.heap.size, 0, none⟩), .pointer (some ⟨w.heap.size + 1 + 1, 0, none⟩)]) 33
  sz : w.heap.size + 1 + 1 + 1 + 1 + 1 + 1 + 1 < w1.heap.size
  rz : Rz lo w.heap.size w1 A l
  be : Below w.heap.size w w1
  nl : l.length = n
section
variable {w : World} {lo : Nat} {W D J S : Int} {A : Option Addr} {n c : Nat} {l : List Int} {f : Fr} {w1 : World}
theorem Nz.setPc (h : Nz w lo W D J S A n c l f w1) (z : Int) : Nz w lo W D J S A n c l { f with pc := z } (w1.setCell ⟨w.heap.size + 1 + 1, 1, none⟩ (.int .i64 z)) :=
  ⟨h.bx.oth (by omega) _, h.bm.other (by omega) _, h.bf.wPc z, h.br.oth (by omega) _, h.c4.other (by omega) _, h.c5.other (by omega) _, h.c6.other (by omega) _, by simpa using h.sz, h.rz.set (by omega) _, h.be.setCell (by simp only; omega) _, h.nl⟩
/-- Behind a deed that turns the call alone. -/
theorem Nz.kf (h : Nz w lo W D J S A n c l f w1) {w2 : World} {f' : Fr} (hb : Bf w2 (w.heap.size + 1 + 1) f') (hK : Kb (w.heap.size + 1 + 1) w1 w2) : Nz w lo W D J S A n c l f' w2 :=
  ⟨h.bx.kb hK (by omega), h.bm.kb hK (by omega), hb, h.br.kb hK (by omega), h.c4.kb hK (by omega), h.c5.kb hK (by omega), h.c6.kb hK (by omega), Nat.lt_of_lt_of_le h.sz hK.size, h.rz.kb hK (by omega), h.be.trans (hK.low.mono (by omega)), h.nl⟩
/-- Behind an exchange. -/
theorem Nz.stored (h : Nz w lo W D J S A n c l f w1) {w2 : World} {k : Nat} {l' : List Int} (hk : w1.heap.size ≤ k) (hB : Bk w2 k l') (hM : Bm w2 (w.heap.size + 1) (.slice (some ⟨k, 0, none⟩) n n)) (hK : Kb (w.heap.size + 1) w1 w2) (hl : l'.length = l.length) (hlo : lo ≤ w.heap.size) : Nz w lo W D J S (some ⟨k, 0, none⟩) n n l' f w2 := by
  have h4 := h.sz
  exact ⟨h.bx.kb hK (by omega), hM, h.bf.kb hK (by omega), h.br.kb hK (by omega), h.c4.kb hK (by omega), h.c5.kb hK (by omega), h.c6.kb hK (by omega), Nat.lt_of_lt_of_le h.sz hK.size, hB.rz (by omega) (by omega), h.be.trans (hK.low.mono (by omega)), hl.trans h.nl⟩
theorem Nz.facts (h : Nz w lo W D J S A n c l f w1) : w.heap.size < w1.heap.size ∧ w.heap.size + 1 < w1.heap.size ∧ w.heap.size + 1 + 1 < w1.heap.size ∧ w.heap.size + 1 + 1 + 1 < w1.heap.size := by
  have := h.sz
  omega
theorem Nz.back (h : Nz w lo W D J S A n c l f w1) (f' : Fr) : Bf (pf w1 (w.heap.size + 1 + 1 + 1) f').drew (w.heap.size + 1 + 1 + 1) f' ∧ Rn lo (pf w1 (w.heap.size + 1 + 1 + 1) f').drew A l ∧ Below w.heap.size w (pf w1 (w.heap.size + 1 + 1 + 1) f').drew :=
  ⟨(h.br.pf f').drew, ((h.rz.pf (by omega) f').rn).drew, (below_pf h.be (by omega) f').drew⟩
end
/-- The eight boxes. -/
def bx8 (w : World) (W D J S : Int) (v : Value) (f : Fr) : World := (((((((w.alloc (.cells #[.int .i64 W, .int .i64 D, .int .i64 J, .int .i64 S] 23)).alloc (.cells #[v] 26)).alloc (.cells #[.int .i64 f.op, .int .i64 f.pc, .int .i64 f.who, .int .u64 f.val, .int .u64 f.x, .int .u64 f.y, .int .i64 f.res] 30)).alloc (.cells #[.int .i64 0, .int .i64 0, .int .i64 0, .int .u64 0, .int .u64 0, .int .u64 0, .int .i64 0] 30)).alloc (.cells #[.func (.func 134) #[] #[.pointer (some ⟨w.heap.size + 1, 0, none⟩)]] 139)).alloc (.cells #[.func (.func 135) #[] #[.pointer (some ⟨w.heap.size + 1 + 1, 0, none⟩)]] 146)).alloc (.cells #[.func (.func 136) #[] #[.pointer (some ⟨w.heap.size + 1, 0, none⟩), .pointer (some ⟨w.heap.size, 0, none⟩), .pointer (some ⟨w.heap.size + 1 + 1, 0, none⟩)]] 33)).alloc (.cells #[.func (.func 137) #[] #[.pointer (some ⟨w.heap.size + 1 + 1 + 1 + 1, 0, none⟩), .pointer (some ⟨w.heap.size, 0, none⟩), .pointer (some ⟨w.heap.size + 1 + 1, 0, none⟩)], .func (.func 138) #[] #[.pointer (some ⟨w.heap.size + 1 + 1 + 1 + 1, 0, none⟩), .pointer (some ⟨w.heap.size, 0, none⟩), .pointer (some ⟨w.heap.size + 1 + 1, 0, none⟩), .pointer (some ⟨w.heap.size + 1 + 1 + 1 + 1 + 1, 0, none⟩)], .func (.func 139) #[] #[.pointer (some ⟨w.heap.size + 1 + 1 + 1 + 1, 0, none⟩), .pointer (some ⟨w.heap.size, 0, none⟩), .pointer (some ⟨w.heap.size + 1 + 1, 0, none⟩)], .func (.func 140) #[] #[.pointer (some ⟨w.heap.size + 1 + 1 + 1 + 1 + 1 + 1, 0, none⟩), .pointer (some ⟨w.heap.size + 1 + 1 + 1 + 1 + 1, 0, none⟩), .pointer (some ⟨w.heap.size + 1 + 1, 0, none⟩)]] 121)
theorem heap_alloc_at (w : World) (o : Obj) {k : Nat} (hk : k = w.heap.size) : (w.alloc o).heap[k]? = some o := by subst hk; exact heap_alloc_new w o
theorem boxes8 {w : World} {lo : Nat} {W D J S : Int} {A : Option Addr} {n c : Nat} {l : List Int} (f : Fr) (h : Rn lo w A l) (hn : l.length = n) : Nz w lo W D J S A n c l f (bx8 w W D J S (.slice A n c) f) := by
  have hb : Below w.heap.size w (bx8 w W D J S (.slice A n c) f) := by
    unfold bx8
    exact ((((((((Below.refl _ _).alloc (Nat.le_refl _) _).alloc (by simp) _).alloc (by simp; omega) _).alloc (by simp; omega) _).alloc (by simp; omega) _).alloc (by simp; omega) _).alloc (by simp; omega) _).alloc (by simp; omega) _
  refine ⟨?_, ?_, ?_, ?_, ?_, ?_, ?_, ?_, h.rz hb, hb, hn⟩
  · exact (((((((Bx.mk w W D J S 23).alloc _).alloc _).alloc _).alloc _).alloc _).alloc _).alloc _
  · unfold bx8
    exact Bm.after (Bm.after (Bm.after (Bm.after (Bm.after (Bm.after (show Bm _ _ _ from heap_alloc_at _ _ (by simp)) (box_below _ _)) (box_below _ _)) (box_below _ _)) (box_below _ _)) (box_below _ _)) (box_below _ _)
  · unfold bx8
    exact Bf.after (Bf.after (Bf.after (Bf.after (Bf.after (show Bf _ _ _ from heap_alloc_at _ _ (by simp)) (box_below _ _)) (box_below _ _)) (box_below _ _)) (box_below _ _)) (box_below _ _)
  · unfold bx8
    exact Bf.after (Bf.after (Bf.after (Bf.after (show Bf _ _ _ from heap_alloc_at _ _ (by simp)) (box_below _ _)) (box_below _ _)) (box_below _ _)) (box_below _ _)
  · unfold bx8
    exact Bv.after (Bv.after (Bv.after (show Bv _ _ _ _ from heap_alloc_at _ _ (by simp)) (box_below _ _)) (box_below _ _)) (box_below _ _)
  · unfold bx8
    exact Bv.after (Bv.after (show Bv _ _ _ _ from heap_alloc_at _ _ (by simp)) (box_below _ _)) (box_below _ _)
  · unfold bx8
    exact Bv.after (show Bv _ _ _ _ from heap_alloc_at _ _ (by simp)) (box_below _ _)
  · unfold bx8
    simp
end Go.Proofs.YtlpkccpijloidaaGreat
