/- Merged: PoA, PoB. -/
import Derived.Test.YtlpkccpijloidaaGreatNxA
import Derived.Test.YtlpkccpijloidaaGreatPuG2
import Derived.WalkMore
import Derived.RegionTactic
namespace Go.Proofs.YtlpkccpijloidaaGreat
set_option linter.unusedSimpArgs false
set_option maxRecDepth 100000
open Go.RowKit Go.Deep
/-- As Q; by a goto to label l: J l. -/
def exTo (J : Nat → Act → World → Prop) (Q : Exit → Act → World → Prop) : Exit → Act → World → Prop
  | .goto l, a, w => J l a w
  | e, a, w => Q e a w
theorem exTo_normal {J : Nat → Act → World → Prop} {Q : Exit → Act → World → Prop} {a : Act} {w : World} : exTo J Q .normal a w = Q .normal a w := rfl
theorem exTo_exit {J : Nat → Act → World → Prop} {Q : Exit → Act → World → Prop} {a : Act} {w : World} (id : Nat) : exTo J Q (.exit id) a w = Q (.exit id) a w := rfl
theorem exTo_ret {J : Nat → Act → World → Prop} {Q : Exit → Act → World → Prop} {a : Act} {w : World} : exTo J Q .ret a w = Q .ret a w := rfl
theorem exTo_goto {J : Nat → Act → World → Prop} {Q : Exit → Act → World → Prop} {a : Act} {w : World} (l : Nat) : exTo J Q (.goto l) a w = J l a w := rfl
/-- A scope whose labels all lie ahead: what comes behind a label jumps no more. -/
theorem wp_scope_to {P : Program} {a : Act} {w : World} {Q : Exit → Act → World → Prop} {c : Code} (J : Nat → Act → World → Prop)
    (hJ : ∀ l a w, J l a w → ∃ rest, findLabel c l = some rest ∧ rest.wp P (Exit.noGoto Q) a w) (first : c.wp P (exTo J Q) a w) : (Code.scope c).wp P Q a w := by
  intro b k cs
  obtain ⟨e, a₁, w₁, hq, harr⟩ := first b (.inScope c :: k) cs
  cases e with
  | normal => exact ⟨.normal, a₁, w₁, hq, .head step_scope (Steps.trans harr (.one step_inScope))⟩
  | exit id => exact ⟨.exit id, a₁, w₁, hq, fun k' hk => .head step_scope (harr k' (by simp [exitTo, hk]))⟩
  | goto l' =>
    obtain ⟨rest, hf, hr⟩ := hJ _ _ _ hq
    have hg : gotoIn l' (.inScope c :: k) = some (.code rest :: .inScope c :: k) := by simp [gotoIn, hf]
    obtain ⟨e₂, a₂, w₂, hq₂, harr₂⟩ := hr b (.inScope c :: k) cs
    have h0 : Steps P (lone (b.at a (.code (.scope c) :: k)) cs w) (lone (b.at a₁ (.code rest :: .inScope c :: k)) cs w₁) := .head step_scope (harr _ hg)
    cases e₂ with
    | normal => exact ⟨.normal, a₂, w₂, hq₂, Steps.trans h0 (Steps.trans harr₂ (.one step_inScope))⟩
    | exit id => exact ⟨.exit id, a₂, w₂, hq₂, fun k' hk => Steps.trans h0 (harr₂ k' (by simp [exitTo, hk]))⟩
    | goto l => exact hq₂.elim
    | ret => exact ⟨_, a₂, w₂, hq₂, .of_steps h0 harr₂⟩
    | panic ch => exact ⟨_, a₂, w₂, hq₂, .of_steps h0 harr₂⟩
    | outgrown => exact ⟨_, a₂, w₂, hq₂, .of_steps h0 harr₂⟩
  | ret => exact ⟨_, a₁, w₁, hq, .of_steps (.one step_scope) harr⟩
  | panic ch => exact ⟨_, a₁, w₁, hq, .of_steps (.one step_scope) harr⟩
  | outgrown => exact ⟨_, a₁, w₁, hq, .of_steps (.one step_scope) harr⟩
theorem nload_any (g : Nat) (A : Option Addr) (c : Nat) (l : List Int) (i : Int) (w : World) (hM : Bm w g (.slice A l.length c)) (h : Rd w A l) (hs : l.length ≤ 500) : Tells 127 #[.int .i64 i, .pointer (some ⟨g, 0, none⟩)] w (.int .u64 (at0 l i)) := by
  have HS := Lib.hid hs
  have H := Lib.hid h
  have hm := hM.cell
  have hl := hM.lt
  clear hs h
  go_enter Tryz.func127, Tryz.ntmps127
  go_wp2_with fail
  refine (load_any A l.length c l i _ H.out rfl HS.out).mono ?_
  rintro _ w1 ⟨rfl, hb⟩
  have HB := Lib.hid hb
  clear hb
  go_wp2
  go_ret
  exact ⟨rfl, HB.out⟩
set_option maxHeartbeats 2000000 in
theorem nset_any (gm gx gf : Nat) (f : Fr) (W D J S : Int) (A : Option Addr) (c : Nat) (l : List Int) (T : Int) (w : World) (hM : Bm w gm (.slice A l.length c)) (hX : Bx w gx W D J S) (hF : Bf w gf f) (h : Rd w A l) (hgx : gx ≠ gm) (hgf : gf ≠ gm) (hs : l.length ≤ 500) :
    Calls Tryz.prog 128 #[.int .u64 T, .pointer (some ⟨gm, 0, none⟩), .pointer (some ⟨gx, 0, none⟩), .pointer (some ⟨gf, 0, none⟩)] w (RetV w gm l.length (.tuple #[]) (put l (ow W D J S f.who 1) T)) := by
  have HM := Lib.hid hM
  have H := Lib.hid h
  have HS := Lib.hid hs
  obtain ⟨o, p, q, v, x, y, s⟩ := f
  have hg := hM.lt
  have lgx := hX.1
  have lgf := hF.lt
  have b0 := hM.cell
  have fz := hM.free
  have zr := Below.refl w.heap.size w
  have HK := Lib.hid (show ∀ x', Kb gm w x' → (fun w' => w'.cell? ⟨gx, 0, none⟩ = some (.int .i64 W) ∧ w'.cell? ⟨gx, 1, none⟩ = some (.int .i64 D) ∧ w'.cell? ⟨gx, 2, none⟩ = some (.int .i64 J) ∧ w'.cell? ⟨gx, 3, none⟩ = some (.int .i64 S) ∧ w'.cell? ⟨gf, 2, none⟩ = some (.int .i64 q) ∧ Kb gm w w') x' from fun x' hx => by
    obtain ⟨_, e0, e1, e2, e3⟩ := hX.kb hx hgx
    obtain ⟨d0, d1, d2, d3, d4, d5, d6⟩ := (hF.kb hx hgf).cells
    exact ⟨e0, e1, e2, e3, d2, hx⟩)
  have hHeld0 := HK.out _ (Kb.refl gm w)
  clear hM h hs hX hF
  go_enter Tryz.func128, Tryz.ntmps128
  go_wp2_with fail
  refine wp_region_held_drew (S := fun w' => w'.cell? ⟨gx, 0, none⟩ = some (.int .i64 W) ∧ w'.cell? ⟨gx, 1, none⟩ = some (.int .i64 D) ∧ w'.cell? ⟨gx, 2, none⟩ = some (.int .i64 J) ∧ w'.cell? ⟨gx, 3, none⟩ = some (.int .i64 S) ∧ w'.cell? ⟨gf, 2, none⟩ = some (.int .i64 q) ∧ Kb gm w w') (by kernel_rfl) (kb_drew HK.out (fun _ h => h.2.2.2.2.2) hHeld0) (fun hHeld => ?_)
  refine tkH 1 (v := ?vnsq1) rfl ?ynsq1 ?rnsq1
  case ynsq1 => (intro w hSw; (try dsimp only at hSw); go_simp; (try with_reducible rfl))
  (try simp only [Act.put, jA, jB, jC])
  refine tkH 2 (v := ?vnsq2) rfl ?ynsq2 ?rnsq2
  case ynsq2 => (intro w hSw; (try dsimp only at hSw); go_simp; (try with_reducible rfl))
  (try simp only [Act.put, jA, jB, jC])
  refine tkH 3 (v := ?vnsq3) rfl ?ynsq3 ?rnsq3
  case ynsq3 => (intro w hSw; (try dsimp only at hSw); go_simp; (try with_reducible rfl))
  (try simp only [Act.put, jA, jB, jC])
  refine tkH 5 (v := ?vnsq4) rfl ?ynsq4 ?rnsq4
  case ynsq4 => (intro w hSw; (try dsimp only at hSw); go_simp; (try with_reducible rfl))
  (try simp only [Act.put, jA, jB, jC])
  refine wpAnyH_ready (rs := [0, 4]) (by kernel_rfl) (by simp) ?_
  refine (AllReadyH.cons rfl (fun K hK => ?_) (AllReadyH.cons rfl (fun K hK => ?_) AllReadyH.nil))
  · go_simp
    refine hK.out _ _ (hHeld) (fun hHeld2 => ?_)
    clear hK K hHeld
    have hHeld := hHeld2
    clear hHeld2
    (try simp only [Act.put, jA, jB, jC])
    refine wpAnyH_ready (rs := [4]) (by kernel_rfl) (by simp) ?_
    refine (AllReadyH.cons rfl (fun K hK => ?_) AllReadyH.nil)
    go_simp
    refine (bottom_any W D J S q _).mono ?_
    rintro e w1 ⟨rfl, hb⟩
    go_wp2_with fail
    have z1 := keep_call (w2 := w) hb zr.drew
    have Z1 := Lib.hid z1
    have b0 := (HM.out.after z1).cell
    have lm := (HM.out.after z1).lt
    have fz := (HM.out.after z1).free
    refine hK.out _ _ (kb_call HK.out (fun _ h => h.2.2.2.2.2) hg hb hHeld) (fun hHeld2 => ?_)
    clear hK K hHeld
    have hHeld := hHeld2
    clear hHeld2
    (try simp only [Act.put, jA, jB, jC])
    refine wpAnyH_ready (rs := [6]) (by kernel_rfl) (by simp) ?_
    refine (AllReadyH.cons rfl (fun K hK => ?_) AllReadyH.nil)
    go_simp
    refine (store_new A l.length c l _ T _ (H.out.below Z1.out) rfl HS.out).mono ?_
    rintro e w2 ⟨k, rfl, hk0, hk, hb2⟩
    go_wp2_with fail
    have HLO := Lib.hid (Nat.le_trans Z1.out.size hk0)
    have HKK := Lib.hid hk
    have z2 := keep_call (w2 := w) hb2 Z1.out
    have Z2 := Lib.hid z2
    have b0 := (HM.out.after z2).cell
    have lm := (HM.out.after z2).lt
    have fz := (HM.out.after z2).free
    clear hk hk0
    refine hK.out _ _ (kb_call HK.out (fun _ h => h.2.2.2.2.2) hg hb2 hHeld) (fun hHeld2 => ?_)
    clear hK K hHeld
    have hHeld := hHeld2
    clear hHeld2
    (try simp only [Act.put, jA, jB, jC])
    refine wpAnyH_ready (rs := [7]) (by kernel_rfl) (by simp) ?_
    refine (AllReadyH.cons rfl (fun K hK => ?_) AllReadyH.nil)
    go_simp
    refine hK.out _ _ (kb_set HK.out (fun _ h => h.2.2.2.2.2) 0 _ hHeld) (fun hHeld2 => ?_)
    clear hK K hHeld
    have hHeld := hHeld2
    clear hHeld2
    (try simp only [Act.put, jA, jB, jC])
    refine wpAnyH_done (by kernel_rfl) ?_ _
    have HKB := Lib.hid (hHeld.2.2.2.2.2)
    clear hHeld
    go_wp2
    refine bodyPost_ret (by simp [results, Tryz.results128, go_sem]; try rfl) rfl ?_
    exact ⟨k, rfl, HLO.out, Bk.other (k := k) (g := gm) HKK.out (by have := HLO.out; omega) _, (HM.out.after Z2.out).set _, HKB.out⟩
  · go_simp
    refine (bottom_any W D J S q _).mono ?_
    rintro e w1 ⟨rfl, hb⟩
    go_wp2_with fail
    have z1 := keep_call (w2 := w) hb zr.drew
    have Z1 := Lib.hid z1
    have b0 := (HM.out.after z1).cell
    have lm := (HM.out.after z1).lt
    have fz := (HM.out.after z1).free
    refine hK.out _ _ (kb_call HK.out (fun _ h => h.2.2.2.2.2) hg hb hHeld) (fun hHeld2 => ?_)
    clear hK K hHeld
    have hHeld := hHeld2
    clear hHeld2
    (try simp only [Act.put, jA, jB, jC])
    refine wpAnyH_ready (rs := [0]) (by kernel_rfl) (by simp) ?_
    refine (AllReadyH.cons rfl (fun K hK => ?_) AllReadyH.nil)
    go_simp
    refine hK.out _ _ (hHeld) (fun hHeld2 => ?_)
    clear hK K hHeld
    have hHeld := hHeld2
    clear hHeld2
    (try simp only [Act.put, jA, jB, jC])
    refine wpAnyH_ready (rs := [6]) (by kernel_rfl) (by simp) ?_
    refine (AllReadyH.cons rfl (fun K hK => ?_) AllReadyH.nil)
    go_simp
    refine (store_new A l.length c l _ T _ (H.out.below Z1.out) rfl HS.out).mono ?_
    rintro e w2 ⟨k, rfl, hk0, hk, hb2⟩
    go_wp2_with fail
    have HLO := Lib.hid (Nat.le_trans Z1.out.size hk0)
    have HKK := Lib.hid hk
    have z2 := keep_call (w2 := w) hb2 Z1.out
    have Z2 := Lib.hid z2
    have b0 := (HM.out.after z2).cell
    have lm := (HM.out.after z2).lt
    have fz := (HM.out.after z2).free
    clear hk hk0
    refine hK.out _ _ (kb_call HK.out (fun _ h => h.2.2.2.2.2) hg hb2 hHeld) (fun hHeld2 => ?_)
    clear hK K hHeld
    have hHeld := hHeld2
    clear hHeld2
    (try simp only [Act.put, jA, jB, jC])
    refine wpAnyH_ready (rs := [7]) (by kernel_rfl) (by simp) ?_
    refine (AllReadyH.cons rfl (fun K hK => ?_) AllReadyH.nil)
    go_simp
    refine hK.out _ _ (kb_set HK.out (fun _ h => h.2.2.2.2.2) 0 _ hHeld) (fun hHeld2 => ?_)
    clear hK K hHeld
    have hHeld := hHeld2
    clear hHeld2
    (try simp only [Act.put, jA, jB, jC])
    refine wpAnyH_done (by kernel_rfl) ?_ _
    have HKB := Lib.hid (hHeld.2.2.2.2.2)
    clear hHeld
    go_wp2
    refine bodyPost_ret (by simp [results, Tryz.results128, go_sem]; try rfl) rfl ?_
    exact ⟨k, rfl, HLO.out, Bk.other (k := k) (g := gm) HKK.out (by have := HLO.out; omega) _, (HM.out.after Z2.out).set _, HKB.out⟩
set_option maxHeartbeats 2000000 in
theorem ntake_any (gm gx gf : Nat) (f : Fr) (W D J S : Int) (A : Option Addr) (c : Nat) (l : List Int) (bb : Bool) (T : List Int) (hb : isAt l (ow W D J S f.who 0) f.y = bb) (hT : (if isAt l (ow W D J S f.who 0) f.y = true then put l (ow W D J S f.who 0) ((f.y + 1) % 18446744073709551616) else l) = T) (w : World) (hM : Bm w gm (.slice A l.length c)) (hX : Bx w gx W D J S) (hF : Bf w gf f) (h : Rd w A l) (hgx : gx ≠ gm) (hgf : gf ≠ gm) (hs : l.length ≤ 500) :
    Calls Tryz.prog 130 #[.pointer (some ⟨gm, 0, none⟩), .pointer (some ⟨gx, 0, none⟩), .pointer (some ⟨gf, 0, none⟩)] w (RetV w gm l.length (.bool bb) T) := by
  have HM := Lib.hid hM
  have H := Lib.hid h
  have HS := Lib.hid hs
  obtain ⟨o, p, q, v, x, y, s⟩ := f
  have EB := Lib.hid hb
  have ET := Lib.hid hT
  clear hb hT
  have hg := hM.lt
  have lgx := hX.1
  have lgf := hF.lt
  have b0 := hM.cell
  have fz := hM.free
  have zr := Below.refl w.heap.size w
  have HK := Lib.hid (show ∀ x', Kb gm w x' → (fun w' => w'.cell? ⟨gx, 0, none⟩ = some (.int .i64 W) ∧ w'.cell? ⟨gx, 1, none⟩ = some (.int .i64 D) ∧ w'.cell? ⟨gx, 2, none⟩ = some (.int .i64 J) ∧ w'.cell? ⟨gx, 3, none⟩ = some (.int .i64 S) ∧ w'.cell? ⟨gf, 2, none⟩ = some (.int .i64 q) ∧ w'.cell? ⟨gf, 5, none⟩ = some (.int .u64 y) ∧ Kb gm w w') x' from fun x' hx => by
    obtain ⟨_, e0, e1, e2, e3⟩ := hX.kb hx hgx
    obtain ⟨d0, d1, d2, d3, d4, d5, d6⟩ := (hF.kb hx hgf).cells
    exact ⟨e0, e1, e2, e3, d2, d5, hx⟩)
  have hHeld0 := HK.out _ (Kb.refl gm w)
  clear hM h hs hX hF
  go_enter Tryz.func130, Tryz.ntmps130
  go_wp2_with fail
  refine wp_region_held_drew (S := fun w' => w'.cell? ⟨gx, 0, none⟩ = some (.int .i64 W) ∧ w'.cell? ⟨gx, 1, none⟩ = some (.int .i64 D) ∧ w'.cell? ⟨gx, 2, none⟩ = some (.int .i64 J) ∧ w'.cell? ⟨gx, 3, none⟩ = some (.int .i64 S) ∧ w'.cell? ⟨gf, 2, none⟩ = some (.int .i64 q) ∧ w'.cell? ⟨gf, 5, none⟩ = some (.int .u64 y) ∧ Kb gm w w') (by kernel_rfl) (kb_drew HK.out (fun _ h => h.2.2.2.2.2.2) hHeld0) (fun hHeld => ?_)
  refine tkH 1 (v := ?vntq1) rfl ?yntq1 ?rntq1
  case yntq1 => (intro w hSw; (try dsimp only at hSw); go_simp; (try with_reducible rfl))
  (try simp only [Act.put, jA, jB, jC])
  refine tkH 2 (v := ?vntq2) rfl ?yntq2 ?rntq2
  case yntq2 => (intro w hSw; (try dsimp only at hSw); go_simp; (try with_reducible rfl))
  (try simp only [Act.put, jA, jB, jC])
  refine tkH 3 (v := ?vntq3) rfl ?yntq3 ?rntq3
  case yntq3 => (intro w hSw; (try dsimp only at hSw); go_simp; (try with_reducible rfl))
  (try simp only [Act.put, jA, jB, jC])
  refine tkH 5 (v := ?vntq4) rfl ?yntq4 ?rntq4
  case yntq4 => (intro w hSw; (try dsimp only at hSw); go_simp; (try with_reducible rfl))
  (try simp only [Act.put, jA, jB, jC])
  refine tkH 6 (v := ?vntq5) rfl ?yntq5 ?rntq5
  case yntq5 => (intro w hSw; (try dsimp only at hSw); go_simp; (try with_reducible rfl))
  (try simp only [Act.put, jA, jB, jC])
  refine tkH 7 (v := ?vntq6) rfl ?yntq6 ?rntq6
  case yntq6 => (intro w hSw; (try dsimp only at hSw); go_simp; (try with_reducible rfl))
  (try simp only [Act.put, jA, jB, jC])
  refine tkH 8 (v := ?vntq7) rfl ?yntq7 ?rntq7
  case yntq7 => (intro w hSw; (try dsimp only at hSw); go_simp; (try with_reducible rfl))
  (try simp only [Act.put, jA, jB, jC])
  refine tkH 9 (v := ?vntq8) rfl ?yntq8 ?rntq8
  case yntq8 => (intro w hSw; (try dsimp only at hSw); go_simp; (try with_reducible rfl))
  (try simp only [Act.put, jA, jB, jC])
  refine wpAnyH_ready (rs := [0, 4]) (by kernel_rfl) (by simp) ?_
  refine (AllReadyH.cons rfl (fun K hK => ?_) (AllReadyH.cons rfl (fun K hK => ?_) AllReadyH.nil))
  · go_simp
    refine hK.out _ _ (hHeld) (fun hHeld2 => ?_)
    clear hK K hHeld
    have hHeld := hHeld2
    clear hHeld2
    (try simp only [Act.put, jA, jB, jC])
    refine wpAnyH_ready (rs := [4]) (by kernel_rfl) (by simp) ?_
    refine (AllReadyH.cons rfl (fun K hK => ?_) AllReadyH.nil)
    go_simp
    refine (top_any W D J S q _).mono ?_
    rintro e w1 ⟨rfl, hb⟩
    go_wp2_with fail
    have z1 := keep_call (w2 := w) hb zr.drew
    have Z1 := Lib.hid z1
    have b0 := (HM.out.after z1).cell
    have lm := (HM.out.after z1).lt
    have fz := (HM.out.after z1).free
    refine hK.out _ _ (kb_call HK.out (fun _ h => h.2.2.2.2.2.2) hg hb hHeld) (fun hHeld2 => ?_)
    clear hK K hHeld
    have hHeld := hHeld2
    clear hHeld2
    (try simp only [Act.put, jA, jB, jC])
    refine wpAnyH_ready (rs := [10]) (by kernel_rfl) (by simp) ?_
    refine (AllReadyH.cons rfl (fun K hK => ?_) AllReadyH.nil)
    go_simp
    refine (casn_n (H.out.below Z1.out) rfl HS.out EB.out ET.out).mono ?_
    rintro e w2 ⟨k, rfl, hk0, hk, hb2⟩
    go_wp2_with fail
    have HLO := Lib.hid (Nat.le_trans Z1.out.size hk0)
    have HKK := Lib.hid hk
    have z2 := keep_call (w2 := w) hb2 Z1.out
    have Z2 := Lib.hid z2
    have b0 := (HM.out.after z2).cell
    have lm := (HM.out.after z2).lt
    have fz := (HM.out.after z2).free
    clear hk hk0
    refine hK.out _ _ (kb_call HK.out (fun _ h => h.2.2.2.2.2.2) hg hb2 hHeld) (fun hHeld2 => ?_)
    clear hK K hHeld
    have hHeld := hHeld2
    clear hHeld2
    (try simp only [Act.put, jA, jB, jC])
    refine tkH 11 (v := ?vntq9) rfl ?yntq9 ?rntq9
    case yntq9 => (intro w hSw; (try dsimp only at hSw); go_simp; (try with_reducible rfl))
    (try simp only [Act.put, jA, jB, jC])
    refine tkH 12 (v := ?vntq10) rfl ?yntq10 ?rntq10
    case yntq10 => (intro w hSw; (try dsimp only at hSw); go_simp; (try with_reducible rfl))
    (try simp only [Act.put, jA, jB, jC])
    refine tkH 13 (v := ?vntq11) rfl ?yntq11 ?rntq11
    case yntq11 => (intro w hSw; (try dsimp only at hSw); go_simp; (try with_reducible rfl))
    (try simp only [Act.put, jA, jB, jC])
    refine wpAnyH_ready (rs := [14]) (by kernel_rfl) (by simp) ?_
    refine (AllReadyH.cons rfl (fun K hK => ?_) AllReadyH.nil)
    go_simp
    refine hK.out _ _ (kb_set HK.out (fun _ h => h.2.2.2.2.2.2) 0 _ hHeld) (fun hHeld2 => ?_)
    clear hK K hHeld
    have hHeld := hHeld2
    clear hHeld2
    (try simp only [Act.put, jA, jB, jC])
    refine tkH 15 (v := ?vntq12) rfl ?yntq12 ?rntq12
    case yntq12 => (intro w hSw; (try dsimp only at hSw); go_simp; (try with_reducible rfl))
    (try simp only [Act.put, jA, jB, jC])
    refine wpAnyH_done (by kernel_rfl) ?_ _
    have HKB := Lib.hid (hHeld.2.2.2.2.2.2)
    clear hHeld
    go_wp2
    refine bodyPost_ret (by simp [results, Tryz.results130, go_sem]; try rfl) rfl ?_
    exact ⟨k, rfl, HLO.out, Bk.other (k := k) (g := gm) HKK.out (by have := HLO.out; omega) _, (HM.out.after Z2.out).set _, HKB.out⟩
  · go_simp
    refine (top_any W D J S q _).mono ?_
    rintro e w1 ⟨rfl, hb⟩
    go_wp2_with fail
    have z1 := keep_call (w2 := w) hb zr.drew
    have Z1 := Lib.hid z1
    have b0 := (HM.out.after z1).cell
    have lm := (HM.out.after z1).lt
    have fz := (HM.out.after z1).free
    refine hK.out _ _ (kb_call HK.out (fun _ h => h.2.2.2.2.2.2) hg hb hHeld) (fun hHeld2 => ?_)
    clear hK K hHeld
    have hHeld := hHeld2
    clear hHeld2
    (try simp only [Act.put, jA, jB, jC])
    refine wpAnyH_ready (rs := [0]) (by kernel_rfl) (by simp) ?_
    refine (AllReadyH.cons rfl (fun K hK => ?_) AllReadyH.nil)
    go_simp
    refine hK.out _ _ (hHeld) (fun hHeld2 => ?_)
    clear hK K hHeld
    have hHeld := hHeld2
    clear hHeld2
    (try simp only [Act.put, jA, jB, jC])
    refine wpAnyH_ready (rs := [10]) (by kernel_rfl) (by simp) ?_
    refine (AllReadyH.cons rfl (fun K hK => ?_) AllReadyH.nil)
    go_simp
    refine (casn_n (H.out.below Z1.out) rfl HS.out EB.out ET.out).mono ?_
    rintro e w2 ⟨k, rfl, hk0, hk, hb2⟩
    go_wp2_with fail
    have HLO := Lib.hid (Nat.le_trans Z1.out.size hk0)
    have HKK := Lib.hid hk
    have z2 := keep_call (w2 := w) hb2 Z1.out
    have Z2 := Lib.hid z2
    have b0 := (HM.out.after z2).cell
    have lm := (HM.out.after z2).lt
    have fz := (HM.out.after z2).free
    clear hk hk0
    refine hK.out _ _ (kb_call HK.out (fun _ h => h.2.2.2.2.2.2) hg hb2 hHeld) (fun hHeld2 => ?_)
    clear hK K hHeld
    have hHeld := hHeld2
    clear hHeld2
    (try simp only [Act.put, jA, jB, jC])
    refine tkH 11 (v := ?vntq13) rfl ?yntq13 ?rntq13
    case yntq13 => (intro w hSw; (try dsimp only at hSw); go_simp; (try with_reducible rfl))
    (try simp only [Act.put, jA, jB, jC])
    refine tkH 12 (v := ?vntq14) rfl ?yntq14 ?rntq14
    case yntq14 => (intro w hSw; (try dsimp only at hSw); go_simp; (try with_reducible rfl))
    (try simp only [Act.put, jA, jB, jC])
    refine tkH 13 (v := ?vntq15) rfl ?yntq15 ?rntq15
    case yntq15 => (intro w hSw; (try dsimp only at hSw); go_simp; (try with_reducible rfl))
    (try simp only [Act.put, jA, jB, jC])
    refine wpAnyH_ready (rs := [14]) (by kernel_rfl) (by simp) ?_
    refine (AllReadyH.cons rfl (fun K hK => ?_) AllReadyH.nil)
    go_simp
    refine hK.out _ _ (kb_set HK.out (fun _ h => h.2.2.2.2.2.2) 0 _ hHeld) (fun hHeld2 => ?_)
    clear hK K hHeld
    have hHeld := hHeld2
    clear hHeld2
    (try simp only [Act.put, jA, jB, jC])
    refine tkH 15 (v := ?vntq16) rfl ?yntq16 ?rntq16
    case yntq16 => (intro w hSw; (try dsimp only at hSw); go_simp; (try with_reducible rfl))
    (try simp only [Act.put, jA, jB, jC])
    refine wpAnyH_done (by kernel_rfl) ?_ _
    have HKB := Lib.hid (hHeld.2.2.2.2.2.2)
    clear hHeld
    go_wp2
    refine bodyPost_ret (by simp [results, Tryz.results130, go_sem]; try rfl) rfl ?_
    exact ⟨k, rfl, HLO.out, Bk.other (k := k) (g := gm) HKK.out (by have := HLO.out; omega) _, (HM.out.after Z2.out).set _, HKB.out⟩
theorem nload_n {g : Nat} {A : Option Addr} {n c : Nat} {l : List Int} {i : Int} {w : World} (hM : Bm w g (.slice A n c)) (h : Rd w A l) (hn : l.length = n) (hs : n ≤ 500) : Tells 127 #[.int .i64 i, .pointer (some ⟨g, 0, none⟩)] w (.int .u64 (at0 l i)) := by
  subst hn
  exact nload_any g A c l i w hM h hs
theorem nset_n {gm gx gf : Nat} {f : Fr} {W D J S : Int} {A : Option Addr} {n c : Nat} {l : List Int} (T : Int) {w : World} (hM : Bm w gm (.slice A n c)) (hX : Bx w gx W D J S) (hF : Bf w gf f) (h : Rd w A l) (hn : l.length = n) (hgx : gx ≠ gm) (hgf : gf ≠ gm) (hs : n ≤ 500) :
    Calls Tryz.prog 128 #[.int .u64 T, .pointer (some ⟨gm, 0, none⟩), .pointer (some ⟨gx, 0, none⟩), .pointer (some ⟨gf, 0, none⟩)] w (RetV w gm n (.tuple #[]) (put l (ow W D J S f.who 1) T)) := by
  subst hn
  exact nset_any gm gx gf f W D J S A c l T w hM hX hF h hgx hgf hs
theorem ntake_n {gm gx gf : Nat} {f : Fr} {W D J S : Int} {A : Option Addr} {n c : Nat} {l : List Int} {bb : Bool} {T : List Int} {w : World} (hM : Bm w gm (.slice A n c)) (hX : Bx w gx W D J S) (hF : Bf w gf f) (h : Rd w A l) (hn : l.length = n) (hgx : gx ≠ gm) (hgf : gf ≠ gm) (hs : n ≤ 500)
    (hb : isAt l (ow W D J S f.who 0) f.y = bb) (hT : (if isAt l (ow W D J S f.who 0) f.y = true then put l (ow W D J S f.who 0) ((f.y + 1) % 18446744073709551616) else l) = T) :
    Calls Tryz.prog 130 #[.pointer (some ⟨gm, 0, none⟩), .pointer (some ⟨gx, 0, none⟩), .pointer (some ⟨gf, 0, none⟩)] w (RetV w gm n (.bool bb) T) := by
  subst hn
  exact ntake_any gm gx gf f W D J S A c l bb T hb hT w hM hX hF h hgx hgf hs
end Go.Proofs.YtlpkccpijloidaaGreat
namespace Go.Proofs.YtlpkccpijloidaaGreat
set_option linter.unusedSimpArgs false
set_option maxRecDepth 100000
open Go.RowKit Go.Deep
/-- The slice at A reads as the numbers l, in a block from number lo on that is none of p to p + 3. -/
def Ry (lo p : Nat) (w : World) (A : Option Addr) (l : List Int) : Prop :=
  0 < l.length → ∃ ad, A = some ad ∧ lo ≤ ad.block ∧ (ad.block < p ∨ p + 4 ≤ ad.block) ∧ ad.block < w.heap.size ∧ ∀ j u, l[j]? = some u → w.cell? (ad.add j) = some (.int .u64 u)
theorem Ry.rn {lo p : Nat} {w : World} {A : Option Addr} {l : List Int} (h : Ry lo p w A l) : Rn lo w A l := fun hp => by
  obtain ⟨ad, e, hlo, _, hlt, hc⟩ := h hp
  exact ⟨ad, e, hlo, hlt, hc⟩
theorem Ry.rd {lo p : Nat} {w : World} {A : Option Addr} {l : List Int} (h : Ry lo p w A l) : Rd w A l := h.rn.rd
theorem Ry.after {lo p : Nat} {w w' : World} {A : Option Addr} {l : List Int} (h : Ry lo p w A l) (hb : Below w.heap.size w w') : Ry lo p w' A l := fun hp => by
  obtain ⟨ad, e, hl, hne, hlt, hc⟩ := h hp
  exact ⟨ad, e, hl, hne, Nat.lt_of_lt_of_le hlt hb.size, fun j u hu => (hb.cell (p := ad.add j) (by rw [block_add]; exact hlt)).trans (hc j u hu)⟩
theorem Ry.set {lo p : Nat} {w : World} {A : Option Addr} {l : List Int} (h : Ry lo p w A l) {k i : Nat} (hk : p ≤ k ∧ k < p + 4) (v : Value) : Ry lo p (w.setCell ⟨k, i, none⟩ v) A l := fun hq => by
  obtain ⟨ad, e, hl, hne, hlt, hc⟩ := h hq
  refine ⟨ad, e, hl, hne, by simpa using hlt, fun j u hu => ?_⟩
  refine Eq.trans ?_ (hc j u hu)
  have hne : (ad.add j).block ≠ k := by rw [block_add]; omega
  exact World.cell?_of_block (Below.heap_setCell w ⟨k, i, none⟩ v _ hne)
theorem Ry.pf {lo p : Nat} {w : World} {A : Option Addr} {l : List Int} (h : Ry lo p w A l) {k : Nat} (hk : p ≤ k ∧ k < p + 4) (f : Fr) : Ry lo p (pf w k f) A l :=
  ((((((h.set hk _).set hk _).set hk _).set hk _).set hk _).set hk _).set hk _
theorem Bk.ry {lo p k : Nat} {w : World} {l : List Int} (h : Bk w k l) (hk : p + 4 ≤ k) (hl : lo ≤ k) : Ry lo p w (some ⟨k, 0, none⟩) l := fun _ =>
  ⟨_, rfl, hl, .inr hk, h.lt, fun j u hu => by rw [add_zero']; exact h.cell j u hu⟩
theorem Rn.ry {lo : Nat} {w : World} {A : Option Addr} {l : List Int} (h : Rn lo w A l) {w' : World} (hb : Below w.heap.size w w') : Ry lo w.heap.size w' A l := fun hp => by
  obtain ⟨ad, e, hlo, hlt, hc⟩ := h hp
  exact ⟨ad, e, hlo, .inl hlt, Nat.lt_of_lt_of_le hlt hb.size, fun j u hu => (hb.cell (p := ad.add j) (by rw [block_add]; exact hlt)).trans (hc j u hu)⟩
/-- What a pop's next has at hand. -/
structure Nx (w : World) (lo : Nat) (W D J S : Int) (A : Option Addr) (n c : Nat) (l : List Int) (f : Fr) (w1 : World) : Prop where
  bx : Bx w1 w.heap.size W D J S
  bm : Bm w1 (w.heap.size + 1) (.slice A n c)
  bf : Bf w1 (w.heap.size + 1 + 1) f
  br : Bf w1 (w.heap.size + 1 + 1 + 1) f0
  ry : Ry lo w.heap.size w1 A l
  be : Below w.heap.size w w1
  nl : l.length = n
section
variable {w : World} {lo : Nat} {W D J S : Int} {A : Option Addr} {n c : Nat} {l : List Int} {f : Fr} {w1 : World}
theorem Nx.call (h : Nx w lo W D J S A n c l f w1) {w2 : World} (z : Below w1.heap.size w1 w2) : Nx w lo W D J S A n c l f w2 :=
  ⟨h.bx.below z, h.bm.after z, h.bf.after z, h.br.after z, h.ry.after z, keep_call z h.be, h.nl⟩
theorem Nx.drew (h : Nx w lo W D J S A n c l f w1) : Nx w lo W D J S A n c l f w1.drew := h.call (Below.refl _ _).drew
theorem Nx.setPc (h : Nx w lo W D J S A n c l f w1) (z : Int) : Nx w lo W D J S A n c l { f with pc := z } (w1.setCell ⟨w.heap.size + 1 + 1, 1, none⟩ (.int .i64 z)) :=
  ⟨h.bx.oth (by omega) _, h.bm.other (by omega) _, h.bf.wPc z, h.br.oth (by omega) _, h.ry.set (by omega) _, h.be.setCell (by simp only; omega) _, h.nl⟩
theorem Nx.setVal (h : Nx w lo W D J S A n c l f w1) (z : Int) : Nx w lo W D J S A n c l { f with val := z } (w1.setCell ⟨w.heap.size + 1 + 1, 3, none⟩ (.int .u64 z)) :=
  ⟨h.bx.oth (by omega) _, h.bm.other (by omega) _, h.bf.wVal z, h.br.oth (by omega) _, h.ry.set (by omega) _, h.be.setCell (by simp only; omega) _, h.nl⟩
theorem Nx.setX (h : Nx w lo W D J S A n c l f w1) (z : Int) : Nx w lo W D J S A n c l { f with x := z } (w1.setCell ⟨w.heap.size + 1 + 1, 4, none⟩ (.int .u64 z)) :=
  ⟨h.bx.oth (by omega) _, h.bm.other (by omega) _, h.bf.wX z, h.br.oth (by omega) _, h.ry.set (by omega) _, h.be.setCell (by simp only; omega) _, h.nl⟩
theorem Nx.setY (h : Nx w lo W D J S A n c l f w1) (z : Int) : Nx w lo W D J S A n c l { f with y := z } (w1.setCell ⟨w.heap.size + 1 + 1, 5, none⟩ (.int .u64 z)) :=
  ⟨h.bx.oth (by omega) _, h.bm.other (by omega) _, h.bf.wY z, h.br.oth (by omega) _, h.ry.set (by omega) _, h.be.setCell (by simp only; omega) _, h.nl⟩
/-- Behind a closure that stores. -/
theorem Nx.stored (h : Nx w lo W D J S A n c l f w1) {w2 : World} {k : Nat} {l' : List Int} (hk : w1.heap.size ≤ k) (hB : Bk w2 k l') (hM : Bm w2 (w.heap.size + 1) (.slice (some ⟨k, 0, none⟩) n n)) (hK : Kb (w.heap.size + 1) w1 w2) (hl : l'.length = l.length) (hlo : lo ≤ w.heap.size) : Nx w lo W D J S (some ⟨k, 0, none⟩) n n l' f w2 := by
  have h4 := h.br.lt
  exact ⟨h.bx.kb hK (by omega), hM, h.bf.kb hK (by omega), h.br.kb hK (by omega), hB.ry (by omega) (by omega), h.be.trans (hK.low.mono (by omega)), hl.trans h.nl⟩
theorem Nx.facts (h : Nx w lo W D J S A n c l f w1) : w.heap.size < w1.heap.size ∧ w.heap.size + 1 < w1.heap.size ∧ w.heap.size + 1 + 1 < w1.heap.size ∧ w.heap.size + 1 + 1 + 1 < w1.heap.size := by
  have := h.br.lt
  omega
theorem Nx.back (h : Nx w lo W D J S A n c l f w1) (f' : Fr) : Bf (pf w1 (w.heap.size + 1 + 1 + 1) f').drew (w.heap.size + 1 + 1 + 1) f' ∧ RetQ lo w n l f' (.returned (.tuple #[.slice A n c, fv f'])) (pf w1 (w.heap.size + 1 + 1 + 1) f').drew :=
  ⟨(h.br.pf f').drew, A, c, rfl, ((h.ry.pf (by omega) f').rn).drew, (below_pf h.be (by omega) f').drew⟩
theorem Nx.back2 (h : Nx w lo W D J S A n c l f w1) (f' : Fr) : Bf (pf w1 (w.heap.size + 1 + 1 + 1) f') (w.heap.size + 1 + 1 + 1) f' ∧ RetQ lo w n l f' (.returned (.tuple #[.slice A n c, fv f'])) (pf w1 (w.heap.size + 1 + 1 + 1) f') :=
  ⟨h.br.pf f', A, c, rfl, (h.ry.pf (by omega) f').rn, below_pf h.be (by omega) f'⟩
end
/-- The four boxes. -/
def bx4 (w : World) (W D J S : Int) (v : Value) (f : Fr) : World := (((w.alloc (.cells #[.int .i64 W, .int .i64 D, .int .i64 J, .int .i64 S] 23)).alloc (.cells #[v] 26)).alloc (.cells #[.int .i64 f.op, .int .i64 f.pc, .int .i64 f.who, .int .u64 f.val, .int .u64 f.x, .int .u64 f.y, .int .i64 f.res] 30)).alloc (.cells #[.int .i64 0, .int .i64 0, .int .i64 0, .int .u64 0, .int .u64 0, .int .u64 0, .int .i64 0] 30)
theorem boxes4 {w : World} {lo : Nat} {W D J S : Int} {A : Option Addr} {n c : Nat} {l : List Int} (f : Fr) (h : Rn lo w A l) (hn : l.length = n) : Nx w lo W D J S A n c l f (bx4 w W D J S (.slice A n c) f) := by
  have hb : Below w.heap.size w (bx4 w W D J S (.slice A n c) f) := by
    unfold bx4
    exact ((((Below.refl _ _).alloc (Nat.le_refl _) _).alloc (by simp) _).alloc (by simp; omega) _).alloc (by simp; omega) _
  refine ⟨?_, ?_, ?_, ?_, h.ry hb, hb, hn⟩
  · exact (((Bx.mk w W D J S 23).alloc _).alloc _).alloc _
  · have e : Bm ((w.alloc (.cells #[.int .i64 W, .int .i64 D, .int .i64 J, .int .i64 S] 23)).alloc (.cells #[.slice A n c] 26)) (w.heap.size + 1) (.slice A n c) := by
      have := heap_alloc_new (w.alloc (.cells #[.int .i64 W, .int .i64 D, .int .i64 J, .int .i64 S] 23)) (.cells #[.slice A n c] 26)
      simpa [Bm, Bv] using this
    exact (e.after (box_below _ _)).after (box_below _ _)
  · have e : Bf (((w.alloc (.cells #[.int .i64 W, .int .i64 D, .int .i64 J, .int .i64 S] 23)).alloc (.cells #[.slice A n c] 26)).alloc (.cells #[.int .i64 f.op, .int .i64 f.pc, .int .i64 f.who, .int .u64 f.val, .int .u64 f.x, .int .u64 f.y, .int .i64 f.res] 30)) (w.heap.size + 1 + 1) f := by
      have := Bf.new ((w.alloc (.cells #[.int .i64 W, .int .i64 D, .int .i64 J, .int .i64 S] 23)).alloc (.cells #[.slice A n c] 26)) f
      simpa using this
    exact e.after (box_below _ _)
  · have := heap_alloc_new (((w.alloc (.cells #[.int .i64 W, .int .i64 D, .int .i64 J, .int .i64 S] 23)).alloc (.cells #[.slice A n c] 26)).alloc (.cells #[.int .i64 f.op, .int .i64 f.pc, .int .i64 f.who, .int .u64 f.val, .int .u64 f.x, .int .u64 f.y, .int .i64 f.res] 30)) (.cells #[.int .i64 0, .int .i64 0, .int .i64 0, .int .u64 0, .int .u64 0, .int .u64 0, .int .i64 0] 30)
    simpa [bx4, Bf, f0] using this
end Go.Proofs.YtlpkccpijloidaaGreat
