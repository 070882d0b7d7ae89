/- A pop's next: a scope with jumps ahead, a box of cells, and what the closures do. -/
import Derived.Test.YtpeaahihjeplmaaNxA
import Derived.Test.YtpeaahihjeplmaaPuH2
import Derived.WalkMore
import Derived.RegionTactic
namespace Go.Proofs.Ytpeaahihjeplmaa
open Go.RowKit Go.Deep
/-- As Q; by a goto to label l: J l. -/
def exTo (J : Nat → Act → World → Prop) (Q : Exit → Act → World → Prop) : Exit → Act → World → Prop
  | .goto l, a, w => J l a w
  | e, a, w => Q e a w
set_option maxRecDepth 100000 in
theorem exTo_normal {J : Nat → Act → World → Prop} {Q : Exit → Act → World → Prop} {a : Act} {w : World} : exTo J Q .normal a w = Q .normal a w := rfl
set_option maxRecDepth 100000 in
theorem exTo_exit {J : Nat → Act → World → Prop} {Q : Exit → Act → World → Prop} {a : Act} {w : World} (id : Nat) : exTo J Q (.exit id) a w = Q (.exit id) a w := rfl
set_option maxRecDepth 100000 in
theorem exTo_ret {J : Nat → Act → World → Prop} {Q : Exit → Act → World → Prop} {a : Act} {w : World} : exTo J Q .ret a w = Q .ret a w := rfl
set_option maxRecDepth 100000 in
theorem exTo_goto {J : Nat → Act → World → Prop} {Q : Exit → Act → World → Prop} {a : Act} {w : World} (l : Nat) : exTo J Q (.goto l) a w = J l a w := rfl
set_option maxRecDepth 100000 in
/-- A scope whose labels all lie ahead: what comes behind a label jumps no more. -/
theorem wp_scope_to {P : Program} {a : Act} {w : World} {Q : Exit → Act → World → Prop} {c : Code} (J : Nat → Act → World → Prop)
    (hJ : ∀ l a w, J l a w → ∃ rest, findLabel c l = some rest ∧ rest.wp P (Exit.noGoto Q) a w) (first : c.wp P (exTo J Q) a w) : (Code.scope c).wp P Q a w := by
  intro b k cs
  obtain ⟨e, a₁, w₁, hq, harr⟩ := first b (.inScope c :: k) cs
  cases e with
  | normal => exact ⟨.normal, a₁, w₁, hq, .head step_scope (Steps.trans harr (.one step_inScope))⟩
  | exit id => exact ⟨.exit id, a₁, w₁, hq, fun k' hk => .head step_scope (harr k' (by simp [exitTo, hk]))⟩
  | goto l' =>
    obtain ⟨rest, hf, hr⟩ := hJ _ _ _ hq
    have hg : gotoIn l' (.inScope c :: k) = some (.code rest :: .inScope c :: k) := by simp [gotoIn, hf]
    obtain ⟨e₂, a₂, w₂, hq₂, harr₂⟩ := hr b (.inScope c :: k) cs
    have h0 : Steps P (lone (b.at a (.code (.scope c) :: k)) cs w) (lone (b.at a₁ (.code rest :: .inScope c :: k)) cs w₁) := .head step_scope (harr _ hg)
    cases e₂ with
    | normal => exact ⟨.normal, a₂, w₂, hq₂, Steps.trans h0 (Steps.trans harr₂ (.one step_inScope))⟩
    | exit id => exact ⟨.exit id, a₂, w₂, hq₂, fun k' hk => Steps.trans h0 (harr₂ k' (by simp [exitTo, hk]))⟩
    | goto l => exact hq₂.elim
    | ret => exact ⟨_, a₂, w₂, hq₂, .of_steps h0 harr₂⟩
    | panic ch => exact ⟨_, a₂, w₂, hq₂, .of_steps h0 harr₂⟩
    | outgrown => exact ⟨_, a₂, w₂, hq₂, .of_steps h0 harr₂⟩
  | ret => exact ⟨_, a₁, w₁, hq, .of_steps (.one step_scope) harr⟩
  | panic ch => exact ⟨_, a₁, w₁, hq, .of_steps (.one step_scope) harr⟩
  | outgrown => exact ⟨_, a₁, w₁, hq, .of_steps (.one step_scope) harr⟩
set_option maxRecDepth 100000 in
theorem nload_any (g : Nat) (A : Option Addr) (c : Nat) (l : List Int) (i : Int) (w : World) (hM : Bm w g (.slice A l.length c)) (h : Rd w A l) (hs : l.length ≤ 500) : Tells 88 #[.int .i64 i, .pointer (some ⟨g, 0, none⟩)] w (.int .u64 (at0 l i)) := by
  have HS := Lib.hid hs
  have H := Lib.hid h
  have hm := hM.cell
  have hl := hM.lt
  clear hs h
  go_enter Try.func88, Try.ntmps88
  go_wp2_with fail
  refine (load_any A l.length c l i _ H.out rfl HS.out).mono ?_
  rintro _ w1 ⟨rfl, hb⟩
  have HB := Lib.hid hb
  clear hb
  go_wp2
  go_ret
  exact ⟨rfl, HB.out⟩
set_option maxRecDepth 100000 in
set_option maxHeartbeats 2000000 in
theorem nset_any (gm gx gf : Nat) (f : Fr) (W D J S : Int) (A : Option Addr) (c : Nat) (l : List Int) (T : Int) (w : World) (hM : Bm w gm (.slice A l.length c)) (hX : Bx w gx W D J S) (hF : Bf w gf f) (h : Rd w A l) (hgx : gx ≠ gm) (hgf : gf ≠ gm) (hs : l.length ≤ 500) :
    Calls Try.prog 89 #[.int .u64 T, .pointer (some ⟨gm, 0, none⟩), .pointer (some ⟨gx, 0, none⟩), .pointer (some ⟨gf, 0, none⟩)] w (RetV w gm l.length (.tuple #[]) (put l (ow W D J S f.who 1) T)) := by
  have HM := Lib.hid hM
  have H := Lib.hid h
  have HS := Lib.hid hs
  obtain ⟨o, p, q, v, x, y, s⟩ := f
  have hg := hM.lt
  have lgx := hX.1
  have lgf := hF.lt
  have b0 := hM.cell
  have fz := hM.free
  have zr := Below.refl w.heap.size w
  have HK := Lib.hid (show ∀ x', Kb gm w x' → (fun w' => w'.cell? ⟨gx, 0, none⟩ = some (.int .i64 W) ∧ w'.cell? ⟨gx, 1, none⟩ = some (.int .i64 D) ∧ w'.cell? ⟨gx, 2, none⟩ = some (.int .i64 J) ∧ w'.cell? ⟨gx, 3, none⟩ = some (.int .i64 S) ∧ w'.cell? ⟨gf, 2, none⟩ = some (.int .i64 q) ∧ Kb gm w w') x' from fun x' hx => by
    obtain ⟨_, e0, e1, e2, e3⟩ := hX.kb hx hgx
    obtain ⟨d0, d1, d2, d3, d4, d5, d6⟩ := (hF.kb hx hgf).cells
    exact ⟨e0, e1, e2, e3, d2, hx⟩)
  have hHeld0 := HK.out _ (Kb.refl gm w)
  clear hM h hs hX hF
  go_enter Try.func89, Try.ntmps89
  go_wp2_with fail
  refine wp_region_held_drew (S := fun w' => w'.cell? ⟨gx, 0, none⟩ = some (.int .i64 W) ∧ w'.cell? ⟨gx, 1, none⟩ = some (.int .i64 D) ∧ w'.cell? ⟨gx, 2, none⟩ = some (.int .i64 J) ∧ w'.cell? ⟨gx, 3, none⟩ = some (.int .i64 S) ∧ w'.cell? ⟨gf, 2, none⟩ = some (.int .i64 q) ∧ Kb gm w w') (by kernel_rfl) (kb_drew HK.out (fun _ h => h.2.2.2.2.2) hHeld0) (fun hHeld => ?_)
  refine wpAnyH_take (i := 1) (oi := { dst := some 6, op := Go.Op.load 23 (Go.Operand.tmp 2), type := 23, pos := "pop.go:42", after := #[], guard := none }) (v := ?vnsq1) rfl (by kernel_rfl) (by kernel_rfl) (by kernel_rfl) (fun _ _ _ h => h) (Or.inl ⟨by rfl, ?ynsq1⟩) (by assumption) ?rnsq1
  case ynsq1 => (intro w hSw; (try dsimp only at hSw); go_simp; (try with_reducible rfl))
  (try simp only [Act.put, List.setIfInBounds_toArray, List.set_cons_zero, List.set_cons_succ])
  refine wpAnyH_take (i := 2) (oi := { dst := some 7, op := Go.Op.fieldAddr 28 (Go.Operand.tmp 3) 2, type := 0, pos := "pop.go:42", after := #[], guard := none }) (v := ?vnsq2) rfl (by kernel_rfl) (by kernel_rfl) (by kernel_rfl) (fun _ _ _ h => h) (Or.inl ⟨by rfl, ?ynsq2⟩) (by assumption) ?rnsq2
  case ynsq2 => (intro w hSw; (try dsimp only at hSw); go_simp; (try with_reducible rfl))
  (try simp only [Act.put, List.setIfInBounds_toArray, List.set_cons_zero, List.set_cons_succ])
  refine wpAnyH_take (i := 3) (oi := { dst := some 8, op := Go.Op.load 3 (Go.Operand.tmp 7), type := 3, pos := "pop.go:42", after := #[{ on := 2, ground := Go.Ground.data }], guard := none }) (v := ?vnsq3) rfl (by kernel_rfl) (by kernel_rfl) (by kernel_rfl) (fun _ _ _ h => h) (Or.inl ⟨by rfl, ?ynsq3⟩) (by assumption) ?rnsq3
  case ynsq3 => (intro w hSw; (try dsimp only at hSw); go_simp; (try with_reducible rfl))
  (try simp only [Act.put, List.setIfInBounds_toArray, List.set_cons_zero, List.set_cons_succ])
  refine wpAnyH_take (i := 5) (oi := { dst := some 10, op := Go.Op.move (Go.Operand.tmp 0), type := 26, pos := "pop.go:42", after := #[], guard := none }) (v := ?vnsq4) rfl (by kernel_rfl) (by kernel_rfl) (by kernel_rfl) (fun _ _ _ h => h) (Or.inl ⟨by rfl, ?ynsq4⟩) (by assumption) ?rnsq4
  case ynsq4 => (intro w hSw; (try dsimp only at hSw); go_simp; (try with_reducible rfl))
  (try simp only [Act.put, List.setIfInBounds_toArray, List.set_cons_zero, List.set_cons_succ])
  refine wpAnyH_ready (rs := [0, 4]) (by kernel_rfl) (by simp) ?_
  refine (AllReadyH.cons (o := { dst := some 5, op := Go.Op.load 25 (Go.Operand.tmp 1), type := 25, pos := "pop.go:42", after := #[], guard := none }) rfl (fun K hK => ?_) (AllReadyH.cons (o := { dst := some 9, op := Go.Op.call { callee := Go.Callee.value (Go.Operand.func 50), args := #[Go.Operand.tmp 6, Go.Operand.tmp 8], argTypes := #[23, 3] }, type := 3, pos := "pop.go:42", after := #[{ on := 1, ground := Go.Ground.data }, { on := 3, ground := Go.Ground.data }], guard := none }) rfl (fun K hK => ?_) AllReadyH.nil))
  · go_simp
    refine hK.out _ _ (hHeld) (fun hHeld2 => ?_)
    clear hK K hHeld
    have hHeld := hHeld2
    clear hHeld2
    (try simp only [Act.put, List.setIfInBounds_toArray, List.set_cons_zero, List.set_cons_succ])
    refine wpAnyH_ready (rs := [4]) (by kernel_rfl) (by simp) ?_
    refine (AllReadyH.cons (o := { dst := some 9, op := Go.Op.call { callee := Go.Callee.value (Go.Operand.func 50), args := #[Go.Operand.tmp 6, Go.Operand.tmp 8], argTypes := #[23, 3] }, type := 3, pos := "pop.go:42", after := #[{ on := 1, ground := Go.Ground.data }, { on := 3, ground := Go.Ground.data }], guard := none }) rfl (fun K hK => ?_) AllReadyH.nil)
    go_simp
    refine (bottom_any W D J S q _).mono ?_
    rintro e w1 ⟨rfl, hb⟩
    go_wp2_with fail
    have z1 := keep_call (w2 := w) hb zr.drew
    have Z1 := Lib.hid z1
    have b0 := (HM.out.after z1).cell
    have lm := (HM.out.after z1).lt
    have fz := (HM.out.after z1).free
    refine hK.out _ _ (kb_call HK.out (fun _ h => h.2.2.2.2.2) hg hb hHeld) (fun hHeld2 => ?_)
    clear hK K hHeld
    have hHeld := hHeld2
    clear hHeld2
    (try simp only [Act.put, List.setIfInBounds_toArray, List.set_cons_zero, List.set_cons_succ])
    refine wpAnyH_ready (rs := [6]) (by kernel_rfl) (by simp) ?_
    refine (AllReadyH.cons (o := { dst := some 11, op := Go.Op.call { callee := Go.Callee.value (Go.Operand.func 90), args := #[Go.Operand.tmp 5, Go.Operand.tmp 9, Go.Operand.tmp 10], argTypes := #[25, 3, 26] }, type := 25, pos := "pop.go:42", after := #[{ on := 0, ground := Go.Ground.data }, { on := 4, ground := Go.Ground.data }, { on := 5, ground := Go.Ground.data }, { on := 4, ground := Go.Ground.chain }], guard := none }) rfl (fun K hK => ?_) AllReadyH.nil)
    go_simp
    refine (store_new A l.length c l _ T _ (H.out.below Z1.out) rfl HS.out).mono ?_
    rintro e w2 ⟨k, rfl, hk0, hk, hb2⟩
    go_wp2_with fail
    have HLO := Lib.hid (Nat.le_trans Z1.out.size hk0)
    have HKK := Lib.hid hk
    have z2 := keep_call (w2 := w) hb2 Z1.out
    have Z2 := Lib.hid z2
    have b0 := (HM.out.after z2).cell
    have lm := (HM.out.after z2).lt
    have fz := (HM.out.after z2).free
    clear hk hk0
    refine hK.out _ _ (kb_call HK.out (fun _ h => h.2.2.2.2.2) hg hb2 hHeld) (fun hHeld2 => ?_)
    clear hK K hHeld
    have hHeld := hHeld2
    clear hHeld2
    (try simp only [Act.put, List.setIfInBounds_toArray, List.set_cons_zero, List.set_cons_succ])
    refine wpAnyH_ready (rs := [7]) (by kernel_rfl) (by simp) ?_
    refine (AllReadyH.cons (o := { dst := none, op := Go.Op.store 25 (Go.Operand.tmp 1) (Go.Operand.tmp 11), type := 0, pos := "pop.go:42", after := #[{ on := 6, ground := Go.Ground.data }, { on := 6, ground := Go.Ground.chain }, { on := 0, ground := Go.Ground.phase }, { on := 1, ground := Go.Ground.phase }, { on := 2, ground := Go.Ground.phase }, { on := 3, ground := Go.Ground.phase }, { on := 4, ground := Go.Ground.phase }, { on := 5, ground := Go.Ground.phase }, { on := 6, ground := Go.Ground.phase }], guard := none }) rfl (fun K hK => ?_) AllReadyH.nil)
    go_simp
    refine hK.out _ _ (kb_set HK.out (fun _ h => h.2.2.2.2.2) 0 _ hHeld) (fun hHeld2 => ?_)
    clear hK K hHeld
    have hHeld := hHeld2
    clear hHeld2
    (try simp only [Act.put, List.setIfInBounds_toArray, List.set_cons_zero, List.set_cons_succ])
    refine wpAnyH_done (by kernel_rfl) ?_ _
    have HKB := Lib.hid (hHeld.2.2.2.2.2)
    clear hHeld
    go_wp2
    refine bodyPost_ret (by simp [results, Try.results89, go_sem]; try rfl) rfl ?_
    exact ⟨k, rfl, HLO.out, Bk.other (k := k) (g := gm) HKK.out (by have := HLO.out; omega) _, (HM.out.after Z2.out).set _, HKB.out⟩
  · go_simp
    refine (bottom_any W D J S q _).mono ?_
    rintro e w1 ⟨rfl, hb⟩
    go_wp2_with fail
    have z1 := keep_call (w2 := w) hb zr.drew
    have Z1 := Lib.hid z1
    have b0 := (HM.out.after z1).cell
    have lm := (HM.out.after z1).lt
    have fz := (HM.out.after z1).free
    refine hK.out _ _ (kb_call HK.out (fun _ h => h.2.2.2.2.2) hg hb hHeld) (fun hHeld2 => ?_)
    clear hK K hHeld
    have hHeld := hHeld2
    clear hHeld2
    (try simp only [Act.put, List.setIfInBounds_toArray, List.set_cons_zero, List.set_cons_succ])
    refine wpAnyH_ready (rs := [0]) (by kernel_rfl) (by simp) ?_
    refine (AllReadyH.cons (o := { dst := some 5, op := Go.Op.load 25 (Go.Operand.tmp 1), type := 25, pos := "pop.go:42", after := #[], guard := none }) rfl (fun K hK => ?_) AllReadyH.nil)
    go_simp
    refine hK.out _ _ (hHeld) (fun hHeld2 => ?_)
    clear hK K hHeld
    have hHeld := hHeld2
    clear hHeld2
    (try simp only [Act.put, List.setIfInBounds_toArray, List.set_cons_zero, List.set_cons_succ])
    refine wpAnyH_ready (rs := [6]) (by kernel_rfl) (by simp) ?_
    refine (AllReadyH.cons (o := { dst := some 11, op := Go.Op.call { callee := Go.Callee.value (Go.Operand.func 90), args := #[Go.Operand.tmp 5, Go.Operand.tmp 9, Go.Operand.tmp 10], argTypes := #[25, 3, 26] }, type := 25, pos := "pop.go:42", after := #[{ on := 0, ground := Go.Ground.data }, { on := 4, ground := Go.Ground.data }, { on := 5, ground := Go.Ground.data }, { on := 4, ground := Go.Ground.chain }], guard := none }) rfl (fun K hK => ?_) AllReadyH.nil)
    go_simp
    refine (store_new A l.length c l _ T _ (H.out.below Z1.out) rfl HS.out).mono ?_
    rintro e w2 ⟨k, rfl, hk0, hk, hb2⟩
    go_wp2_with fail
    have HLO := Lib.hid (Nat.le_trans Z1.out.size hk0)
    have HKK := Lib.hid hk
    have z2 := keep_call (w2 := w) hb2 Z1.out
    have Z2 := Lib.hid z2
    have b0 := (HM.out.after z2).cell
    have lm := (HM.out.after z2).lt
    have fz := (HM.out.after z2).free
    clear hk hk0
    refine hK.out _ _ (kb_call HK.out (fun _ h => h.2.2.2.2.2) hg hb2 hHeld) (fun hHeld2 => ?_)
    clear hK K hHeld
    have hHeld := hHeld2
    clear hHeld2
    (try simp only [Act.put, List.setIfInBounds_toArray, List.set_cons_zero, List.set_cons_succ])
    refine wpAnyH_ready (rs := [7]) (by kernel_rfl) (by simp) ?_
    refine (AllReadyH.cons (o := { dst := none, op := Go.Op.store 25 (Go.Operand.tmp 1) (Go.Operand.tmp 11), type := 0, pos := "pop.go:42", after := #[{ on := 6, ground := Go.Ground.data }, { on := 6, ground := Go.Ground.chain }, { on := 0, ground := Go.Ground.phase }, { on := 1, ground := Go.Ground.phase }, { on := 2, ground := Go.Ground.phase }, { on := 3, ground := Go.Ground.phase }, { on := 4, ground := Go.Ground.phase }, { on := 5, ground := Go.Ground.phase }, { on := 6, ground := Go.Ground.phase }], guard := none }) rfl (fun K hK => ?_) AllReadyH.nil)
    go_simp
    refine hK.out _ _ (kb_set HK.out (fun _ h => h.2.2.2.2.2) 0 _ hHeld) (fun hHeld2 => ?_)
    clear hK K hHeld
    have hHeld := hHeld2
    clear hHeld2
    (try simp only [Act.put, List.setIfInBounds_toArray, List.set_cons_zero, List.set_cons_succ])
    refine wpAnyH_done (by kernel_rfl) ?_ _
    have HKB := Lib.hid (hHeld.2.2.2.2.2)
    clear hHeld
    go_wp2
    refine bodyPost_ret (by simp [results, Try.results89, go_sem]; try rfl) rfl ?_
    exact ⟨k, rfl, HLO.out, Bk.other (k := k) (g := gm) HKK.out (by have := HLO.out; omega) _, (HM.out.after Z2.out).set _, HKB.out⟩
set_option maxRecDepth 100000 in
set_option maxHeartbeats 2000000 in
theorem ntake_any (gm gx gf : Nat) (f : Fr) (W D J S : Int) (A : Option Addr) (c : Nat) (l : List Int) (bb : Bool) (T : List Int) (hb : isAt l (ow W D J S f.who 0) f.y = bb) (hT : (if isAt l (ow W D J S f.who 0) f.y = true then put l (ow W D J S f.who 0) ((f.y + 1) % 18446744073709551616) else l) = T) (w : World) (hM : Bm w gm (.slice A l.length c)) (hX : Bx w gx W D J S) (hF : Bf w gf f) (h : Rd w A l) (hgx : gx ≠ gm) (hgf : gf ≠ gm) (hs : l.length ≤ 500) :
    Calls Try.prog 91 #[.pointer (some ⟨gm, 0, none⟩), .pointer (some ⟨gx, 0, none⟩), .pointer (some ⟨gf, 0, none⟩)] w (RetV w gm l.length (.bool bb) T) := by
  have HM := Lib.hid hM
  have H := Lib.hid h
  have HS := Lib.hid hs
  obtain ⟨o, p, q, v, x, y, s⟩ := f
  have EB := Lib.hid hb
  have ET := Lib.hid hT
  clear hb hT
  have hg := hM.lt
  have lgx := hX.1
  have lgf := hF.lt
  have b0 := hM.cell
  have fz := hM.free
  have zr := Below.refl w.heap.size w
  have HK := Lib.hid (show ∀ x', Kb gm w x' → (fun w' => w'.cell? ⟨gx, 0, none⟩ = some (.int .i64 W) ∧ w'.cell? ⟨gx, 1, none⟩ = some (.int .i64 D) ∧ w'.cell? ⟨gx, 2, none⟩ = some (.int .i64 J) ∧ w'.cell? ⟨gx, 3, none⟩ = some (.int .i64 S) ∧ w'.cell? ⟨gf, 2, none⟩ = some (.int .i64 q) ∧ w'.cell? ⟨gf, 5, none⟩ = some (.int .u64 y) ∧ Kb gm w w') x' from fun x' hx => by
    obtain ⟨_, e0, e1, e2, e3⟩ := hX.kb hx hgx
    obtain ⟨d0, d1, d2, d3, d4, d5, d6⟩ := (hF.kb hx hgf).cells
    exact ⟨e0, e1, e2, e3, d2, d5, hx⟩)
  have hHeld0 := HK.out _ (Kb.refl gm w)
  clear hM h hs hX hF
  go_enter Try.func91, Try.ntmps91
  go_wp2_with fail
  refine wp_region_held_drew (S := fun w' => w'.cell? ⟨gx, 0, none⟩ = some (.int .i64 W) ∧ w'.cell? ⟨gx, 1, none⟩ = some (.int .i64 D) ∧ w'.cell? ⟨gx, 2, none⟩ = some (.int .i64 J) ∧ w'.cell? ⟨gx, 3, none⟩ = some (.int .i64 S) ∧ w'.cell? ⟨gf, 2, none⟩ = some (.int .i64 q) ∧ w'.cell? ⟨gf, 5, none⟩ = some (.int .u64 y) ∧ Kb gm w w') (by kernel_rfl) (kb_drew HK.out (fun _ h => h.2.2.2.2.2.2) hHeld0) (fun hHeld => ?_)
  refine wpAnyH_take (i := 1) (oi := { dst := some 6, op := Go.Op.load 23 (Go.Operand.tmp 1), type := 23, pos := "pop.go:44", after := #[], guard := none }) (v := ?vntq1) rfl (by kernel_rfl) (by kernel_rfl) (by kernel_rfl) (fun _ _ _ h => h) (Or.inl ⟨by rfl, ?yntq1⟩) (by assumption) ?rntq1
  case yntq1 => (intro w hSw; (try dsimp only at hSw); go_simp; (try with_reducible rfl))
  (try simp only [Act.put, List.setIfInBounds_toArray, List.set_cons_zero, List.set_cons_succ])
  refine wpAnyH_take (i := 2) (oi := { dst := some 7, op := Go.Op.fieldAddr 28 (Go.Operand.tmp 2) 2, type := 0, pos := "pop.go:44", after := #[], guard := none }) (v := ?vntq2) rfl (by kernel_rfl) (by kernel_rfl) (by kernel_rfl) (fun _ _ _ h => h) (Or.inl ⟨by rfl, ?yntq2⟩) (by assumption) ?rntq2
  case yntq2 => (intro w hSw; (try dsimp only at hSw); go_simp; (try with_reducible rfl))
  (try simp only [Act.put, List.setIfInBounds_toArray, List.set_cons_zero, List.set_cons_succ])
  refine wpAnyH_take (i := 3) (oi := { dst := some 8, op := Go.Op.load 3 (Go.Operand.tmp 7), type := 3, pos := "pop.go:44", after := #[{ on := 2, ground := Go.Ground.data }], guard := none }) (v := ?vntq3) rfl (by kernel_rfl) (by kernel_rfl) (by kernel_rfl) (fun _ _ _ h => h) (Or.inl ⟨by rfl, ?yntq3⟩) (by assumption) ?rntq3
  case yntq3 => (intro w hSw; (try dsimp only at hSw); go_simp; (try with_reducible rfl))
  (try simp only [Act.put, List.setIfInBounds_toArray, List.set_cons_zero, List.set_cons_succ])
  refine wpAnyH_take (i := 5) (oi := { dst := some 10, op := Go.Op.fieldAddr 28 (Go.Operand.tmp 2) 5, type := 0, pos := "pop.go:44", after := #[], guard := none }) (v := ?vntq4) rfl (by kernel_rfl) (by kernel_rfl) (by kernel_rfl) (fun _ _ _ h => h) (Or.inl ⟨by rfl, ?yntq4⟩) (by assumption) ?rntq4
  case yntq4 => (intro w hSw; (try dsimp only at hSw); go_simp; (try with_reducible rfl))
  (try simp only [Act.put, List.setIfInBounds_toArray, List.set_cons_zero, List.set_cons_succ])
  refine wpAnyH_take (i := 6) (oi := { dst := some 11, op := Go.Op.load 26 (Go.Operand.tmp 10), type := 26, pos := "pop.go:44", after := #[{ on := 5, ground := Go.Ground.data }], guard := none }) (v := ?vntq5) rfl (by kernel_rfl) (by kernel_rfl) (by kernel_rfl) (fun _ _ _ h => h) (Or.inl ⟨by rfl, ?yntq5⟩) (by assumption) ?rntq5
  case yntq5 => (intro w hSw; (try dsimp only at hSw); go_simp; (try with_reducible rfl))
  (try simp only [Act.put, List.setIfInBounds_toArray, List.set_cons_zero, List.set_cons_succ])
  refine wpAnyH_take (i := 7) (oi := { dst := some 12, op := Go.Op.fieldAddr 28 (Go.Operand.tmp 2) 5, type := 0, pos := "pop.go:44", after := #[], guard := none }) (v := ?vntq6) rfl (by kernel_rfl) (by kernel_rfl) (by kernel_rfl) (fun _ _ _ h => h) (Or.inl ⟨by rfl, ?yntq6⟩) (by assumption) ?rntq6
  case yntq6 => (intro w hSw; (try dsimp only at hSw); go_simp; (try with_reducible rfl))
  (try simp only [Act.put, List.setIfInBounds_toArray, List.set_cons_zero, List.set_cons_succ])
  refine wpAnyH_take (i := 8) (oi := { dst := some 13, op := Go.Op.load 26 (Go.Operand.tmp 12), type := 26, pos := "pop.go:44", after := #[{ on := 7, ground := Go.Ground.data }], guard := none }) (v := ?vntq7) rfl (by kernel_rfl) (by kernel_rfl) (by kernel_rfl) (fun _ _ _ h => h) (Or.inl ⟨by rfl, ?yntq7⟩) (by assumption) ?rntq7
  case yntq7 => (intro w hSw; (try dsimp only at hSw); go_simp; (try with_reducible rfl))
  (try simp only [Act.put, List.setIfInBounds_toArray, List.set_cons_zero, List.set_cons_succ])
  refine wpAnyH_take (i := 9) (oi := { dst := some 14, op := Go.Op.binOp Go.BinOp.add 26 (Go.Operand.tmp 13) (Go.Operand.const (Go.Value.int Go.IntKind.u64 1)) 26, type := 26, pos := "pop.go:44", after := #[{ on := 8, ground := Go.Ground.data }], guard := none }) (v := ?vntq8) rfl (by kernel_rfl) (by kernel_rfl) (by kernel_rfl) (fun _ _ _ h => h) (Or.inl ⟨by rfl, ?yntq8⟩) (by assumption) ?rntq8
  case yntq8 => (intro w hSw; (try dsimp only at hSw); go_simp; (try with_reducible rfl))
  (try simp only [Act.put, List.setIfInBounds_toArray, List.set_cons_zero, List.set_cons_succ])
  refine wpAnyH_ready (rs := [0, 4]) (by kernel_rfl) (by simp) ?_
  refine (AllReadyH.cons (o := { dst := some 5, op := Go.Op.load 25 (Go.Operand.tmp 0), type := 25, pos := "pop.go:44", after := #[], guard := none }) rfl (fun K hK => ?_) (AllReadyH.cons (o := { dst := some 9, op := Go.Op.call { callee := Go.Callee.value (Go.Operand.func 49), args := #[Go.Operand.tmp 6, Go.Operand.tmp 8], argTypes := #[23, 3] }, type := 3, pos := "pop.go:44", after := #[{ on := 1, ground := Go.Ground.data }, { on := 3, ground := Go.Ground.data }], guard := none }) rfl (fun K hK => ?_) AllReadyH.nil))
  · go_simp
    refine hK.out _ _ (hHeld) (fun hHeld2 => ?_)
    clear hK K hHeld
    have hHeld := hHeld2
    clear hHeld2
    (try simp only [Act.put, List.setIfInBounds_toArray, List.set_cons_zero, List.set_cons_succ])
    refine wpAnyH_ready (rs := [4]) (by kernel_rfl) (by simp) ?_
    refine (AllReadyH.cons (o := { dst := some 9, op := Go.Op.call { callee := Go.Callee.value (Go.Operand.func 49), args := #[Go.Operand.tmp 6, Go.Operand.tmp 8], argTypes := #[23, 3] }, type := 3, pos := "pop.go:44", after := #[{ on := 1, ground := Go.Ground.data }, { on := 3, ground := Go.Ground.data }], guard := none }) rfl (fun K hK => ?_) AllReadyH.nil)
    go_simp
    refine (top_any W D J S q _).mono ?_
    rintro e w1 ⟨rfl, hb⟩
    go_wp2_with fail
    have z1 := keep_call (w2 := w) hb zr.drew
    have Z1 := Lib.hid z1
    have b0 := (HM.out.after z1).cell
    have lm := (HM.out.after z1).lt
    have fz := (HM.out.after z1).free
    refine hK.out _ _ (kb_call HK.out (fun _ h => h.2.2.2.2.2.2) hg hb hHeld) (fun hHeld2 => ?_)
    clear hK K hHeld
    have hHeld := hHeld2
    clear hHeld2
    (try simp only [Act.put, List.setIfInBounds_toArray, List.set_cons_zero, List.set_cons_succ])
    refine wpAnyH_ready (rs := [10]) (by kernel_rfl) (by simp) ?_
    refine (AllReadyH.cons (o := { dst := some 15, op := Go.Op.call { callee := Go.Callee.value (Go.Operand.func 92), args := #[Go.Operand.tmp 5, Go.Operand.tmp 9, Go.Operand.tmp 11, Go.Operand.tmp 14], argTypes := #[25, 3, 26, 26] }, type := 83, pos := "pop.go:44", after := #[{ on := 0, ground := Go.Ground.data }, { on := 4, ground := Go.Ground.data }, { on := 6, ground := Go.Ground.data }, { on := 9, ground := Go.Ground.data }, { on := 4, ground := Go.Ground.chain }], guard := none }) rfl (fun K hK => ?_) AllReadyH.nil)
    go_simp
    refine (casn_n (H.out.below Z1.out) rfl HS.out EB.out ET.out).mono ?_
    rintro e w2 ⟨k, rfl, hk0, hk, hb2⟩
    go_wp2_with fail
    have HLO := Lib.hid (Nat.le_trans Z1.out.size hk0)
    have HKK := Lib.hid hk
    have z2 := keep_call (w2 := w) hb2 Z1.out
    have Z2 := Lib.hid z2
    have b0 := (HM.out.after z2).cell
    have lm := (HM.out.after z2).lt
    have fz := (HM.out.after z2).free
    clear hk hk0
    refine hK.out _ _ (kb_call HK.out (fun _ h => h.2.2.2.2.2.2) hg hb2 hHeld) (fun hHeld2 => ?_)
    clear hK K hHeld
    have hHeld := hHeld2
    clear hHeld2
    (try simp only [Act.put, List.setIfInBounds_toArray, List.set_cons_zero, List.set_cons_succ])
    refine wpAnyH_take (i := 11) (oi := { dst := some 4, op := Go.Op.move (Go.Operand.tmp 15), type := 83, pos := "pop.go:44", after := #[{ on := 10, ground := Go.Ground.data }], guard := none }) (v := ?vntq9) rfl (by kernel_rfl) (by kernel_rfl) (by kernel_rfl) (fun _ _ _ h => h) (Or.inl ⟨by rfl, ?yntq9⟩) (by assumption) ?rntq9
    case yntq9 => (intro w hSw; (try dsimp only at hSw); go_simp; (try with_reducible rfl))
    (try simp only [Act.put, List.setIfInBounds_toArray, List.set_cons_zero, List.set_cons_succ])
    refine wpAnyH_take (i := 12) (oi := { dst := some 16, op := Go.Op.extract (Go.Operand.tmp 4) 0, type := 25, pos := "pop.go:44", after := #[{ on := 11, ground := Go.Ground.data }], guard := none }) (v := ?vntq10) rfl (by kernel_rfl) (by kernel_rfl) (by kernel_rfl) (fun _ _ _ h => h) (Or.inl ⟨by rfl, ?yntq10⟩) (by assumption) ?rntq10
    case yntq10 => (intro w hSw; (try dsimp only at hSw); go_simp; (try with_reducible rfl))
    (try simp only [Act.put, List.setIfInBounds_toArray, List.set_cons_zero, List.set_cons_succ])
    refine wpAnyH_take (i := 13) (oi := { dst := some 17, op := Go.Op.extract (Go.Operand.tmp 4) 1, type := 4, pos := "pop.go:44", after := #[{ on := 11, ground := Go.Ground.data }, { on := 14, ground := Go.Ground.gcOnly Go.Departure.lateStores }], guard := none }) (v := ?vntq11) rfl (by kernel_rfl) (by kernel_rfl) (by kernel_rfl) (fun _ _ _ h => h) (Or.inl ⟨by rfl, ?yntq11⟩) (by assumption) ?rntq11
    case yntq11 => (intro w hSw; (try dsimp only at hSw); go_simp; (try with_reducible rfl))
    (try simp only [Act.put, List.setIfInBounds_toArray, List.set_cons_zero, List.set_cons_succ])
    refine wpAnyH_ready (rs := [14]) (by kernel_rfl) (by simp) ?_
    refine (AllReadyH.cons (o := { dst := none, op := Go.Op.store 25 (Go.Operand.tmp 0) (Go.Operand.tmp 16), type := 0, pos := "pop.go:44", after := #[{ on := 12, ground := Go.Ground.data }, { on := 10, ground := Go.Ground.chain }, { on := 0, ground := Go.Ground.phase }, { on := 1, ground := Go.Ground.phase }, { on := 2, ground := Go.Ground.phase }, { on := 3, ground := Go.Ground.phase }, { on := 4, ground := Go.Ground.phase }, { on := 5, ground := Go.Ground.phase }, { on := 6, ground := Go.Ground.phase }, { on := 7, ground := Go.Ground.phase }, { on := 8, ground := Go.Ground.phase }, { on := 9, ground := Go.Ground.phase }, { on := 10, ground := Go.Ground.phase }, { on := 11, ground := Go.Ground.phase }, { on := 12, ground := Go.Ground.phase }, { on := 13, ground := Go.Ground.textOnly Go.Departure.lateStores }], guard := none }) rfl (fun K hK => ?_) AllReadyH.nil)
    go_simp
    refine hK.out _ _ (kb_set HK.out (fun _ h => h.2.2.2.2.2.2) 0 _ hHeld) (fun hHeld2 => ?_)
    clear hK K hHeld
    have hHeld := hHeld2
    clear hHeld2
    (try simp only [Act.put, List.setIfInBounds_toArray, List.set_cons_zero, List.set_cons_succ])
    refine wpAnyH_take (i := 15) (oi := { dst := some 3, op := Go.Op.assign (Go.Operand.tmp 17), type := 4, pos := "pop.go:44", after := #[{ on := 13, ground := Go.Ground.data }, { on := 14, ground := Go.Ground.chain }, { on := 0, ground := Go.Ground.phase }, { on := 1, ground := Go.Ground.phase }, { on := 2, ground := Go.Ground.phase }, { on := 3, ground := Go.Ground.phase }, { on := 4, ground := Go.Ground.phase }, { on := 5, ground := Go.Ground.phase }, { on := 6, ground := Go.Ground.phase }, { on := 7, ground := Go.Ground.phase }, { on := 8, ground := Go.Ground.phase }, { on := 9, ground := Go.Ground.phase }, { on := 10, ground := Go.Ground.phase }, { on := 11, ground := Go.Ground.phase }, { on := 12, ground := Go.Ground.phase }, { on := 13, ground := Go.Ground.phase }, { on := 14, ground := Go.Ground.phase }], guard := none }) (v := ?vntq12) rfl (by kernel_rfl) (by kernel_rfl) (by kernel_rfl) (fun _ _ _ h => h) (Or.inl ⟨by rfl, ?yntq12⟩) (by assumption) ?rntq12
    case yntq12 => (intro w hSw; (try dsimp only at hSw); go_simp; (try with_reducible rfl))
    (try simp only [Act.put, List.setIfInBounds_toArray, List.set_cons_zero, List.set_cons_succ])
    refine wpAnyH_done (by kernel_rfl) ?_ _
    have HKB := Lib.hid (hHeld.2.2.2.2.2.2)
    clear hHeld
    go_wp2
    refine bodyPost_ret (by simp [results, Try.results91, go_sem]; try rfl) rfl ?_
    exact ⟨k, rfl, HLO.out, Bk.other (k := k) (g := gm) HKK.out (by have := HLO.out; omega) _, (HM.out.after Z2.out).set _, HKB.out⟩
  · go_simp
    refine (top_any W D J S q _).mono ?_
    rintro e w1 ⟨rfl, hb⟩
    go_wp2_with fail
    have z1 := keep_call (w2 := w) hb zr.drew
    have Z1 := Lib.hid z1
    have b0 := (HM.out.after z1).cell
    have lm := (HM.out.after z1).lt
    have fz := (HM.out.after z1).free
    refine hK.out _ _ (kb_call HK.out (fun _ h => h.2.2.2.2.2.2) hg hb hHeld) (fun hHeld2 => ?_)
    clear hK K hHeld
    have hHeld := hHeld2
    clear hHeld2
    (try simp only [Act.put, List.setIfInBounds_toArray, List.set_cons_zero, List.set_cons_succ])
    refine wpAnyH_ready (rs := [0]) (by kernel_rfl) (by simp) ?_
    refine (AllReadyH.cons (o := { dst := some 5, op := Go.Op.load 25 (Go.Operand.tmp 0), type := 25, pos := "pop.go:44", after := #[], guard := none }) rfl (fun K hK => ?_) AllReadyH.nil)
    go_simp
    refine hK.out _ _ (hHeld) (fun hHeld2 => ?_)
    clear hK K hHeld
    have hHeld := hHeld2
    clear hHeld2
    (try simp only [Act.put, List.setIfInBounds_toArray, List.set_cons_zero, List.set_cons_succ])
    refine wpAnyH_ready (rs := [10]) (by kernel_rfl) (by simp) ?_
    refine (AllReadyH.cons (o := { dst := some 15, op := Go.Op.call { callee := Go.Callee.value (Go.Operand.func 92), args := #[Go.Operand.tmp 5, Go.Operand.tmp 9, Go.Operand.tmp 11, Go.Operand.tmp 14], argTypes := #[25, 3, 26, 26] }, type := 83, pos := "pop.go:44", after := #[{ on := 0, ground := Go.Ground.data }, { on := 4, ground := Go.Ground.data }, { on := 6, ground := Go.Ground.data }, { on := 9, ground := Go.Ground.data }, { on := 4, ground := Go.Ground.chain }], guard := none }) rfl (fun K hK => ?_) AllReadyH.nil)
    go_simp
    refine (casn_n (H.out.below Z1.out) rfl HS.out EB.out ET.out).mono ?_
    rintro e w2 ⟨k, rfl, hk0, hk, hb2⟩
    go_wp2_with fail
    have HLO := Lib.hid (Nat.le_trans Z1.out.size hk0)
    have HKK := Lib.hid hk
    have z2 := keep_call (w2 := w) hb2 Z1.out
    have Z2 := Lib.hid z2
    have b0 := (HM.out.after z2).cell
    have lm := (HM.out.after z2).lt
    have fz := (HM.out.after z2).free
    clear hk hk0
    refine hK.out _ _ (kb_call HK.out (fun _ h => h.2.2.2.2.2.2) hg hb2 hHeld) (fun hHeld2 => ?_)
    clear hK K hHeld
    have hHeld := hHeld2
    clear hHeld2
    (try simp only [Act.put, List.setIfInBounds_toArray, List.set_cons_zero, List.set_cons_succ])
    refine wpAnyH_take (i := 11) (oi := { dst := some 4, op := Go.Op.move (Go.Operand.tmp 15), type := 83, pos := "pop.go:44", after := #[{ on := 10, ground := Go.Ground.data }], guard := none }) (v := ?vntq13) rfl (by kernel_rfl) (by kernel_rfl) (by kernel_rfl) (fun _ _ _ h => h) (Or.inl ⟨by rfl, ?yntq13⟩) (by assumption) ?rntq13
    case yntq13 => (intro w hSw; (try dsimp only at hSw); go_simp; (try with_reducible rfl))
    (try simp only [Act.put, List.setIfInBounds_toArray, List.set_cons_zero, List.set_cons_succ])
    refine wpAnyH_take (i := 12) (oi := { dst := some 16, op := Go.Op.extract (Go.Operand.tmp 4) 0, type := 25, pos := "pop.go:44", after := #[{ on := 11, ground := Go.Ground.data }], guard := none }) (v := ?vntq14) rfl (by kernel_rfl) (by kernel_rfl) (by kernel_rfl) (fun _ _ _ h => h) (Or.inl ⟨by rfl, ?yntq14⟩) (by assumption) ?rntq14
    case yntq14 => (intro w hSw; (try dsimp only at hSw); go_simp; (try with_reducible rfl))
    (try simp only [Act.put, List.setIfInBounds_toArray, List.set_cons_zero, List.set_cons_succ])
    refine wpAnyH_take (i := 13) (oi := { dst := some 17, op := Go.Op.extract (Go.Operand.tmp 4) 1, type := 4, pos := "pop.go:44", after := #[{ on := 11, ground := Go.Ground.data }, { on := 14, ground := Go.Ground.gcOnly Go.Departure.lateStores }], guard := none }) (v := ?vntq15) rfl (by kernel_rfl) (by kernel_rfl) (by kernel_rfl) (fun _ _ _ h => h) (Or.inl ⟨by rfl, ?yntq15⟩) (by assumption) ?rntq15
    case yntq15 => (intro w hSw; (try dsimp only at hSw); go_simp; (try with_reducible rfl))
    (try simp only [Act.put, List.setIfInBounds_toArray, List.set_cons_zero, List.set_cons_succ])
    refine wpAnyH_ready (rs := [14]) (by kernel_rfl) (by simp) ?_
    refine (AllReadyH.cons (o := { dst := none, op := Go.Op.store 25 (Go.Operand.tmp 0) (Go.Operand.tmp 16), type := 0, pos := "pop.go:44", after := #[{ on := 12, ground := Go.Ground.data }, { on := 10, ground := Go.Ground.chain }, { on := 0, ground := Go.Ground.phase }, { on := 1, ground := Go.Ground.phase }, { on := 2, ground := Go.Ground.phase }, { on := 3, ground := Go.Ground.phase }, { on := 4, ground := Go.Ground.phase }, { on := 5, ground := Go.Ground.phase }, { on := 6, ground := Go.Ground.phase }, { on := 7, ground := Go.Ground.phase }, { on := 8, ground := Go.Ground.phase }, { on := 9, ground := Go.Ground.phase }, { on := 10, ground := Go.Ground.phase }, { on := 11, ground := Go.Ground.phase }, { on := 12, ground := Go.Ground.phase }, { on := 13, ground := Go.Ground.textOnly Go.Departure.lateStores }], guard := none }) rfl (fun K hK => ?_) AllReadyH.nil)
    go_simp
    refine hK.out _ _ (kb_set HK.out (fun _ h => h.2.2.2.2.2.2) 0 _ hHeld) (fun hHeld2 => ?_)
    clear hK K hHeld
    have hHeld := hHeld2
    clear hHeld2
    (try simp only [Act.put, List.setIfInBounds_toArray, List.set_cons_zero, List.set_cons_succ])
    refine wpAnyH_take (i := 15) (oi := { dst := some 3, op := Go.Op.assign (Go.Operand.tmp 17), type := 4, pos := "pop.go:44", after := #[{ on := 13, ground := Go.Ground.data }, { on := 14, ground := Go.Ground.chain }, { on := 0, ground := Go.Ground.phase }, { on := 1, ground := Go.Ground.phase }, { on := 2, ground := Go.Ground.phase }, { on := 3, ground := Go.Ground.phase }, { on := 4, ground := Go.Ground.phase }, { on := 5, ground := Go.Ground.phase }, { on := 6, ground := Go.Ground.phase }, { on := 7, ground := Go.Ground.phase }, { on := 8, ground := Go.Ground.phase }, { on := 9, ground := Go.Ground.phase }, { on := 10, ground := Go.Ground.phase }, { on := 11, ground := Go.Ground.phase }, { on := 12, ground := Go.Ground.phase }, { on := 13, ground := Go.Ground.phase }, { on := 14, ground := Go.Ground.phase }], guard := none }) (v := ?vntq16) rfl (by kernel_rfl) (by kernel_rfl) (by kernel_rfl) (fun _ _ _ h => h) (Or.inl ⟨by rfl, ?yntq16⟩) (by assumption) ?rntq16
    case yntq16 => (intro w hSw; (try dsimp only at hSw); go_simp; (try with_reducible rfl))
    (try simp only [Act.put, List.setIfInBounds_toArray, List.set_cons_zero, List.set_cons_succ])
    refine wpAnyH_done (by kernel_rfl) ?_ _
    have HKB := Lib.hid (hHeld.2.2.2.2.2.2)
    clear hHeld
    go_wp2
    refine bodyPost_ret (by simp [results, Try.results91, go_sem]; try rfl) rfl ?_
    exact ⟨k, rfl, HLO.out, Bk.other (k := k) (g := gm) HKK.out (by have := HLO.out; omega) _, (HM.out.after Z2.out).set _, HKB.out⟩
set_option maxRecDepth 100000 in
theorem nload_n {g : Nat} {A : Option Addr} {n c : Nat} {l : List Int} {i : Int} {w : World} (hM : Bm w g (.slice A n c)) (h : Rd w A l) (hn : l.length = n) (hs : n ≤ 500) : Tells 88 #[.int .i64 i, .pointer (some ⟨g, 0, none⟩)] w (.int .u64 (at0 l i)) := by
  subst hn
  exact nload_any g A c l i w hM h hs
set_option maxRecDepth 100000 in
theorem nset_n {gm gx gf : Nat} {f : Fr} {W D J S : Int} {A : Option Addr} {n c : Nat} {l : List Int} (T : Int) {w : World} (hM : Bm w gm (.slice A n c)) (hX : Bx w gx W D J S) (hF : Bf w gf f) (h : Rd w A l) (hn : l.length = n) (hgx : gx ≠ gm) (hgf : gf ≠ gm) (hs : n ≤ 500) :
    Calls Try.prog 89 #[.int .u64 T, .pointer (some ⟨gm, 0, none⟩), .pointer (some ⟨gx, 0, none⟩), .pointer (some ⟨gf, 0, none⟩)] w (RetV w gm n (.tuple #[]) (put l (ow W D J S f.who 1) T)) := by
  subst hn
  exact nset_any gm gx gf f W D J S A c l T w hM hX hF h hgx hgf hs
set_option maxRecDepth 100000 in
theorem ntake_n {gm gx gf : Nat} {f : Fr} {W D J S : Int} {A : Option Addr} {n c : Nat} {l : List Int} {bb : Bool} {T : List Int} {w : World} (hM : Bm w gm (.slice A n c)) (hX : Bx w gx W D J S) (hF : Bf w gf f) (h : Rd w A l) (hn : l.length = n) (hgx : gx ≠ gm) (hgf : gf ≠ gm) (hs : n ≤ 500)
    (hb : isAt l (ow W D J S f.who 0) f.y = bb) (hT : (if isAt l (ow W D J S f.who 0) f.y = true then put l (ow W D J S f.who 0) ((f.y + 1) % 18446744073709551616) else l) = T) :
    Calls Try.prog 91 #[.pointer (some ⟨gm, 0, none⟩), .pointer (some ⟨gx, 0, none⟩), .pointer (some ⟨gf, 0, none⟩)] w (RetV w gm n (.bool bb) T) := by
  subst hn
  exact ntake_any gm gx gf f W D J S A c l bb T hb hT w hM hX hF h hgx hgf hs
end Go.Proofs.Ytpeaahihjeplmaa
