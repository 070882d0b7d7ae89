/- The closures of a steal's next: load, end, takeTop, and the four deeds. -/
import Derived.Test.YtpeaahihjeplmaaNxA
namespace Go.Proofs.Ytpeaahihjeplmaa
open Go.RowKit Go.Deep
attribute [local go_sem] run_makeFunc run_store_func
set_option maxRecDepth 100000 in
theorem sload_any (g : Nat) (A : Option Addr) (c : Nat) (l : List Int) (i : Int) (w : World) (hM : Bm w g (.slice A l.length c)) (h : Rd w A l) (hs : l.length ≤ 500) : Tells 94 #[.int .i64 i, .pointer (some ⟨g, 0, none⟩)] w (.int .u64 (at0 l i)) := by
  have HS := Lib.hid hs
  have H := Lib.hid h
  have hm := hM.cell
  have hl := hM.lt
  clear hs h
  go_enter Try.func94, Try.ntmps94
  go_wp2_with fail
  refine (load_any A l.length c l i _ H.out rfl HS.out).mono ?_
  rintro _ w1 ⟨rfl, hb⟩
  have HB := Lib.hid hb
  clear hb
  go_wp2
  go_ret
  exact ⟨rfl, HB.out⟩
set_option maxRecDepth 100000 in
theorem send_any (g : Nat) (f : Fr) (r v : Int) (w : World) (hF : Bf w g f) : Calls Try.prog 95 #[.int .i64 r, .int .u64 v, .pointer (some ⟨g, 0, none⟩)] w (RetF w g (ed f r v)) := by
  have HF := Lib.hid hF
  obtain ⟨d0, d1, d2, d3, d4, d5, d6⟩ := hF.cells
  have hl := hF.lt
  clear hF
  go_enter Try.func95, Try.ntmps95
  go_wp2_with fail
  refine (end_any f r v _).mono ?_
  rintro _ w1 ⟨rfl, hb⟩
  have HB := Lib.hid hb
  have B1 := HF.out.after hb
  clear hb d0 d1 d2 d3 d4 d5 d6
  obtain ⟨d0, d1, d2, d3, d4, d5, d6⟩ := B1.cells
  have fz := B1.free
  have hl1 := B1.lt
  have HB1 := Lib.hid B1
  clear B1
  go_wp2
  change bodyPost _ _ _ _ _ (pf w1 g (ed f r v))
  refine bodyPost_ret (by simp [results, Try.results95, go_sem]; try rfl) rfl ?_
  exact ⟨rfl, HB1.out.pf _, ((Kb.refl g w).call HF.out.lt HB.out).pf _⟩
set_option maxRecDepth 100000 in
set_option maxHeartbeats 2000000 in
theorem stake_any (gm gx gf : Nat) (f : Fr) (W D J S : Int) (A : Option Addr) (c : Nat) (l : List Int) (bb : Bool) (T : List Int) (hb : isAt l (ow W D J S f.who 0) f.y = bb) (hT : (if isAt l (ow W D J S f.who 0) f.y = true then put l (ow W D J S f.who 0) ((f.y + 1) % 18446744073709551616) else l) = T) (w : World) (hM : Bm w gm (.slice A l.length c)) (hX : Bx w gx W D J S) (hF : Bf w gf f) (h : Rd w A l) (hgx : gx ≠ gm) (hgf : gf ≠ gm) (hs : l.length ≤ 500) :
    Calls Try.prog 96 #[.pointer (some ⟨gm, 0, none⟩), .pointer (some ⟨gx, 0, none⟩), .pointer (some ⟨gf, 0, none⟩)] w (RetV w gm l.length (.bool bb) T) := by
  have HM := Lib.hid hM
  have H := Lib.hid h
  have HS := Lib.hid hs
  obtain ⟨o, p, q, v, x, y, s⟩ := f
  have EB := Lib.hid hb
  have ET := Lib.hid hT
  clear hb hT
  have hg := hM.lt
  have lgx := hX.1
  have lgf := hF.lt
  have b0 := hM.cell
  have fz := hM.free
  have zr := Below.refl w.heap.size w
  have HK := Lib.hid (show ∀ x', Kb gm w x' → (fun w' => w'.cell? ⟨gx, 0, none⟩ = some (.int .i64 W) ∧ w'.cell? ⟨gx, 1, none⟩ = some (.int .i64 D) ∧ w'.cell? ⟨gx, 2, none⟩ = some (.int .i64 J) ∧ w'.cell? ⟨gx, 3, none⟩ = some (.int .i64 S) ∧ w'.cell? ⟨gf, 2, none⟩ = some (.int .i64 q) ∧ w'.cell? ⟨gf, 5, none⟩ = some (.int .u64 y) ∧ Kb gm w w') x' from fun x' hx => by
    obtain ⟨_, e0, e1, e2, e3⟩ := hX.kb hx hgx
    obtain ⟨d0, d1, d2, d3, d4, d5, d6⟩ := (hF.kb hx hgf).cells
    exact ⟨e0, e1, e2, e3, d2, d5, hx⟩)
  have hHeld0 := HK.out _ (Kb.refl gm w)
  clear hM h hs hX hF
  go_enter Try.func96, Try.ntmps96
  go_wp2_with fail
  refine wp_region_held_drew (S := fun w' => w'.cell? ⟨gx, 0, none⟩ = some (.int .i64 W) ∧ w'.cell? ⟨gx, 1, none⟩ = some (.int .i64 D) ∧ w'.cell? ⟨gx, 2, none⟩ = some (.int .i64 J) ∧ w'.cell? ⟨gx, 3, none⟩ = some (.int .i64 S) ∧ w'.cell? ⟨gf, 2, none⟩ = some (.int .i64 q) ∧ w'.cell? ⟨gf, 5, none⟩ = some (.int .u64 y) ∧ Kb gm w w') (by kernel_rfl) (kb_drew HK.out (fun _ h => h.2.2.2.2.2.2) hHeld0) (fun hHeld => ?_)
  refine wpAnyH_take (i := 1) (oi := { dst := some 6, op := Go.Op.load 23 (Go.Operand.tmp 1), type := 23, pos := "steal.go:46", after := #[], guard := none }) (v := ?vtkq1) rfl (by kernel_rfl) (by kernel_rfl) (by kernel_rfl) (fun _ _ _ h => h) (Or.inl ⟨by rfl, ?ytkq1⟩) (by assumption) ?rtkq1
  case ytkq1 => (intro w hSw; (try dsimp only at hSw); go_simp; (try with_reducible rfl))
  (try simp only [Act.put, List.setIfInBounds_toArray, List.set_cons_zero, List.set_cons_succ])
  refine wpAnyH_take (i := 2) (oi := { dst := some 7, op := Go.Op.fieldAddr 28 (Go.Operand.tmp 2) 2, type := 0, pos := "steal.go:46", after := #[], guard := none }) (v := ?vtkq2) rfl (by kernel_rfl) (by kernel_rfl) (by kernel_rfl) (fun _ _ _ h => h) (Or.inl ⟨by rfl, ?ytkq2⟩) (by assumption) ?rtkq2
  case ytkq2 => (intro w hSw; (try dsimp only at hSw); go_simp; (try with_reducible rfl))
  (try simp only [Act.put, List.setIfInBounds_toArray, List.set_cons_zero, List.set_cons_succ])
  refine wpAnyH_take (i := 3) (oi := { dst := some 8, op := Go.Op.load 3 (Go.Operand.tmp 7), type := 3, pos := "steal.go:46", after := #[{ on := 2, ground := Go.Ground.data }], guard := none }) (v := ?vtkq3) rfl (by kernel_rfl) (by kernel_rfl) (by kernel_rfl) (fun _ _ _ h => h) (Or.inl ⟨by rfl, ?ytkq3⟩) (by assumption) ?rtkq3
  case ytkq3 => (intro w hSw; (try dsimp only at hSw); go_simp; (try with_reducible rfl))
  (try simp only [Act.put, List.setIfInBounds_toArray, List.set_cons_zero, List.set_cons_succ])
  refine wpAnyH_take (i := 5) (oi := { dst := some 10, op := Go.Op.fieldAddr 28 (Go.Operand.tmp 2) 5, type := 0, pos := "steal.go:46", after := #[], guard := none }) (v := ?vtkq4) rfl (by kernel_rfl) (by kernel_rfl) (by kernel_rfl) (fun _ _ _ h => h) (Or.inl ⟨by rfl, ?ytkq4⟩) (by assumption) ?rtkq4
  case ytkq4 => (intro w hSw; (try dsimp only at hSw); go_simp; (try with_reducible rfl))
  (try simp only [Act.put, List.setIfInBounds_toArray, List.set_cons_zero, List.set_cons_succ])
  refine wpAnyH_take (i := 6) (oi := { dst := some 11, op := Go.Op.load 26 (Go.Operand.tmp 10), type := 26, pos := "steal.go:46", after := #[{ on := 5, ground := Go.Ground.data }], guard := none }) (v := ?vtkq5) rfl (by kernel_rfl) (by kernel_rfl) (by kernel_rfl) (fun _ _ _ h => h) (Or.inl ⟨by rfl, ?ytkq5⟩) (by assumption) ?rtkq5
  case ytkq5 => (intro w hSw; (try dsimp only at hSw); go_simp; (try with_reducible rfl))
  (try simp only [Act.put, List.setIfInBounds_toArray, List.set_cons_zero, List.set_cons_succ])
  refine wpAnyH_take (i := 7) (oi := { dst := some 12, op := Go.Op.fieldAddr 28 (Go.Operand.tmp 2) 5, type := 0, pos := "steal.go:46", after := #[], guard := none }) (v := ?vtkq6) rfl (by kernel_rfl) (by kernel_rfl) (by kernel_rfl) (fun _ _ _ h => h) (Or.inl ⟨by rfl, ?ytkq6⟩) (by assumption) ?rtkq6
  case ytkq6 => (intro w hSw; (try dsimp only at hSw); go_simp; (try with_reducible rfl))
  (try simp only [Act.put, List.setIfInBounds_toArray, List.set_cons_zero, List.set_cons_succ])
  refine wpAnyH_take (i := 8) (oi := { dst := some 13, op := Go.Op.load 26 (Go.Operand.tmp 12), type := 26, pos := "steal.go:46", after := #[{ on := 7, ground := Go.Ground.data }], guard := none }) (v := ?vtkq7) rfl (by kernel_rfl) (by kernel_rfl) (by kernel_rfl) (fun _ _ _ h => h) (Or.inl ⟨by rfl, ?ytkq7⟩) (by assumption) ?rtkq7
  case ytkq7 => (intro w hSw; (try dsimp only at hSw); go_simp; (try with_reducible rfl))
  (try simp only [Act.put, List.setIfInBounds_toArray, List.set_cons_zero, List.set_cons_succ])
  refine wpAnyH_take (i := 9) (oi := { dst := some 14, op := Go.Op.binOp Go.BinOp.add 26 (Go.Operand.tmp 13) (Go.Operand.const (Go.Value.int Go.IntKind.u64 1)) 26, type := 26, pos := "steal.go:46", after := #[{ on := 8, ground := Go.Ground.data }], guard := none }) (v := ?vtkq8) rfl (by kernel_rfl) (by kernel_rfl) (by kernel_rfl) (fun _ _ _ h => h) (Or.inl ⟨by rfl, ?ytkq8⟩) (by assumption) ?rtkq8
  case ytkq8 => (intro w hSw; (try dsimp only at hSw); go_simp; (try with_reducible rfl))
  (try simp only [Act.put, List.setIfInBounds_toArray, List.set_cons_zero, List.set_cons_succ])
  refine wpAnyH_ready (rs := [0, 4]) (by kernel_rfl) (by simp) ?_
  refine (AllReadyH.cons (o := { dst := some 5, op := Go.Op.load 25 (Go.Operand.tmp 0), type := 25, pos := "steal.go:46", after := #[], guard := none }) rfl (fun K hK => ?_) (AllReadyH.cons (o := { dst := some 9, op := Go.Op.call { callee := Go.Callee.value (Go.Operand.func 49), args := #[Go.Operand.tmp 6, Go.Operand.tmp 8], argTypes := #[23, 3] }, type := 3, pos := "steal.go:46", after := #[{ on := 1, ground := Go.Ground.data }, { on := 3, ground := Go.Ground.data }], guard := none }) rfl (fun K hK => ?_) AllReadyH.nil))
  · go_simp
    refine hK.out _ _ (hHeld) (fun hHeld2 => ?_)
    clear hK K hHeld
    have hHeld := hHeld2
    clear hHeld2
    (try simp only [Act.put, List.setIfInBounds_toArray, List.set_cons_zero, List.set_cons_succ])
    refine wpAnyH_ready (rs := [4]) (by kernel_rfl) (by simp) ?_
    refine (AllReadyH.cons (o := { dst := some 9, op := Go.Op.call { callee := Go.Callee.value (Go.Operand.func 49), args := #[Go.Operand.tmp 6, Go.Operand.tmp 8], argTypes := #[23, 3] }, type := 3, pos := "steal.go:46", after := #[{ on := 1, ground := Go.Ground.data }, { on := 3, ground := Go.Ground.data }], guard := none }) rfl (fun K hK => ?_) AllReadyH.nil)
    go_simp
    refine (top_any W D J S q _).mono ?_
    rintro e w1 ⟨rfl, hb⟩
    go_wp2_with fail
    have z1 := keep_call (w2 := w) hb zr.drew
    have Z1 := Lib.hid z1
    have b0 := (HM.out.after z1).cell
    have lm := (HM.out.after z1).lt
    have fz := (HM.out.after z1).free
    refine hK.out _ _ (kb_call HK.out (fun _ h => h.2.2.2.2.2.2) hg hb hHeld) (fun hHeld2 => ?_)
    clear hK K hHeld
    have hHeld := hHeld2
    clear hHeld2
    (try simp only [Act.put, List.setIfInBounds_toArray, List.set_cons_zero, List.set_cons_succ])
    refine wpAnyH_ready (rs := [10]) (by kernel_rfl) (by simp) ?_
    refine (AllReadyH.cons (o := { dst := some 15, op := Go.Op.call { callee := Go.Callee.value (Go.Operand.func 92), args := #[Go.Operand.tmp 5, Go.Operand.tmp 9, Go.Operand.tmp 11, Go.Operand.tmp 14], argTypes := #[25, 3, 26, 26] }, type := 83, pos := "steal.go:46", after := #[{ on := 0, ground := Go.Ground.data }, { on := 4, ground := Go.Ground.data }, { on := 6, ground := Go.Ground.data }, { on := 9, ground := Go.Ground.data }, { on := 4, ground := Go.Ground.chain }], guard := none }) rfl (fun K hK => ?_) AllReadyH.nil)
    go_simp
    refine (casn_n (H.out.below Z1.out) rfl HS.out EB.out ET.out).mono ?_
    rintro e w2 ⟨k, rfl, hk0, hk, hb2⟩
    go_wp2_with fail
    have HLO := Lib.hid (Nat.le_trans Z1.out.size hk0)
    have HKK := Lib.hid hk
    have z2 := keep_call (w2 := w) hb2 Z1.out
    have Z2 := Lib.hid z2
    have b0 := (HM.out.after z2).cell
    have lm := (HM.out.after z2).lt
    have fz := (HM.out.after z2).free
    clear hk hk0
    refine hK.out _ _ (kb_call HK.out (fun _ h => h.2.2.2.2.2.2) hg hb2 hHeld) (fun hHeld2 => ?_)
    clear hK K hHeld
    have hHeld := hHeld2
    clear hHeld2
    (try simp only [Act.put, List.setIfInBounds_toArray, List.set_cons_zero, List.set_cons_succ])
    refine wpAnyH_take (i := 11) (oi := { dst := some 4, op := Go.Op.move (Go.Operand.tmp 15), type := 83, pos := "steal.go:46", after := #[{ on := 10, ground := Go.Ground.data }], guard := none }) (v := ?vtkq9) rfl (by kernel_rfl) (by kernel_rfl) (by kernel_rfl) (fun _ _ _ h => h) (Or.inl ⟨by rfl, ?ytkq9⟩) (by assumption) ?rtkq9
    case ytkq9 => (intro w hSw; (try dsimp only at hSw); go_simp; (try with_reducible rfl))
    (try simp only [Act.put, List.setIfInBounds_toArray, List.set_cons_zero, List.set_cons_succ])
    refine wpAnyH_take (i := 12) (oi := { dst := some 16, op := Go.Op.extract (Go.Operand.tmp 4) 0, type := 25, pos := "steal.go:46", after := #[{ on := 11, ground := Go.Ground.data }], guard := none }) (v := ?vtkq10) rfl (by kernel_rfl) (by kernel_rfl) (by kernel_rfl) (fun _ _ _ h => h) (Or.inl ⟨by rfl, ?ytkq10⟩) (by assumption) ?rtkq10
    case ytkq10 => (intro w hSw; (try dsimp only at hSw); go_simp; (try with_reducible rfl))
    (try simp only [Act.put, List.setIfInBounds_toArray, List.set_cons_zero, List.set_cons_succ])
    refine wpAnyH_take (i := 13) (oi := { dst := some 17, op := Go.Op.extract (Go.Operand.tmp 4) 1, type := 4, pos := "steal.go:46", after := #[{ on := 11, ground := Go.Ground.data }, { on := 14, ground := Go.Ground.gcOnly Go.Departure.lateStores }], guard := none }) (v := ?vtkq11) rfl (by kernel_rfl) (by kernel_rfl) (by kernel_rfl) (fun _ _ _ h => h) (Or.inl ⟨by rfl, ?ytkq11⟩) (by assumption) ?rtkq11
    case ytkq11 => (intro w hSw; (try dsimp only at hSw); go_simp; (try with_reducible rfl))
    (try simp only [Act.put, List.setIfInBounds_toArray, List.set_cons_zero, List.set_cons_succ])
    refine wpAnyH_ready (rs := [14]) (by kernel_rfl) (by simp) ?_
    refine (AllReadyH.cons (o := { dst := none, op := Go.Op.store 25 (Go.Operand.tmp 0) (Go.Operand.tmp 16), type := 0, pos := "steal.go:46", after := #[{ on := 12, ground := Go.Ground.data }, { on := 10, ground := Go.Ground.chain }, { on := 0, ground := Go.Ground.phase }, { on := 1, ground := Go.Ground.phase }, { on := 2, ground := Go.Ground.phase }, { on := 3, ground := Go.Ground.phase }, { on := 4, ground := Go.Ground.phase }, { on := 5, ground := Go.Ground.phase }, { on := 6, ground := Go.Ground.phase }, { on := 7, ground := Go.Ground.phase }, { on := 8, ground := Go.Ground.phase }, { on := 9, ground := Go.Ground.phase }, { on := 10, ground := Go.Ground.phase }, { on := 11, ground := Go.Ground.phase }, { on := 12, ground := Go.Ground.phase }, { on := 13, ground := Go.Ground.textOnly Go.Departure.lateStores }], guard := none }) rfl (fun K hK => ?_) AllReadyH.nil)
    go_simp
    refine hK.out _ _ (kb_set HK.out (fun _ h => h.2.2.2.2.2.2) 0 _ hHeld) (fun hHeld2 => ?_)
    clear hK K hHeld
    have hHeld := hHeld2
    clear hHeld2
    (try simp only [Act.put, List.setIfInBounds_toArray, List.set_cons_zero, List.set_cons_succ])
    refine wpAnyH_take (i := 15) (oi := { dst := some 3, op := Go.Op.assign (Go.Operand.tmp 17), type := 4, pos := "steal.go:46", after := #[{ on := 13, ground := Go.Ground.data }, { on := 14, ground := Go.Ground.chain }, { on := 0, ground := Go.Ground.phase }, { on := 1, ground := Go.Ground.phase }, { on := 2, ground := Go.Ground.phase }, { on := 3, ground := Go.Ground.phase }, { on := 4, ground := Go.Ground.phase }, { on := 5, ground := Go.Ground.phase }, { on := 6, ground := Go.Ground.phase }, { on := 7, ground := Go.Ground.phase }, { on := 8, ground := Go.Ground.phase }, { on := 9, ground := Go.Ground.phase }, { on := 10, ground := Go.Ground.phase }, { on := 11, ground := Go.Ground.phase }, { on := 12, ground := Go.Ground.phase }, { on := 13, ground := Go.Ground.phase }, { on := 14, ground := Go.Ground.phase }], guard := none }) (v := ?vtkq12) rfl (by kernel_rfl) (by kernel_rfl) (by kernel_rfl) (fun _ _ _ h => h) (Or.inl ⟨by rfl, ?ytkq12⟩) (by assumption) ?rtkq12
    case ytkq12 => (intro w hSw; (try dsimp only at hSw); go_simp; (try with_reducible rfl))
    (try simp only [Act.put, List.setIfInBounds_toArray, List.set_cons_zero, List.set_cons_succ])
    refine wpAnyH_done (by kernel_rfl) ?_ _
    have HKB := Lib.hid (hHeld.2.2.2.2.2.2)
    clear hHeld
    go_wp2
    refine bodyPost_ret (by simp [results, Try.results96, go_sem]; try rfl) rfl ?_
    exact ⟨k, rfl, HLO.out, Bk.other (k := k) (g := gm) HKK.out (by have := HLO.out; omega) _, (HM.out.after Z2.out).set _, HKB.out⟩
  · go_simp
    refine (top_any W D J S q _).mono ?_
    rintro e w1 ⟨rfl, hb⟩
    go_wp2_with fail
    have z1 := keep_call (w2 := w) hb zr.drew
    have Z1 := Lib.hid z1
    have b0 := (HM.out.after z1).cell
    have lm := (HM.out.after z1).lt
    have fz := (HM.out.after z1).free
    refine hK.out _ _ (kb_call HK.out (fun _ h => h.2.2.2.2.2.2) hg hb hHeld) (fun hHeld2 => ?_)
    clear hK K hHeld
    have hHeld := hHeld2
    clear hHeld2
    (try simp only [Act.put, List.setIfInBounds_toArray, List.set_cons_zero, List.set_cons_succ])
    refine wpAnyH_ready (rs := [0]) (by kernel_rfl) (by simp) ?_
    refine (AllReadyH.cons (o := { dst := some 5, op := Go.Op.load 25 (Go.Operand.tmp 0), type := 25, pos := "steal.go:46", after := #[], guard := none }) rfl (fun K hK => ?_) AllReadyH.nil)
    go_simp
    refine hK.out _ _ (hHeld) (fun hHeld2 => ?_)
    clear hK K hHeld
    have hHeld := hHeld2
    clear hHeld2
    (try simp only [Act.put, List.setIfInBounds_toArray, List.set_cons_zero, List.set_cons_succ])
    refine wpAnyH_ready (rs := [10]) (by kernel_rfl) (by simp) ?_
    refine (AllReadyH.cons (o := { dst := some 15, op := Go.Op.call { callee := Go.Callee.value (Go.Operand.func 92), args := #[Go.Operand.tmp 5, Go.Operand.tmp 9, Go.Operand.tmp 11, Go.Operand.tmp 14], argTypes := #[25, 3, 26, 26] }, type := 83, pos := "steal.go:46", after := #[{ on := 0, ground := Go.Ground.data }, { on := 4, ground := Go.Ground.data }, { on := 6, ground := Go.Ground.data }, { on := 9, ground := Go.Ground.data }, { on := 4, ground := Go.Ground.chain }], guard := none }) rfl (fun K hK => ?_) AllReadyH.nil)
    go_simp
    refine (casn_n (H.out.below Z1.out) rfl HS.out EB.out ET.out).mono ?_
    rintro e w2 ⟨k, rfl, hk0, hk, hb2⟩
    go_wp2_with fail
    have HLO := Lib.hid (Nat.le_trans Z1.out.size hk0)
    have HKK := Lib.hid hk
    have z2 := keep_call (w2 := w) hb2 Z1.out
    have Z2 := Lib.hid z2
    have b0 := (HM.out.after z2).cell
    have lm := (HM.out.after z2).lt
    have fz := (HM.out.after z2).free
    clear hk hk0
    refine hK.out _ _ (kb_call HK.out (fun _ h => h.2.2.2.2.2.2) hg hb2 hHeld) (fun hHeld2 => ?_)
    clear hK K hHeld
    have hHeld := hHeld2
    clear hHeld2
    (try simp only [Act.put, List.setIfInBounds_toArray, List.set_cons_zero, List.set_cons_succ])
    refine wpAnyH_take (i := 11) (oi := { dst := some 4, op := Go.Op.move (Go.Operand.tmp 15), type := 83, pos := "steal.go:46", after := #[{ on := 10, ground := Go.Ground.data }], guard := none }) (v := ?vtkq13) rfl (by kernel_rfl) (by kernel_rfl) (by kernel_rfl) (fun _ _ _ h => h) (Or.inl ⟨by rfl, ?ytkq13⟩) (by assumption) ?rtkq13
    case ytkq13 => (intro w hSw; (try dsimp only at hSw); go_simp; (try with_reducible rfl))
    (try simp only [Act.put, List.setIfInBounds_toArray, List.set_cons_zero, List.set_cons_succ])
    refine wpAnyH_take (i := 12) (oi := { dst := some 16, op := Go.Op.extract (Go.Operand.tmp 4) 0, type := 25, pos := "steal.go:46", after := #[{ on := 11, ground := Go.Ground.data }], guard := none }) (v := ?vtkq14) rfl (by kernel_rfl) (by kernel_rfl) (by kernel_rfl) (fun _ _ _ h => h) (Or.inl ⟨by rfl, ?ytkq14⟩) (by assumption) ?rtkq14
    case ytkq14 => (intro w hSw; (try dsimp only at hSw); go_simp; (try with_reducible rfl))
    (try simp only [Act.put, List.setIfInBounds_toArray, List.set_cons_zero, List.set_cons_succ])
    refine wpAnyH_take (i := 13) (oi := { dst := some 17, op := Go.Op.extract (Go.Operand.tmp 4) 1, type := 4, pos := "steal.go:46", after := #[{ on := 11, ground := Go.Ground.data }, { on := 14, ground := Go.Ground.gcOnly Go.Departure.lateStores }], guard := none }) (v := ?vtkq15) rfl (by kernel_rfl) (by kernel_rfl) (by kernel_rfl) (fun _ _ _ h => h) (Or.inl ⟨by rfl, ?ytkq15⟩) (by assumption) ?rtkq15
    case ytkq15 => (intro w hSw; (try dsimp only at hSw); go_simp; (try with_reducible rfl))
    (try simp only [Act.put, List.setIfInBounds_toArray, List.set_cons_zero, List.set_cons_succ])
    refine wpAnyH_ready (rs := [14]) (by kernel_rfl) (by simp) ?_
    refine (AllReadyH.cons (o := { dst := none, op := Go.Op.store 25 (Go.Operand.tmp 0) (Go.Operand.tmp 16), type := 0, pos := "steal.go:46", after := #[{ on := 12, ground := Go.Ground.data }, { on := 10, ground := Go.Ground.chain }, { on := 0, ground := Go.Ground.phase }, { on := 1, ground := Go.Ground.phase }, { on := 2, ground := Go.Ground.phase }, { on := 3, ground := Go.Ground.phase }, { on := 4, ground := Go.Ground.phase }, { on := 5, ground := Go.Ground.phase }, { on := 6, ground := Go.Ground.phase }, { on := 7, ground := Go.Ground.phase }, { on := 8, ground := Go.Ground.phase }, { on := 9, ground := Go.Ground.phase }, { on := 10, ground := Go.Ground.phase }, { on := 11, ground := Go.Ground.phase }, { on := 12, ground := Go.Ground.phase }, { on := 13, ground := Go.Ground.textOnly Go.Departure.lateStores }], guard := none }) rfl (fun K hK => ?_) AllReadyH.nil)
    go_simp
    refine hK.out _ _ (kb_set HK.out (fun _ h => h.2.2.2.2.2.2) 0 _ hHeld) (fun hHeld2 => ?_)
    clear hK K hHeld
    have hHeld := hHeld2
    clear hHeld2
    (try simp only [Act.put, List.setIfInBounds_toArray, List.set_cons_zero, List.set_cons_succ])
    refine wpAnyH_take (i := 15) (oi := { dst := some 3, op := Go.Op.assign (Go.Operand.tmp 17), type := 4, pos := "steal.go:46", after := #[{ on := 13, ground := Go.Ground.data }, { on := 14, ground := Go.Ground.chain }, { on := 0, ground := Go.Ground.phase }, { on := 1, ground := Go.Ground.phase }, { on := 2, ground := Go.Ground.phase }, { on := 3, ground := Go.Ground.phase }, { on := 4, ground := Go.Ground.phase }, { on := 5, ground := Go.Ground.phase }, { on := 6, ground := Go.Ground.phase }, { on := 7, ground := Go.Ground.phase }, { on := 8, ground := Go.Ground.phase }, { on := 9, ground := Go.Ground.phase }, { on := 10, ground := Go.Ground.phase }, { on := 11, ground := Go.Ground.phase }, { on := 12, ground := Go.Ground.phase }, { on := 13, ground := Go.Ground.phase }, { on := 14, ground := Go.Ground.phase }], guard := none }) (v := ?vtkq16) rfl (by kernel_rfl) (by kernel_rfl) (by kernel_rfl) (fun _ _ _ h => h) (Or.inl ⟨by rfl, ?ytkq16⟩) (by assumption) ?rtkq16
    case ytkq16 => (intro w hSw; (try dsimp only at hSw); go_simp; (try with_reducible rfl))
    (try simp only [Act.put, List.setIfInBounds_toArray, List.set_cons_zero, List.set_cons_succ])
    refine wpAnyH_done (by kernel_rfl) ?_ _
    have HKB := Lib.hid (hHeld.2.2.2.2.2.2)
    clear hHeld
    go_wp2
    refine bodyPost_ret (by simp [results, Try.results96, go_sem]; try rfl) rfl ?_
    exact ⟨k, rfl, HLO.out, Bk.other (k := k) (g := gm) HKK.out (by have := HLO.out; omega) _, (HM.out.after Z2.out).set _, HKB.out⟩
/-- What the last deed leaves. -/
def RetX (w : World) (gm gf n : Nat) (T : List Int) (f : Fr) (e : Ending) (w' : World) : Prop :=
  ∃ w1 k, e = .returned (.tuple #[]) ∧ w.heap.size ≤ k ∧ Bk w1 k T ∧ Bm w1 gm (.slice (some ⟨k, 0, none⟩) n n) ∧ Kb gm w w1 ∧ Bf w' gf f ∧ Kb gf w1 w'
set_option maxRecDepth 100000 in
theorem sload_n {g : Nat} {A : Option Addr} {n c : Nat} {l : List Int} {i : Int} {w : World} (hM : Bm w g (.slice A n c)) (h : Rd w A l) (hn : l.length = n) (hs : n ≤ 500) : Tells 94 #[.int .i64 i, .pointer (some ⟨g, 0, none⟩)] w (.int .u64 (at0 l i)) := by
  subst hn
  exact sload_any g A c l i w hM h hs
set_option maxRecDepth 100000 in
theorem stake_n {gm gx gf : Nat} {f : Fr} {W D J S : Int} {A : Option Addr} {n c : Nat} {l : List Int} {bb : Bool} {T : List Int} {w : World} (hM : Bm w gm (.slice A n c)) (hX : Bx w gx W D J S) (hF : Bf w gf f) (h : Rd w A l) (hn : l.length = n) (hgx : gx ≠ gm) (hgf : gf ≠ gm) (hs : n ≤ 500)
    (hb : isAt l (ow W D J S f.who 0) f.y = bb) (hT : (if isAt l (ow W D J S f.who 0) f.y = true then put l (ow W D J S f.who 0) ((f.y + 1) % 18446744073709551616) else l) = T) :
    Calls Try.prog 96 #[.pointer (some ⟨gm, 0, none⟩), .pointer (some ⟨gx, 0, none⟩), .pointer (some ⟨gf, 0, none⟩)] w (RetV w gm n (.bool bb) T) := by
  subst hn
  exact stake_any gm gx gf f W D J S A c l bb T hb hT w hM hX hF h hgx hgf hs
set_option maxRecDepth 100000 in
set_option maxHeartbeats 2000000 in
theorem deed_top (gl gm gx gf : Nat) (f : Fr) (W D J S : Int) (A : Option Addr) (n c : Nat) (l : List Int) (w : World) (hL : Bv w gl (.func (.func 94) #[] #[.pointer (some ⟨gm, 0, none⟩)]) 100) (hM : Bm w gm (.slice A n c)) (hX : Bx w gx W D J S) (hF : Bf w gf f) (h : Rd w A l) (hn : l.length = n) (hgl : gl ≠ gf) (hgx : gx ≠ gf) (hs : n ≤ 500) :
    Calls Try.prog 97 #[.pointer (some ⟨gl, 0, none⟩), .pointer (some ⟨gx, 0, none⟩), .pointer (some ⟨gf, 0, none⟩)] w (RetF w gf { f with y := at0 l (ow W D J S f.who 0) }) := by
  have HM := Lib.hid hM
  have HF := Lib.hid hF
  have H := Lib.hid h
  have HN := Lib.hid hn
  have HS := Lib.hid hs
  obtain ⟨o, p, q, v, x, y, s⟩ := f
  have hg := hF.lt
  have lgx := hX.1
  have lgl := hL.lt
  have lgm := hM.lt
  have fz := hF.free
  have zr := Below.refl w.heap.size w
  have HK := Lib.hid (show ∀ x', Kx gf 5 w x' → (fun w' => w'.cell? ⟨gx, 0, none⟩ = some (.int .i64 W) ∧ w'.cell? ⟨gx, 1, none⟩ = some (.int .i64 D) ∧ w'.cell? ⟨gx, 2, none⟩ = some (.int .i64 J) ∧ w'.cell? ⟨gx, 3, none⟩ = some (.int .i64 S) ∧ w'.cell? ⟨gl, 0, none⟩ = some (.func (.func 94) #[] #[.pointer (some ⟨gm, 0, none⟩)]) ∧ w'.cell? ⟨gf, 2, none⟩ = some (.int .i64 q) ∧ Kx gf 5 w w') x' from fun x' hx => by
    have e : x'.heap[gx]? = w.heap[gx]? := hx.others gx hX.1 hgx
    obtain ⟨_, e0, e1, e2, e3⟩ := hX
    have k : x'.heap[gl]? = w.heap[gl]? := hx.others gl hL.lt hgl
    obtain ⟨d0, d1, d2, d3, d4, d5, d6⟩ := hF.cells
    exact ⟨(World.cell?_of_block e).trans e0, (World.cell?_of_block e).trans e1, (World.cell?_of_block e).trans e2, (World.cell?_of_block e).trans e3, (World.cell?_of_block k).trans hL.cell, (hx.cells 2 (by decide)).trans d2, hx⟩)
  have hHeld0 := HK.out _ (Kx.refl gf 5 w)
  clear hM h hn hs hX hF hL
  go_enter Try.func97, Try.ntmps97
  go_wp2_with fail
  refine wp_region_held_drew (S := fun w' => w'.cell? ⟨gx, 0, none⟩ = some (.int .i64 W) ∧ w'.cell? ⟨gx, 1, none⟩ = some (.int .i64 D) ∧ w'.cell? ⟨gx, 2, none⟩ = some (.int .i64 J) ∧ w'.cell? ⟨gx, 3, none⟩ = some (.int .i64 S) ∧ w'.cell? ⟨gl, 0, none⟩ = some (.func (.func 94) #[] #[.pointer (some ⟨gm, 0, none⟩)]) ∧ w'.cell? ⟨gf, 2, none⟩ = some (.int .i64 q) ∧ Kx gf 5 w w') (by kernel_rfl) (kx_drew HK.out (fun _ h => h.2.2.2.2.2.2) hHeld0) (fun hHeld => ?_)
  refine wpAnyH_take (i := 0) (oi := { dst := some 3, op := Go.Op.load 100 (Go.Operand.tmp 0), type := 100, pos := "steal.go:50", after := #[], guard := none }) (v := ?vdeeq1) rfl (by kernel_rfl) (by kernel_rfl) (by kernel_rfl) (fun _ _ _ h => h) (Or.inl ⟨by rfl, ?ydeeq1⟩) (by assumption) ?rdeeq1
  case ydeeq1 => (intro w hSw; (try dsimp only at hSw); go_simp; (try with_reducible rfl))
  (try simp only [Act.put, List.setIfInBounds_toArray, List.set_cons_zero, List.set_cons_succ])
  refine wpAnyH_take (i := 1) (oi := { dst := some 4, op := Go.Op.load 23 (Go.Operand.tmp 1), type := 23, pos := "steal.go:50", after := #[], guard := none }) (v := ?vdeeq2) rfl (by kernel_rfl) (by kernel_rfl) (by kernel_rfl) (fun _ _ _ h => h) (Or.inl ⟨by rfl, ?ydeeq2⟩) (by assumption) ?rdeeq2
  case ydeeq2 => (intro w hSw; (try dsimp only at hSw); go_simp; (try with_reducible rfl))
  (try simp only [Act.put, List.setIfInBounds_toArray, List.set_cons_zero, List.set_cons_succ])
  refine wpAnyH_take (i := 2) (oi := { dst := some 5, op := Go.Op.fieldAddr 28 (Go.Operand.tmp 2) 2, type := 0, pos := "steal.go:50", after := #[], guard := none }) (v := ?vdeeq3) rfl (by kernel_rfl) (by kernel_rfl) (by kernel_rfl) (fun _ _ _ h => h) (Or.inl ⟨by rfl, ?ydeeq3⟩) (by assumption) ?rdeeq3
  case ydeeq3 => (intro w hSw; (try dsimp only at hSw); go_simp; (try with_reducible rfl))
  (try simp only [Act.put, List.setIfInBounds_toArray, List.set_cons_zero, List.set_cons_succ])
  refine wpAnyH_take (i := 3) (oi := { dst := some 6, op := Go.Op.load 3 (Go.Operand.tmp 5), type := 3, pos := "steal.go:50", after := #[{ on := 2, ground := Go.Ground.data }], guard := none }) (v := ?vdeeq4) rfl (by kernel_rfl) (by kernel_rfl) (by kernel_rfl) (fun _ _ _ h => h) (Or.inl ⟨by rfl, ?ydeeq4⟩) (by assumption) ?rdeeq4
  case ydeeq4 => (intro w hSw; (try dsimp only at hSw); go_simp; (try with_reducible rfl))
  (try simp only [Act.put, List.setIfInBounds_toArray, List.set_cons_zero, List.set_cons_succ])
  refine wpAnyH_ready (rs := [4]) (by kernel_rfl) (by simp) ?_
  refine (AllReadyH.cons (o := { dst := some 7, op := Go.Op.call { callee := Go.Callee.value (Go.Operand.func 49), args := #[Go.Operand.tmp 4, Go.Operand.tmp 6], argTypes := #[23, 3] }, type := 3, pos := "steal.go:50", after := #[{ on := 1, ground := Go.Ground.data }, { on := 3, ground := Go.Ground.data }], guard := none }) rfl (fun K hK => ?_) AllReadyH.nil)
  go_simp
  refine (top_any W D J S q _).mono ?_
  rintro e w1 ⟨rfl, hb⟩
  go_wp2_with fail
  have z1 := keep_call (w2 := w) hb zr.drew
  have Z1 := Lib.hid z1
  have lf := (HF.out.after z1).lt
  have fz := (HF.out.after z1).free
  have lm := (HM.out.after z1).lt
  refine hK.out _ _ (kx_call HK.out (fun _ h => h.2.2.2.2.2.2) hg hb hHeld) (fun hHeld2 => ?_)
  clear hK K hHeld
  have hHeld := hHeld2
  clear hHeld2
  (try simp only [Act.put, List.setIfInBounds_toArray, List.set_cons_zero, List.set_cons_succ])
  refine wpAnyH_ready (rs := [5]) (by kernel_rfl) (by simp) ?_
  refine (AllReadyH.cons (o := { dst := some 8, op := Go.Op.call { callee := Go.Callee.value (Go.Operand.tmp 3), args := #[Go.Operand.tmp 7], argTypes := #[3] }, type := 26, pos := "steal.go:50", after := #[{ on := 0, ground := Go.Ground.data }, { on := 4, ground := Go.Ground.data }, { on := 4, ground := Go.Ground.chain }], guard := none }) rfl (fun K hK => ?_) AllReadyH.nil)
  go_simp
  refine (sload_n (HM.out.after Z1.out) (H.out.below Z1.out) HN.out HS.out).mono ?_
  rintro e w2 ⟨rfl, hb2⟩
  go_wp2_with fail
  have z2 := keep_call (w2 := w) hb2 Z1.out
  have Z2 := Lib.hid z2
  have lf := (HF.out.after z2).lt
  obtain ⟨c0, c1, c2, c3, c4, c5, c6⟩ := (HF.out.after z2).cells
  have fz := (HF.out.after z2).free
  have lm := (HM.out.after z2).lt
  refine hK.out _ _ (kx_call HK.out (fun _ h => h.2.2.2.2.2.2) hg hb2 hHeld) (fun hHeld2 => ?_)
  clear hK K hHeld
  have hHeld := hHeld2
  clear hHeld2
  (try simp only [Act.put, List.setIfInBounds_toArray, List.set_cons_zero, List.set_cons_succ])
  refine wpAnyH_take (i := 6) (oi := { dst := some 9, op := Go.Op.fieldAddr 28 (Go.Operand.tmp 2) 5, type := 0, pos := "steal.go:50", after := #[{ on := 0, ground := Go.Ground.phase }, { on := 1, ground := Go.Ground.phase }, { on := 2, ground := Go.Ground.phase }, { on := 3, ground := Go.Ground.phase }, { on := 4, ground := Go.Ground.phase }, { on := 5, ground := Go.Ground.phase }], guard := none }) (v := ?vdeeq5) rfl (by kernel_rfl) (by kernel_rfl) (by kernel_rfl) (fun _ _ _ h => h) (Or.inl ⟨by rfl, ?ydeeq5⟩) (by assumption) ?rdeeq5
  case ydeeq5 => (intro w hSw; (try dsimp only at hSw); go_simp; (try with_reducible rfl))
  (try simp only [Act.put, List.setIfInBounds_toArray, List.set_cons_zero, List.set_cons_succ])
  refine wpAnyH_ready (rs := [7]) (by kernel_rfl) (by simp) ?_
  refine (AllReadyH.cons (o := { dst := none, op := Go.Op.store 26 (Go.Operand.tmp 9) (Go.Operand.tmp 8), type := 0, pos := "steal.go:50", after := #[{ on := 6, ground := Go.Ground.data }, { on := 5, ground := Go.Ground.data }, { on := 5, ground := Go.Ground.chain }, { on := 0, ground := Go.Ground.phase }, { on := 1, ground := Go.Ground.phase }, { on := 2, ground := Go.Ground.phase }, { on := 3, ground := Go.Ground.phase }, { on := 4, ground := Go.Ground.phase }, { on := 5, ground := Go.Ground.phase }], guard := none }) rfl (fun K hK => ?_) AllReadyH.nil)
  go_simp
  refine hK.out _ _ (kx_set HK.out (fun _ h => h.2.2.2.2.2.2) _ hHeld) (fun hHeld2 => ?_)
  clear hK K hHeld
  have hHeld := hHeld2
  clear hHeld2
  (try simp only [Act.put, List.setIfInBounds_toArray, List.set_cons_zero, List.set_cons_succ])
  refine wpAnyH_done (by kernel_rfl) ?_ _
  clear hHeld
  go_wp2
  refine bodyPost_ret (by simp [results, Try.results97, go_sem]; try rfl) rfl ?_
  exact ⟨rfl, (HF.out.after Z2.out).wY _, (((Kb.refl gf w).call hg Z2.out).set 5 _)⟩
set_option maxRecDepth 100000 in
set_option maxHeartbeats 2000000 in
theorem deed_val (gl gm gx gf : Nat) (f : Fr) (W D J S : Int) (A : Option Addr) (n c : Nat) (l : List Int) (hu : U f.y) (w : World) (hL : Bv w gl (.func (.func 94) #[] #[.pointer (some ⟨gm, 0, none⟩)]) 100) (hM : Bm w gm (.slice A n c)) (hX : Bx w gx W D J S) (hF : Bf w gf f) (h : Rd w A l) (hn : l.length = n) (hgl : gl ≠ gf) (hgx : gx ≠ gf) (hs : n ≤ 500) :
    Calls Try.prog 99 #[.pointer (some ⟨gl, 0, none⟩), .pointer (some ⟨gx, 0, none⟩), .pointer (some ⟨gf, 0, none⟩)] w (RetF w gf { f with val := at0 l (sl W D J S f.who f.y) }) := by
  have HM := Lib.hid hM
  have HF := Lib.hid hF
  have H := Lib.hid h
  have HN := Lib.hid hn
  have HS := Lib.hid hs
  obtain ⟨o, p, q, v, x, y, s⟩ := f
  have HU := Lib.hid hu
  clear hu
  have hg := hF.lt
  have lgx := hX.1
  have lgl := hL.lt
  have lgm := hM.lt
  have fz := hF.free
  have zr := Below.refl w.heap.size w
  have HK := Lib.hid (show ∀ x', Kx gf 3 w x' → (fun w' => w'.cell? ⟨gx, 0, none⟩ = some (.int .i64 W) ∧ w'.cell? ⟨gx, 1, none⟩ = some (.int .i64 D) ∧ w'.cell? ⟨gx, 2, none⟩ = some (.int .i64 J) ∧ w'.cell? ⟨gx, 3, none⟩ = some (.int .i64 S) ∧ w'.cell? ⟨gl, 0, none⟩ = some (.func (.func 94) #[] #[.pointer (some ⟨gm, 0, none⟩)]) ∧ w'.cell? ⟨gf, 2, none⟩ = some (.int .i64 q) ∧ w'.cell? ⟨gf, 5, none⟩ = some (.int .u64 y) ∧ Kx gf 3 w w') x' from fun x' hx => by
    have e : x'.heap[gx]? = w.heap[gx]? := hx.others gx hX.1 hgx
    obtain ⟨_, e0, e1, e2, e3⟩ := hX
    have k : x'.heap[gl]? = w.heap[gl]? := hx.others gl hL.lt hgl
    obtain ⟨d0, d1, d2, d3, d4, d5, d6⟩ := hF.cells
    exact ⟨(World.cell?_of_block e).trans e0, (World.cell?_of_block e).trans e1, (World.cell?_of_block e).trans e2, (World.cell?_of_block e).trans e3, (World.cell?_of_block k).trans hL.cell, (hx.cells 2 (by decide)).trans d2, (hx.cells 5 (by decide)).trans d5, hx⟩)
  have hHeld0 := HK.out _ (Kx.refl gf 3 w)
  clear hM h hn hs hX hF hL
  go_enter Try.func99, Try.ntmps99
  go_wp2_with fail
  refine wp_region_held_drew (S := fun w' => w'.cell? ⟨gx, 0, none⟩ = some (.int .i64 W) ∧ w'.cell? ⟨gx, 1, none⟩ = some (.int .i64 D) ∧ w'.cell? ⟨gx, 2, none⟩ = some (.int .i64 J) ∧ w'.cell? ⟨gx, 3, none⟩ = some (.int .i64 S) ∧ w'.cell? ⟨gl, 0, none⟩ = some (.func (.func 94) #[] #[.pointer (some ⟨gm, 0, none⟩)]) ∧ w'.cell? ⟨gf, 2, none⟩ = some (.int .i64 q) ∧ w'.cell? ⟨gf, 5, none⟩ = some (.int .u64 y) ∧ Kx gf 3 w w') (by kernel_rfl) (kx_drew HK.out (fun _ h => h.2.2.2.2.2.2.2) hHeld0) (fun hHeld => ?_)
  refine wpAnyH_take (i := 0) (oi := { dst := some 3, op := Go.Op.load 100 (Go.Operand.tmp 0), type := 100, pos := "steal.go:57", after := #[], guard := none }) (v := ?vdeeq1) rfl (by kernel_rfl) (by kernel_rfl) (by kernel_rfl) (fun _ _ _ h => h) (Or.inl ⟨by rfl, ?ydeeq1⟩) (by assumption) ?rdeeq1
  case ydeeq1 => (intro w hSw; (try dsimp only at hSw); go_simp; (try with_reducible rfl))
  (try simp only [Act.put, List.setIfInBounds_toArray, List.set_cons_zero, List.set_cons_succ])
  refine wpAnyH_take (i := 1) (oi := { dst := some 4, op := Go.Op.load 23 (Go.Operand.tmp 1), type := 23, pos := "steal.go:57", after := #[], guard := none }) (v := ?vdeeq2) rfl (by kernel_rfl) (by kernel_rfl) (by kernel_rfl) (fun _ _ _ h => h) (Or.inl ⟨by rfl, ?ydeeq2⟩) (by assumption) ?rdeeq2
  case ydeeq2 => (intro w hSw; (try dsimp only at hSw); go_simp; (try with_reducible rfl))
  (try simp only [Act.put, List.setIfInBounds_toArray, List.set_cons_zero, List.set_cons_succ])
  refine wpAnyH_take (i := 2) (oi := { dst := some 5, op := Go.Op.fieldAddr 28 (Go.Operand.tmp 2) 2, type := 0, pos := "steal.go:57", after := #[], guard := none }) (v := ?vdeeq3) rfl (by kernel_rfl) (by kernel_rfl) (by kernel_rfl) (fun _ _ _ h => h) (Or.inl ⟨by rfl, ?ydeeq3⟩) (by assumption) ?rdeeq3
  case ydeeq3 => (intro w hSw; (try dsimp only at hSw); go_simp; (try with_reducible rfl))
  (try simp only [Act.put, List.setIfInBounds_toArray, List.set_cons_zero, List.set_cons_succ])
  refine wpAnyH_take (i := 3) (oi := { dst := some 6, op := Go.Op.load 3 (Go.Operand.tmp 5), type := 3, pos := "steal.go:57", after := #[{ on := 2, ground := Go.Ground.data }], guard := none }) (v := ?vdeeq4) rfl (by kernel_rfl) (by kernel_rfl) (by kernel_rfl) (fun _ _ _ h => h) (Or.inl ⟨by rfl, ?ydeeq4⟩) (by assumption) ?rdeeq4
  case ydeeq4 => (intro w hSw; (try dsimp only at hSw); go_simp; (try with_reducible rfl))
  (try simp only [Act.put, List.setIfInBounds_toArray, List.set_cons_zero, List.set_cons_succ])
  refine wpAnyH_take (i := 4) (oi := { dst := some 7, op := Go.Op.fieldAddr 28 (Go.Operand.tmp 2) 5, type := 0, pos := "steal.go:57", after := #[], guard := none }) (v := ?vdeeq5) rfl (by kernel_rfl) (by kernel_rfl) (by kernel_rfl) (fun _ _ _ h => h) (Or.inl ⟨by rfl, ?ydeeq5⟩) (by assumption) ?rdeeq5
  case ydeeq5 => (intro w hSw; (try dsimp only at hSw); go_simp; (try with_reducible rfl))
  (try simp only [Act.put, List.setIfInBounds_toArray, List.set_cons_zero, List.set_cons_succ])
  refine wpAnyH_take (i := 5) (oi := { dst := some 8, op := Go.Op.load 26 (Go.Operand.tmp 7), type := 26, pos := "steal.go:57", after := #[{ on := 4, ground := Go.Ground.data }], guard := none }) (v := ?vdeeq6) rfl (by kernel_rfl) (by kernel_rfl) (by kernel_rfl) (fun _ _ _ h => h) (Or.inl ⟨by rfl, ?ydeeq6⟩) (by assumption) ?rdeeq6
  case ydeeq6 => (intro w hSw; (try dsimp only at hSw); go_simp; (try with_reducible rfl))
  (try simp only [Act.put, List.setIfInBounds_toArray, List.set_cons_zero, List.set_cons_succ])
  refine wpAnyH_ready (rs := [6]) (by kernel_rfl) (by simp) ?_
  refine (AllReadyH.cons (o := { dst := some 9, op := Go.Op.call { callee := Go.Callee.value (Go.Operand.func 52), args := #[Go.Operand.tmp 4, Go.Operand.tmp 6, Go.Operand.tmp 8], argTypes := #[23, 3, 26] }, type := 3, pos := "steal.go:57", after := #[{ on := 1, ground := Go.Ground.data }, { on := 3, ground := Go.Ground.data }, { on := 5, ground := Go.Ground.data }], guard := none }) rfl (fun K hK => ?_) AllReadyH.nil)
  go_simp
  refine (slot_any W D J S q y _ HU.out).mono ?_
  rintro e w1 ⟨rfl, hb⟩
  go_wp2_with fail
  have z1 := keep_call (w2 := w) hb zr.drew
  have Z1 := Lib.hid z1
  have lf := (HF.out.after z1).lt
  have fz := (HF.out.after z1).free
  have lm := (HM.out.after z1).lt
  refine hK.out _ _ (kx_call HK.out (fun _ h => h.2.2.2.2.2.2.2) hg hb hHeld) (fun hHeld2 => ?_)
  clear hK K hHeld
  have hHeld := hHeld2
  clear hHeld2
  (try simp only [Act.put, List.setIfInBounds_toArray, List.set_cons_zero, List.set_cons_succ])
  refine wpAnyH_ready (rs := [7]) (by kernel_rfl) (by simp) ?_
  refine (AllReadyH.cons (o := { dst := some 10, op := Go.Op.call { callee := Go.Callee.value (Go.Operand.tmp 3), args := #[Go.Operand.tmp 9], argTypes := #[3] }, type := 26, pos := "steal.go:57", after := #[{ on := 0, ground := Go.Ground.data }, { on := 6, ground := Go.Ground.data }, { on := 6, ground := Go.Ground.chain }], guard := none }) rfl (fun K hK => ?_) AllReadyH.nil)
  go_simp
  refine (sload_n (HM.out.after Z1.out) (H.out.below Z1.out) HN.out HS.out).mono ?_
  rintro e w2 ⟨rfl, hb2⟩
  go_wp2_with fail
  have z2 := keep_call (w2 := w) hb2 Z1.out
  have Z2 := Lib.hid z2
  have lf := (HF.out.after z2).lt
  obtain ⟨c0, c1, c2, c3, c4, c5, c6⟩ := (HF.out.after z2).cells
  have fz := (HF.out.after z2).free
  have lm := (HM.out.after z2).lt
  refine hK.out _ _ (kx_call HK.out (fun _ h => h.2.2.2.2.2.2.2) hg hb2 hHeld) (fun hHeld2 => ?_)
  clear hK K hHeld
  have hHeld := hHeld2
  clear hHeld2
  (try simp only [Act.put, List.setIfInBounds_toArray, List.set_cons_zero, List.set_cons_succ])
  refine wpAnyH_take (i := 8) (oi := { dst := some 11, op := Go.Op.fieldAddr 28 (Go.Operand.tmp 2) 3, type := 0, pos := "steal.go:57", after := #[{ on := 0, ground := Go.Ground.phase }, { on := 1, ground := Go.Ground.phase }, { on := 2, ground := Go.Ground.phase }, { on := 3, ground := Go.Ground.phase }, { on := 4, ground := Go.Ground.phase }, { on := 5, ground := Go.Ground.phase }, { on := 6, ground := Go.Ground.phase }, { on := 7, ground := Go.Ground.phase }], guard := none }) (v := ?vdeeq7) rfl (by kernel_rfl) (by kernel_rfl) (by kernel_rfl) (fun _ _ _ h => h) (Or.inl ⟨by rfl, ?ydeeq7⟩) (by assumption) ?rdeeq7
  case ydeeq7 => (intro w hSw; (try dsimp only at hSw); go_simp; (try with_reducible rfl))
  (try simp only [Act.put, List.setIfInBounds_toArray, List.set_cons_zero, List.set_cons_succ])
  refine wpAnyH_ready (rs := [9]) (by kernel_rfl) (by simp) ?_
  refine (AllReadyH.cons (o := { dst := none, op := Go.Op.store 26 (Go.Operand.tmp 11) (Go.Operand.tmp 10), type := 0, pos := "steal.go:57", after := #[{ on := 8, ground := Go.Ground.data }, { on := 7, ground := Go.Ground.data }, { on := 7, ground := Go.Ground.chain }, { on := 0, ground := Go.Ground.phase }, { on := 1, ground := Go.Ground.phase }, { on := 2, ground := Go.Ground.phase }, { on := 3, ground := Go.Ground.phase }, { on := 4, ground := Go.Ground.phase }, { on := 5, ground := Go.Ground.phase }, { on := 6, ground := Go.Ground.phase }, { on := 7, ground := Go.Ground.phase }], guard := none }) rfl (fun K hK => ?_) AllReadyH.nil)
  go_simp
  refine hK.out _ _ (kx_set HK.out (fun _ h => h.2.2.2.2.2.2.2) _ hHeld) (fun hHeld2 => ?_)
  clear hK K hHeld
  have hHeld := hHeld2
  clear hHeld2
  (try simp only [Act.put, List.setIfInBounds_toArray, List.set_cons_zero, List.set_cons_succ])
  refine wpAnyH_done (by kernel_rfl) ?_ _
  clear hHeld
  go_wp2
  refine bodyPost_ret (by simp [results, Try.results99, go_sem]; try rfl) rfl ?_
  exact ⟨rfl, (HF.out.after Z2.out).wVal _, (((Kb.refl gf w).call hg Z2.out).set 3 _)⟩
set_option maxRecDepth 100000 in
set_option maxHeartbeats 2000000 in
theorem deed_bott (gl gm gx gf ge : Nat) (f : Fr) (W D J S : Int) (A : Option Addr) (n c : Nat) (l : List Int) (hd : decide (far (at0 l (ow W D J S f.who 1)) f.y ≤ 0) = true) (w : World) (hL : Bv w gl (.func (.func 94) #[] #[.pointer (some ⟨gm, 0, none⟩)]) 100) (hM : Bm w gm (.slice A n c)) (hX : Bx w gx W D J S) (hF : Bf w gf f) (h : Rd w A l) (hn : l.length = n) (hE : Bv w ge (.func (.func 95) #[] #[.pointer (some ⟨gf, 0, none⟩)]) 102) (hge : ge ≠ gf) (hgl : gl ≠ gf) (hgx : gx ≠ gf) (hs : n ≤ 500) :
    Calls Try.prog 98 #[.pointer (some ⟨gl, 0, none⟩), .pointer (some ⟨gx, 0, none⟩), .pointer (some ⟨gf, 0, none⟩), .pointer (some ⟨ge, 0, none⟩)] w (RetF w gf (ed { f with x := at0 l (ow W D J S f.who 1) } 3 0)) := by
  have HM := Lib.hid hM
  have HF := Lib.hid hF
  have H := Lib.hid h
  have HN := Lib.hid hn
  have HS := Lib.hid hs
  obtain ⟨o, p, q, v, x, y, s⟩ := f
  have HD := Lib.hid hd
  clear hd
  have HE := Lib.hid hE
  have hge := Lib.hid hge
  have hg := hF.lt
  have lgx := hX.1
  have lgl := hL.lt
  have lgm := hM.lt
  have fz := hF.free
  have zr := Below.refl w.heap.size w
  have HK := Lib.hid (show ∀ x', Kx gf 4 w x' → (fun w' => w'.cell? ⟨gx, 0, none⟩ = some (.int .i64 W) ∧ w'.cell? ⟨gx, 1, none⟩ = some (.int .i64 D) ∧ w'.cell? ⟨gx, 2, none⟩ = some (.int .i64 J) ∧ w'.cell? ⟨gx, 3, none⟩ = some (.int .i64 S) ∧ w'.cell? ⟨gl, 0, none⟩ = some (.func (.func 94) #[] #[.pointer (some ⟨gm, 0, none⟩)]) ∧ w'.cell? ⟨gf, 2, none⟩ = some (.int .i64 q) ∧ Kx gf 4 w w') x' from fun x' hx => by
    have e : x'.heap[gx]? = w.heap[gx]? := hx.others gx hX.1 hgx
    obtain ⟨_, e0, e1, e2, e3⟩ := hX
    have k : x'.heap[gl]? = w.heap[gl]? := hx.others gl hL.lt hgl
    obtain ⟨d0, d1, d2, d3, d4, d5, d6⟩ := hF.cells
    exact ⟨(World.cell?_of_block e).trans e0, (World.cell?_of_block e).trans e1, (World.cell?_of_block e).trans e2, (World.cell?_of_block e).trans e3, (World.cell?_of_block k).trans hL.cell, (hx.cells 2 (by decide)).trans d2, hx⟩)
  have hHeld0 := HK.out _ (Kx.refl gf 4 w)
  clear hM h hn hs hX hF hL hE
  go_enter Try.func98, Try.ntmps98
  go_wp2_with fail
  refine wp_region_held_drew (S := fun w' => w'.cell? ⟨gx, 0, none⟩ = some (.int .i64 W) ∧ w'.cell? ⟨gx, 1, none⟩ = some (.int .i64 D) ∧ w'.cell? ⟨gx, 2, none⟩ = some (.int .i64 J) ∧ w'.cell? ⟨gx, 3, none⟩ = some (.int .i64 S) ∧ w'.cell? ⟨gl, 0, none⟩ = some (.func (.func 94) #[] #[.pointer (some ⟨gm, 0, none⟩)]) ∧ w'.cell? ⟨gf, 2, none⟩ = some (.int .i64 q) ∧ Kx gf 4 w w') (by kernel_rfl) (kx_drew HK.out (fun _ h => h.2.2.2.2.2.2) hHeld0) (fun hHeld => ?_)
  refine wpAnyH_take (i := 0) (oi := { dst := some 4, op := Go.Op.load 100 (Go.Operand.tmp 0), type := 100, pos := "steal.go:52", after := #[], guard := none }) (v := ?vdeeq1) rfl (by kernel_rfl) (by kernel_rfl) (by kernel_rfl) (fun _ _ _ h => h) (Or.inl ⟨by rfl, ?ydeeq1⟩) (by assumption) ?rdeeq1
  case ydeeq1 => (intro w hSw; (try dsimp only at hSw); go_simp; (try with_reducible rfl))
  (try simp only [Act.put, List.setIfInBounds_toArray, List.set_cons_zero, List.set_cons_succ])
  refine wpAnyH_take (i := 1) (oi := { dst := some 5, op := Go.Op.load 23 (Go.Operand.tmp 1), type := 23, pos := "steal.go:52", after := #[], guard := none }) (v := ?vdeeq2) rfl (by kernel_rfl) (by kernel_rfl) (by kernel_rfl) (fun _ _ _ h => h) (Or.inl ⟨by rfl, ?ydeeq2⟩) (by assumption) ?rdeeq2
  case ydeeq2 => (intro w hSw; (try dsimp only at hSw); go_simp; (try with_reducible rfl))
  (try simp only [Act.put, List.setIfInBounds_toArray, List.set_cons_zero, List.set_cons_succ])
  refine wpAnyH_take (i := 2) (oi := { dst := some 6, op := Go.Op.fieldAddr 28 (Go.Operand.tmp 2) 2, type := 0, pos := "steal.go:52", after := #[], guard := none }) (v := ?vdeeq3) rfl (by kernel_rfl) (by kernel_rfl) (by kernel_rfl) (fun _ _ _ h => h) (Or.inl ⟨by rfl, ?ydeeq3⟩) (by assumption) ?rdeeq3
  case ydeeq3 => (intro w hSw; (try dsimp only at hSw); go_simp; (try with_reducible rfl))
  (try simp only [Act.put, List.setIfInBounds_toArray, List.set_cons_zero, List.set_cons_succ])
  refine wpAnyH_take (i := 3) (oi := { dst := some 7, op := Go.Op.load 3 (Go.Operand.tmp 6), type := 3, pos := "steal.go:52", after := #[{ on := 2, ground := Go.Ground.data }], guard := none }) (v := ?vdeeq4) rfl (by kernel_rfl) (by kernel_rfl) (by kernel_rfl) (fun _ _ _ h => h) (Or.inl ⟨by rfl, ?ydeeq4⟩) (by assumption) ?rdeeq4
  case ydeeq4 => (intro w hSw; (try dsimp only at hSw); go_simp; (try with_reducible rfl))
  (try simp only [Act.put, List.setIfInBounds_toArray, List.set_cons_zero, List.set_cons_succ])
  refine wpAnyH_ready (rs := [4]) (by kernel_rfl) (by simp) ?_
  refine (AllReadyH.cons (o := { dst := some 8, op := Go.Op.call { callee := Go.Callee.value (Go.Operand.func 50), args := #[Go.Operand.tmp 5, Go.Operand.tmp 7], argTypes := #[23, 3] }, type := 3, pos := "steal.go:52", after := #[{ on := 1, ground := Go.Ground.data }, { on := 3, ground := Go.Ground.data }], guard := none }) rfl (fun K hK => ?_) AllReadyH.nil)
  go_simp
  refine (bottom_any W D J S q _).mono ?_
  rintro e w1 ⟨rfl, hb⟩
  go_wp2_with fail
  have z1 := keep_call (w2 := w) hb zr.drew
  have Z1 := Lib.hid z1
  have lf := (HF.out.after z1).lt
  have fz := (HF.out.after z1).free
  have lm := (HM.out.after z1).lt
  refine hK.out _ _ (kx_call HK.out (fun _ h => h.2.2.2.2.2.2) hg hb hHeld) (fun hHeld2 => ?_)
  clear hK K hHeld
  have hHeld := hHeld2
  clear hHeld2
  (try simp only [Act.put, List.setIfInBounds_toArray, List.set_cons_zero, List.set_cons_succ])
  refine wpAnyH_ready (rs := [5]) (by kernel_rfl) (by simp) ?_
  refine (AllReadyH.cons (o := { dst := some 9, op := Go.Op.call { callee := Go.Callee.value (Go.Operand.tmp 4), args := #[Go.Operand.tmp 8], argTypes := #[3] }, type := 26, pos := "steal.go:52", after := #[{ on := 0, ground := Go.Ground.data }, { on := 4, ground := Go.Ground.data }, { on := 4, ground := Go.Ground.chain }], guard := none }) rfl (fun K hK => ?_) AllReadyH.nil)
  go_simp
  refine (sload_n (HM.out.after Z1.out) (H.out.below Z1.out) HN.out HS.out).mono ?_
  rintro e w2 ⟨rfl, hb2⟩
  go_wp2_with fail
  have z2 := keep_call (w2 := w) hb2 Z1.out
  have Z2 := Lib.hid z2
  have lf := (HF.out.after z2).lt
  obtain ⟨c0, c1, c2, c3, c4, c5, c6⟩ := (HF.out.after z2).cells
  have fz := (HF.out.after z2).free
  have lm := (HM.out.after z2).lt
  refine hK.out _ _ (kx_call HK.out (fun _ h => h.2.2.2.2.2.2) hg hb2 hHeld) (fun hHeld2 => ?_)
  clear hK K hHeld
  have hHeld := hHeld2
  clear hHeld2
  (try simp only [Act.put, List.setIfInBounds_toArray, List.set_cons_zero, List.set_cons_succ])
  refine wpAnyH_take (i := 6) (oi := { dst := some 10, op := Go.Op.fieldAddr 28 (Go.Operand.tmp 2) 4, type := 0, pos := "steal.go:52", after := #[{ on := 0, ground := Go.Ground.phase }, { on := 1, ground := Go.Ground.phase }, { on := 2, ground := Go.Ground.phase }, { on := 3, ground := Go.Ground.phase }, { on := 4, ground := Go.Ground.phase }, { on := 5, ground := Go.Ground.phase }], guard := none }) (v := ?vdeeq5) rfl (by kernel_rfl) (by kernel_rfl) (by kernel_rfl) (fun _ _ _ h => h) (Or.inl ⟨by rfl, ?ydeeq5⟩) (by assumption) ?rdeeq5
  case ydeeq5 => (intro w hSw; (try dsimp only at hSw); go_simp; (try with_reducible rfl))
  (try simp only [Act.put, List.setIfInBounds_toArray, List.set_cons_zero, List.set_cons_succ])
  refine wpAnyH_ready (rs := [7]) (by kernel_rfl) (by simp) ?_
  refine (AllReadyH.cons (o := { dst := none, op := Go.Op.store 26 (Go.Operand.tmp 10) (Go.Operand.tmp 9), type := 0, pos := "steal.go:52", after := #[{ on := 6, ground := Go.Ground.data }, { on := 5, ground := Go.Ground.data }, { on := 5, ground := Go.Ground.chain }, { on := 0, ground := Go.Ground.phase }, { on := 1, ground := Go.Ground.phase }, { on := 2, ground := Go.Ground.phase }, { on := 3, ground := Go.Ground.phase }, { on := 4, ground := Go.Ground.phase }, { on := 5, ground := Go.Ground.phase }], guard := none }) rfl (fun K hK => ?_) AllReadyH.nil)
  go_simp
  refine hK.out _ _ (kx_set HK.out (fun _ h => h.2.2.2.2.2.2) _ hHeld) (fun hHeld2 => ?_)
  clear hK K hHeld
  have hHeld := hHeld2
  clear hHeld2
  (try simp only [Act.put, List.setIfInBounds_toArray, List.set_cons_zero, List.set_cons_succ])
  refine wpAnyH_done (by kernel_rfl) ?_ _
  clear hHeld
  have B3 := Lib.hid ((HF.out.after Z2.out).wX (at0 l (ow W D J S q 1)))
  have K3 := Lib.hid ((((Kb.refl gf w).call hg Z2.out).set 4 (.int .u64 (at0 l (ow W D J S q 1)))))
  have E3 := Lib.hid (HE.out.kb K3.out hge.out)
  go_upto_region 1 with fail
  change Code.wp _ _ _ _ (w2.setCell ⟨gf, 4, none⟩ (.int .u64 (at0 l (ow W D J S q 1))))
  generalize w2.setCell ⟨gf, 4, none⟩ (.int .u64 (at0 l (ow W D J S q 1))) = w3 at B3 K3 E3 ⊢
  clear lf fz lm z1 z2 lgx lgl lgm
  have hd := HD.out
  obtain ⟨d0, d1, d2, d3, d4, d5, d6⟩ := B3.out.cells
  have lf := B3.out.lt
  have e0 := E3.out.cell
  have le := E3.out.lt
  simp only at d0 d1 d2 d3 d4 d5 d6
  go_wp2_with fail
  refine (far_any _ _ _).mono ?_
  rintro _ _ ⟨rfl, rfl⟩
  go_wp2_with fail
  refine (send_any gf _ 3 0 _ B3.out).mono ?_
  rintro _ w5 ⟨rfl, hb5, hk5⟩
  have HB5 := Lib.hid hb5
  have HK5 := Lib.hid hk5
  clear hb5 hk5 d0 d1 d2 d3 d4 d5 d6 e0 lf le
  go_wp2
  refine bodyPost_ret (by simp [results, Try.results98, go_sem]; try rfl) rfl ?_
  exact ⟨rfl, HB5.out, K3.out.trans HK5.out⟩
set_option maxRecDepth 100000 in
set_option maxHeartbeats 2000000 in
theorem deed_botf (gl gm gx gf ge : Nat) (f : Fr) (W D J S : Int) (A : Option Addr) (n c : Nat) (l : List Int) (hd : decide (far (at0 l (ow W D J S f.who 1)) f.y ≤ 0) = false) (w : World) (hL : Bv w gl (.func (.func 94) #[] #[.pointer (some ⟨gm, 0, none⟩)]) 100) (hM : Bm w gm (.slice A n c)) (hX : Bx w gx W D J S) (hF : Bf w gf f) (h : Rd w A l) (hn : l.length = n) (hE : Bv w ge (.func (.func 95) #[] #[.pointer (some ⟨gf, 0, none⟩)]) 102) (hge : ge ≠ gf) (hgl : gl ≠ gf) (hgx : gx ≠ gf) (hs : n ≤ 500) :
    Calls Try.prog 98 #[.pointer (some ⟨gl, 0, none⟩), .pointer (some ⟨gx, 0, none⟩), .pointer (some ⟨gf, 0, none⟩), .pointer (some ⟨ge, 0, none⟩)] w (RetF w gf { f with x := at0 l (ow W D J S f.who 1) }) := by
  have HM := Lib.hid hM
  have HF := Lib.hid hF
  have H := Lib.hid h
  have HN := Lib.hid hn
  have HS := Lib.hid hs
  obtain ⟨o, p, q, v, x, y, s⟩ := f
  have HD := Lib.hid hd
  clear hd
  have HE := Lib.hid hE
  have hge := Lib.hid hge
  have hg := hF.lt
  have lgx := hX.1
  have lgl := hL.lt
  have lgm := hM.lt
  have fz := hF.free
  have zr := Below.refl w.heap.size w
  have HK := Lib.hid (show ∀ x', Kx gf 4 w x' → (fun w' => w'.cell? ⟨gx, 0, none⟩ = some (.int .i64 W) ∧ w'.cell? ⟨gx, 1, none⟩ = some (.int .i64 D) ∧ w'.cell? ⟨gx, 2, none⟩ = some (.int .i64 J) ∧ w'.cell? ⟨gx, 3, none⟩ = some (.int .i64 S) ∧ w'.cell? ⟨gl, 0, none⟩ = some (.func (.func 94) #[] #[.pointer (some ⟨gm, 0, none⟩)]) ∧ w'.cell? ⟨gf, 2, none⟩ = some (.int .i64 q) ∧ Kx gf 4 w w') x' from fun x' hx => by
    have e : x'.heap[gx]? = w.heap[gx]? := hx.others gx hX.1 hgx
    obtain ⟨_, e0, e1, e2, e3⟩ := hX
    have k : x'.heap[gl]? = w.heap[gl]? := hx.others gl hL.lt hgl
    obtain ⟨d0, d1, d2, d3, d4, d5, d6⟩ := hF.cells
    exact ⟨(World.cell?_of_block e).trans e0, (World.cell?_of_block e).trans e1, (World.cell?_of_block e).trans e2, (World.cell?_of_block e).trans e3, (World.cell?_of_block k).trans hL.cell, (hx.cells 2 (by decide)).trans d2, hx⟩)
  have hHeld0 := HK.out _ (Kx.refl gf 4 w)
  clear hM h hn hs hX hF hL hE
  go_enter Try.func98, Try.ntmps98
  go_wp2_with fail
  refine wp_region_held_drew (S := fun w' => w'.cell? ⟨gx, 0, none⟩ = some (.int .i64 W) ∧ w'.cell? ⟨gx, 1, none⟩ = some (.int .i64 D) ∧ w'.cell? ⟨gx, 2, none⟩ = some (.int .i64 J) ∧ w'.cell? ⟨gx, 3, none⟩ = some (.int .i64 S) ∧ w'.cell? ⟨gl, 0, none⟩ = some (.func (.func 94) #[] #[.pointer (some ⟨gm, 0, none⟩)]) ∧ w'.cell? ⟨gf, 2, none⟩ = some (.int .i64 q) ∧ Kx gf 4 w w') (by kernel_rfl) (kx_drew HK.out (fun _ h => h.2.2.2.2.2.2) hHeld0) (fun hHeld => ?_)
  refine wpAnyH_take (i := 0) (oi := { dst := some 4, op := Go.Op.load 100 (Go.Operand.tmp 0), type := 100, pos := "steal.go:52", after := #[], guard := none }) (v := ?vdeeq1) rfl (by kernel_rfl) (by kernel_rfl) (by kernel_rfl) (fun _ _ _ h => h) (Or.inl ⟨by rfl, ?ydeeq1⟩) (by assumption) ?rdeeq1
  case ydeeq1 => (intro w hSw; (try dsimp only at hSw); go_simp; (try with_reducible rfl))
  (try simp only [Act.put, List.setIfInBounds_toArray, List.set_cons_zero, List.set_cons_succ])
  refine wpAnyH_take (i := 1) (oi := { dst := some 5, op := Go.Op.load 23 (Go.Operand.tmp 1), type := 23, pos := "steal.go:52", after := #[], guard := none }) (v := ?vdeeq2) rfl (by kernel_rfl) (by kernel_rfl) (by kernel_rfl) (fun _ _ _ h => h) (Or.inl ⟨by rfl, ?ydeeq2⟩) (by assumption) ?rdeeq2
  case ydeeq2 => (intro w hSw; (try dsimp only at hSw); go_simp; (try with_reducible rfl))
  (try simp only [Act.put, List.setIfInBounds_toArray, List.set_cons_zero, List.set_cons_succ])
  refine wpAnyH_take (i := 2) (oi := { dst := some 6, op := Go.Op.fieldAddr 28 (Go.Operand.tmp 2) 2, type := 0, pos := "steal.go:52", after := #[], guard := none }) (v := ?vdeeq3) rfl (by kernel_rfl) (by kernel_rfl) (by kernel_rfl) (fun _ _ _ h => h) (Or.inl ⟨by rfl, ?ydeeq3⟩) (by assumption) ?rdeeq3
  case ydeeq3 => (intro w hSw; (try dsimp only at hSw); go_simp; (try with_reducible rfl))
  (try simp only [Act.put, List.setIfInBounds_toArray, List.set_cons_zero, List.set_cons_succ])
  refine wpAnyH_take (i := 3) (oi := { dst := some 7, op := Go.Op.load 3 (Go.Operand.tmp 6), type := 3, pos := "steal.go:52", after := #[{ on := 2, ground := Go.Ground.data }], guard := none }) (v := ?vdeeq4) rfl (by kernel_rfl) (by kernel_rfl) (by kernel_rfl) (fun _ _ _ h => h) (Or.inl ⟨by rfl, ?ydeeq4⟩) (by assumption) ?rdeeq4
  case ydeeq4 => (intro w hSw; (try dsimp only at hSw); go_simp; (try with_reducible rfl))
  (try simp only [Act.put, List.setIfInBounds_toArray, List.set_cons_zero, List.set_cons_succ])
  refine wpAnyH_ready (rs := [4]) (by kernel_rfl) (by simp) ?_
  refine (AllReadyH.cons (o := { dst := some 8, op := Go.Op.call { callee := Go.Callee.value (Go.Operand.func 50), args := #[Go.Operand.tmp 5, Go.Operand.tmp 7], argTypes := #[23, 3] }, type := 3, pos := "steal.go:52", after := #[{ on := 1, ground := Go.Ground.data }, { on := 3, ground := Go.Ground.data }], guard := none }) rfl (fun K hK => ?_) AllReadyH.nil)
  go_simp
  refine (bottom_any W D J S q _).mono ?_
  rintro e w1 ⟨rfl, hb⟩
  go_wp2_with fail
  have z1 := keep_call (w2 := w) hb zr.drew
  have Z1 := Lib.hid z1
  have lf := (HF.out.after z1).lt
  have fz := (HF.out.after z1).free
  have lm := (HM.out.after z1).lt
  refine hK.out _ _ (kx_call HK.out (fun _ h => h.2.2.2.2.2.2) hg hb hHeld) (fun hHeld2 => ?_)
  clear hK K hHeld
  have hHeld := hHeld2
  clear hHeld2
  (try simp only [Act.put, List.setIfInBounds_toArray, List.set_cons_zero, List.set_cons_succ])
  refine wpAnyH_ready (rs := [5]) (by kernel_rfl) (by simp) ?_
  refine (AllReadyH.cons (o := { dst := some 9, op := Go.Op.call { callee := Go.Callee.value (Go.Operand.tmp 4), args := #[Go.Operand.tmp 8], argTypes := #[3] }, type := 26, pos := "steal.go:52", after := #[{ on := 0, ground := Go.Ground.data }, { on := 4, ground := Go.Ground.data }, { on := 4, ground := Go.Ground.chain }], guard := none }) rfl (fun K hK => ?_) AllReadyH.nil)
  go_simp
  refine (sload_n (HM.out.after Z1.out) (H.out.below Z1.out) HN.out HS.out).mono ?_
  rintro e w2 ⟨rfl, hb2⟩
  go_wp2_with fail
  have z2 := keep_call (w2 := w) hb2 Z1.out
  have Z2 := Lib.hid z2
  have lf := (HF.out.after z2).lt
  obtain ⟨c0, c1, c2, c3, c4, c5, c6⟩ := (HF.out.after z2).cells
  have fz := (HF.out.after z2).free
  have lm := (HM.out.after z2).lt
  refine hK.out _ _ (kx_call HK.out (fun _ h => h.2.2.2.2.2.2) hg hb2 hHeld) (fun hHeld2 => ?_)
  clear hK K hHeld
  have hHeld := hHeld2
  clear hHeld2
  (try simp only [Act.put, List.setIfInBounds_toArray, List.set_cons_zero, List.set_cons_succ])
  refine wpAnyH_take (i := 6) (oi := { dst := some 10, op := Go.Op.fieldAddr 28 (Go.Operand.tmp 2) 4, type := 0, pos := "steal.go:52", after := #[{ on := 0, ground := Go.Ground.phase }, { on := 1, ground := Go.Ground.phase }, { on := 2, ground := Go.Ground.phase }, { on := 3, ground := Go.Ground.phase }, { on := 4, ground := Go.Ground.phase }, { on := 5, ground := Go.Ground.phase }], guard := none }) (v := ?vdeeq5) rfl (by kernel_rfl) (by kernel_rfl) (by kernel_rfl) (fun _ _ _ h => h) (Or.inl ⟨by rfl, ?ydeeq5⟩) (by assumption) ?rdeeq5
  case ydeeq5 => (intro w hSw; (try dsimp only at hSw); go_simp; (try with_reducible rfl))
  (try simp only [Act.put, List.setIfInBounds_toArray, List.set_cons_zero, List.set_cons_succ])
  refine wpAnyH_ready (rs := [7]) (by kernel_rfl) (by simp) ?_
  refine (AllReadyH.cons (o := { dst := none, op := Go.Op.store 26 (Go.Operand.tmp 10) (Go.Operand.tmp 9), type := 0, pos := "steal.go:52", after := #[{ on := 6, ground := Go.Ground.data }, { on := 5, ground := Go.Ground.data }, { on := 5, ground := Go.Ground.chain }, { on := 0, ground := Go.Ground.phase }, { on := 1, ground := Go.Ground.phase }, { on := 2, ground := Go.Ground.phase }, { on := 3, ground := Go.Ground.phase }, { on := 4, ground := Go.Ground.phase }, { on := 5, ground := Go.Ground.phase }], guard := none }) rfl (fun K hK => ?_) AllReadyH.nil)
  go_simp
  refine hK.out _ _ (kx_set HK.out (fun _ h => h.2.2.2.2.2.2) _ hHeld) (fun hHeld2 => ?_)
  clear hK K hHeld
  have hHeld := hHeld2
  clear hHeld2
  (try simp only [Act.put, List.setIfInBounds_toArray, List.set_cons_zero, List.set_cons_succ])
  refine wpAnyH_done (by kernel_rfl) ?_ _
  clear hHeld
  have B3 := Lib.hid ((HF.out.after Z2.out).wX (at0 l (ow W D J S q 1)))
  have K3 := Lib.hid ((((Kb.refl gf w).call hg Z2.out).set 4 (.int .u64 (at0 l (ow W D J S q 1)))))
  have E3 := Lib.hid (HE.out.kb K3.out hge.out)
  go_upto_region 1 with fail
  change Code.wp _ _ _ _ (w2.setCell ⟨gf, 4, none⟩ (.int .u64 (at0 l (ow W D J S q 1))))
  generalize w2.setCell ⟨gf, 4, none⟩ (.int .u64 (at0 l (ow W D J S q 1))) = w3 at B3 K3 E3 ⊢
  clear lf fz lm z1 z2 lgx lgl lgm
  have hd := HD.out
  obtain ⟨d0, d1, d2, d3, d4, d5, d6⟩ := B3.out.cells
  have lf := B3.out.lt
  have e0 := E3.out.cell
  have le := E3.out.lt
  simp only at d0 d1 d2 d3 d4 d5 d6
  go_wp2_with fail
  refine (far_any _ _ _).mono ?_
  rintro _ _ ⟨rfl, rfl⟩
  go_wp2
  refine bodyPost_ret (by simp [results, Try.results98, go_sem]; try rfl) rfl ?_
  exact ⟨rfl, B3.out, K3.out⟩
set_option maxRecDepth 100000 in
set_option maxHeartbeats 1000000 in
theorem deed_raisey (gk ge gm gx gf : Nat) (f : Fr) (W D J S : Int) (A : Option Addr) (n c : Nat) (l T : List Int) (w : World) (hL : Bv w gk (.func (.func 96) #[] #[.pointer (some ⟨gm, 0, none⟩), .pointer (some ⟨gx, 0, none⟩), .pointer (some ⟨gf, 0, none⟩)]) 31) (hE : Bv w ge (.func (.func 95) #[] #[.pointer (some ⟨gf, 0, none⟩)]) 102) (hM : Bm w gm (.slice A n c)) (hX : Bx w gx W D J S) (hF : Bf w gf f) (h : Rd w A l) (hn : l.length = n) (hgx : gx ≠ gm) (hgf : gf ≠ gm) (hge : ge ≠ gm) (hs : n ≤ 500)
    (hb : isAt l (ow W D J S f.who 0) f.y = true) (hT : (if isAt l (ow W D J S f.who 0) f.y = true then put l (ow W D J S f.who 0) ((f.y + 1) % 18446744073709551616) else l) = T) :
    Calls Try.prog 100 #[.pointer (some ⟨gk, 0, none⟩), .pointer (some ⟨ge, 0, none⟩), .pointer (some ⟨gf, 0, none⟩)] w (RetX w gm gf n T (ed f 1 f.val)) := by
  have HM := Lib.hid hM
  have HX := Lib.hid hX
  have HF := Lib.hid hF
  have HE := Lib.hid hE
  have H := Lib.hid h
  have HN := Lib.hid hn
  have HS := Lib.hid hs
  have HB := Lib.hid hb
  have HT := Lib.hid hT
  have hk0 := hL.cell
  have hk1 := hL.lt
  clear hM hX hF hE h hn hs hb hT hL
  obtain ⟨o, p, q, v, x, y, s⟩ := f
  go_enter Try.func100, Try.ntmps100
  go_wp2_with fail
  refine (stake_n HM.out HX.out HF.out H.out HN.out hgx hgf HS.out HB.out HT.out).mono ?_
  rintro _ w1 ⟨k, rfl, hk, hB, hM2, hK⟩
  have HKK := Lib.hid hk
  have HBK := Lib.hid hB
  have HM2 := Lib.hid hM2
  have HK := Lib.hid hK
  have HF1 := Lib.hid (HF.out.kb hK hgf)
  have e0 := (HE.out.kb hK hge).cell
  have le := (HE.out.kb hK hge).lt
  clear hk hB hM2 hK hk0 hk1
  obtain ⟨d0, d1, d2, d3, d4, d5, d6⟩ := HF1.out.cells
  have lf := HF1.out.lt
  simp only at d0 d1 d2 d3 d4 d5 d6
  go_wp2_with fail
  refine (send_any gf _ 1 v _ HF1.out).mono ?_
  rintro _ w2 ⟨rfl, hb2, hk2⟩
  have HB2 := Lib.hid hb2
  have HK2 := Lib.hid hk2
  clear hb2 hk2 d0 d1 d2 d3 d4 d5 d6 lf e0 le
  go_wp2
  refine bodyPost_ret (by simp [results, Try.results100, go_sem]; try rfl) rfl ?_
  exact ⟨w1, k, rfl, HKK.out, HBK.out, HM2.out, HK.out, HB2.out, HK2.out⟩
set_option maxRecDepth 100000 in
set_option maxHeartbeats 1000000 in
theorem deed_raisen (gk ge gm gx gf : Nat) (f : Fr) (W D J S : Int) (A : Option Addr) (n c : Nat) (l T : List Int) (w : World) (hL : Bv w gk (.func (.func 96) #[] #[.pointer (some ⟨gm, 0, none⟩), .pointer (some ⟨gx, 0, none⟩), .pointer (some ⟨gf, 0, none⟩)]) 31) (hE : Bv w ge (.func (.func 95) #[] #[.pointer (some ⟨gf, 0, none⟩)]) 102) (hM : Bm w gm (.slice A n c)) (hX : Bx w gx W D J S) (hF : Bf w gf f) (h : Rd w A l) (hn : l.length = n) (hgx : gx ≠ gm) (hgf : gf ≠ gm) (hge : ge ≠ gm) (hs : n ≤ 500)
    (hb : isAt l (ow W D J S f.who 0) f.y = false) (hT : (if isAt l (ow W D J S f.who 0) f.y = true then put l (ow W D J S f.who 0) ((f.y + 1) % 18446744073709551616) else l) = T) :
    Calls Try.prog 100 #[.pointer (some ⟨gk, 0, none⟩), .pointer (some ⟨ge, 0, none⟩), .pointer (some ⟨gf, 0, none⟩)] w (RetX w gm gf n T (ed f 4 0)) := by
  have HM := Lib.hid hM
  have HX := Lib.hid hX
  have HF := Lib.hid hF
  have HE := Lib.hid hE
  have H := Lib.hid h
  have HN := Lib.hid hn
  have HS := Lib.hid hs
  have HB := Lib.hid hb
  have HT := Lib.hid hT
  have hk0 := hL.cell
  have hk1 := hL.lt
  clear hM hX hF hE h hn hs hb hT hL
  obtain ⟨o, p, q, v, x, y, s⟩ := f
  go_enter Try.func100, Try.ntmps100
  go_wp2_with fail
  refine (stake_n HM.out HX.out HF.out H.out HN.out hgx hgf HS.out HB.out HT.out).mono ?_
  rintro _ w1 ⟨k, rfl, hk, hB, hM2, hK⟩
  have HKK := Lib.hid hk
  have HBK := Lib.hid hB
  have HM2 := Lib.hid hM2
  have HK := Lib.hid hK
  have HF1 := Lib.hid (HF.out.kb hK hgf)
  have e0 := (HE.out.kb hK hge).cell
  have le := (HE.out.kb hK hge).lt
  clear hk hB hM2 hK hk0 hk1
  obtain ⟨d0, d1, d2, d3, d4, d5, d6⟩ := HF1.out.cells
  have lf := HF1.out.lt
  simp only at d0 d1 d2 d3 d4 d5 d6
  go_wp2_with fail
  refine (send_any gf _ 4 0 _ HF1.out).mono ?_
  rintro _ w2 ⟨rfl, hb2, hk2⟩
  have HB2 := Lib.hid hb2
  have HK2 := Lib.hid hk2
  clear hb2 hk2 d0 d1 d2 d3 d4 d5 d6 lf e0 le
  go_wp2
  refine bodyPost_ret (by simp [results, Try.results100, go_sem]; try rfl) rfl ?_
  exact ⟨w1, k, rfl, HKK.out, HBK.out, HM2.out, HK.out, HB2.out, HK2.out⟩
end Go.Proofs.Ytpeaahihjeplmaa
