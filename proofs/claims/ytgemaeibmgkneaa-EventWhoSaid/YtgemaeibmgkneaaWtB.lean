/- Contracts of the last three steps of waiting. -/
import Derived.Test.YtgemaeibmgkneaaWtA
namespace Go.Proofs.Ytgemaeibmgkneaa
open Go.RowKit Go.Deep
set_option maxHeartbeats 4000000 in
set_option maxRecDepth 100000 in
theorem setBit_any (lo g : Nat) (f : Fr) (W D J S : Int) (T : List Int) (b : Bool) (F : Fr) (A : Option Addr) (c : Nat) (l : List Int) (w : World) (hB : Bw w g f W D J S (.slice A l.length c)) (hA : Rx lo g w A l) (hlo : lo ≤ w.heap.size) (hy : U f.y) (hb : isAt l 2 f.y = b) (hT : (if isAt l 2 f.y = true then put l 2 (st f.y f.who) else l) = T) (hF : F = if b then { f with pc := 3 } else { f with pc := 1 }) (hs : l.length ≤ 500) :
    Calls Try.prog 59 #[.pointer (some ⟨g, 0, none⟩)] w (Lw lo w g F W D J S T) := by
  have HB := Lib.hid hB
  have HA := Lib.hid hA
  have HS := Lib.hid hs
  clear hB hA hs
  obtain ⟨o, p, q, v, x, y, s⟩ := f
  simp only at hy hb hT
  have HTL := Lib.hid (show T.length = l.length by rw [← hT]; split <;> simp [len_put])
  have HT := Lib.hid hT
  have HIB := Lib.hid hb
  have HF := Lib.hid hF
  have HY := Lib.hid hy
  clear hb hT hF hy
  have e := HB.out
  obtain ⟨a0, a1, a2, a3, a4, a5, a6, a7, a8, a9, a10, a11⟩ := e.cells
  have fz := e.free
  have hg := e.lt
  have ZC := Lib.hid (Below.refl w.heap.size w).drew
  have HK := Lib.hid (show ∀ x', Kx g 11 w x' → (fun w' => w'.cell? ⟨g, 2, none⟩ = some (.int .i64 q) ∧ w'.cell? ⟨g, 5, none⟩ = some (.int .u64 y) ∧ Kx g 11 w w') x' from fun x' hx =>
    ⟨(hx.cells 2 (by decide)).trans a2, (hx.cells 5 (by decide)).trans a5, hx⟩)
  have hHeld0 := HK.out _ (Kx.refl g 11 w)
  clear e
  go_enter Try.func59, Try.ntmps59
  go_wp2_with fail
  refine wp_region_held_drew (S := fun w' => w'.cell? ⟨g, 2, none⟩ = some (.int .i64 q) ∧ w'.cell? ⟨g, 5, none⟩ = some (.int .u64 y) ∧ Kx g 11 w w') (by kernel_rfl) (kx_drew HK.out (fun _ h => h.2.2) hHeld0) (fun hHeld => ?_)
  refine wpAnyH_take (i := 0) (oi := { dst := some 4, op := Go.Op.move (Go.Operand.tmp 0), type := 74, pos := "wait.go:87", after := #[], guard := none }) (v := ?vr1) rfl (by kernel_rfl) (by kernel_rfl) (by kernel_rfl) (fun _ _ _ h => h) (Or.inl ⟨by rfl, ?yr1⟩) (by assumption) ?rr1
  case yr1 => (intro w hSw; (try dsimp only at hSw); go_simp; (try with_reducible rfl))
  (try simp only [Act.put, List.setIfInBounds_toArray, List.set_cons_zero, List.set_cons_succ])
  refine wpAnyH_take (i := 1) (oi := { dst := some 5, op := Go.Op.move (Go.Operand.tmp 0), type := 74, pos := "wait.go:87", after := #[], guard := none }) (v := ?vr2) rfl (by kernel_rfl) (by kernel_rfl) (by kernel_rfl) (fun _ _ _ h => h) (Or.inl ⟨by rfl, ?yr2⟩) (by assumption) ?rr2
  case yr2 => (intro w hSw; (try dsimp only at hSw); go_simp; (try with_reducible rfl))
  (try simp only [Act.put, List.setIfInBounds_toArray, List.set_cons_zero, List.set_cons_succ])
  refine wpAnyH_take (i := 2) (oi := { dst := some 6, op := Go.Op.nilCheck (Go.Operand.tmp 5), type := 0, pos := "wait.go:87", after := #[{ on := 1, ground := Go.Ground.data }], guard := none }) (v := ?vr3) rfl (by kernel_rfl) (by kernel_rfl) (by kernel_rfl) (fun _ _ _ h => h) (Or.inl ⟨by rfl, ?yr3⟩) (by assumption) ?rr3
  case yr3 => (intro w hSw; (try dsimp only at hSw); go_simp; (try with_reducible rfl))
  (try simp only [Act.put, List.setIfInBounds_toArray, List.set_cons_zero, List.set_cons_succ])
  refine wpAnyH_take (i := 3) (oi := { dst := some 7, op := Go.Op.fieldAddr 69 (Go.Operand.tmp 6) 2, type := 0, pos := "wait.go:87", after := #[{ on := 2, ground := Go.Ground.data }], guard := none }) (v := ?vr4) rfl (by kernel_rfl) (by kernel_rfl) (by kernel_rfl) (fun _ _ _ h => h) (Or.inl ⟨by rfl, ?yr4⟩) (by assumption) ?rr4
  case yr4 => (intro w hSw; (try dsimp only at hSw); go_simp; (try with_reducible rfl))
  (try simp only [Act.put, List.setIfInBounds_toArray, List.set_cons_zero, List.set_cons_succ])
  refine wpAnyH_take (i := 5) (oi := { dst := some 9, op := Go.Op.move (Go.Operand.tmp 0), type := 74, pos := "wait.go:87", after := #[], guard := none }) (v := ?vr5) rfl (by kernel_rfl) (by kernel_rfl) (by kernel_rfl) (fun _ _ _ h => h) (Or.inl ⟨by rfl, ?yr5⟩) (by assumption) ?rr5
  case yr5 => (intro w hSw; (try dsimp only at hSw); go_simp; (try with_reducible rfl))
  (try simp only [Act.put, List.setIfInBounds_toArray, List.set_cons_zero, List.set_cons_succ])
  refine wpAnyH_take (i := 6) (oi := { dst := some 10, op := Go.Op.nilCheck (Go.Operand.tmp 9), type := 0, pos := "wait.go:87", after := #[{ on := 5, ground := Go.Ground.data }], guard := none }) (v := ?vr6) rfl (by kernel_rfl) (by kernel_rfl) (by kernel_rfl) (fun _ _ _ h => h) (Or.inl ⟨by rfl, ?yr6⟩) (by assumption) ?rr6
  case yr6 => (intro w hSw; (try dsimp only at hSw); go_simp; (try with_reducible rfl))
  (try simp only [Act.put, List.setIfInBounds_toArray, List.set_cons_zero, List.set_cons_succ])
  refine wpAnyH_take (i := 7) (oi := { dst := some 11, op := Go.Op.fieldAddr 69 (Go.Operand.tmp 10) 0, type := 0, pos := "wait.go:87", after := #[{ on := 6, ground := Go.Ground.data }], guard := none }) (v := ?vr7) rfl (by kernel_rfl) (by kernel_rfl) (by kernel_rfl) (fun _ _ _ h => h) (Or.inl ⟨by rfl, ?yr7⟩) (by assumption) ?rr7
  case yr7 => (intro w hSw; (try dsimp only at hSw); go_simp; (try with_reducible rfl))
  (try simp only [Act.put, List.setIfInBounds_toArray, List.set_cons_zero, List.set_cons_succ])
  refine wpAnyH_take (i := 8) (oi := { dst := some 12, op := Go.Op.fieldAddr 34 (Go.Operand.tmp 11) 5, type := 0, pos := "wait.go:87", after := #[{ on := 7, ground := Go.Ground.data }], guard := none }) (v := ?vr8) rfl (by kernel_rfl) (by kernel_rfl) (by kernel_rfl) (fun _ _ _ h => h) (Or.inl ⟨by rfl, ?yr8⟩) (by assumption) ?rr8
  case yr8 => (intro w hSw; (try dsimp only at hSw); go_simp; (try with_reducible rfl))
  (try simp only [Act.put, List.setIfInBounds_toArray, List.set_cons_zero, List.set_cons_succ])
  refine wpAnyH_take (i := 9) (oi := { dst := some 13, op := Go.Op.load 32 (Go.Operand.tmp 12), type := 32, pos := "wait.go:87", after := #[{ on := 8, ground := Go.Ground.data }], guard := none }) (v := ?vr9) rfl (by kernel_rfl) (by kernel_rfl) (by kernel_rfl) (fun _ _ _ h => h) (Or.inl ⟨by rfl, ?yr9⟩) (by assumption) ?rr9
  case yr9 => (intro w hSw; (try dsimp only at hSw); go_simp; (try with_reducible rfl))
  (try simp only [Act.put, List.setIfInBounds_toArray, List.set_cons_zero, List.set_cons_succ])
  refine wpAnyH_take (i := 10) (oi := { dst := some 14, op := Go.Op.move (Go.Operand.tmp 0), type := 74, pos := "wait.go:87", after := #[], guard := none }) (v := ?vr10) rfl (by kernel_rfl) (by kernel_rfl) (by kernel_rfl) (fun _ _ _ h => h) (Or.inl ⟨by rfl, ?yr10⟩) (by assumption) ?rr10
  case yr10 => (intro w hSw; (try dsimp only at hSw); go_simp; (try with_reducible rfl))
  (try simp only [Act.put, List.setIfInBounds_toArray, List.set_cons_zero, List.set_cons_succ])
  refine wpAnyH_take (i := 11) (oi := { dst := some 15, op := Go.Op.nilCheck (Go.Operand.tmp 14), type := 0, pos := "wait.go:87", after := #[{ on := 10, ground := Go.Ground.data }], guard := none }) (v := ?vr11) rfl (by kernel_rfl) (by kernel_rfl) (by kernel_rfl) (fun _ _ _ h => h) (Or.inl ⟨by rfl, ?yr11⟩) (by assumption) ?rr11
  case yr11 => (intro w hSw; (try dsimp only at hSw); go_simp; (try with_reducible rfl))
  (try simp only [Act.put, List.setIfInBounds_toArray, List.set_cons_zero, List.set_cons_succ])
  refine wpAnyH_take (i := 12) (oi := { dst := some 16, op := Go.Op.fieldAddr 69 (Go.Operand.tmp 15) 0, type := 0, pos := "wait.go:87", after := #[{ on := 11, ground := Go.Ground.data }], guard := none }) (v := ?vr12) rfl (by kernel_rfl) (by kernel_rfl) (by kernel_rfl) (fun _ _ _ h => h) (Or.inl ⟨by rfl, ?yr12⟩) (by assumption) ?rr12
  case yr12 => (intro w hSw; (try dsimp only at hSw); go_simp; (try with_reducible rfl))
  (try simp only [Act.put, List.setIfInBounds_toArray, List.set_cons_zero, List.set_cons_succ])
  refine wpAnyH_take (i := 13) (oi := { dst := some 17, op := Go.Op.fieldAddr 34 (Go.Operand.tmp 16) 5, type := 0, pos := "wait.go:87", after := #[{ on := 12, ground := Go.Ground.data }], guard := none }) (v := ?vr13) rfl (by kernel_rfl) (by kernel_rfl) (by kernel_rfl) (fun _ _ _ h => h) (Or.inl ⟨by rfl, ?yr13⟩) (by assumption) ?rr13
  case yr13 => (intro w hSw; (try dsimp only at hSw); go_simp; (try with_reducible rfl))
  (try simp only [Act.put, List.setIfInBounds_toArray, List.set_cons_zero, List.set_cons_succ])
  refine wpAnyH_take (i := 14) (oi := { dst := some 18, op := Go.Op.load 32 (Go.Operand.tmp 17), type := 32, pos := "wait.go:87", after := #[{ on := 13, ground := Go.Ground.data }], guard := none }) (v := ?vr14) rfl (by kernel_rfl) (by kernel_rfl) (by kernel_rfl) (fun _ _ _ h => h) (Or.inl ⟨by rfl, ?yr14⟩) (by assumption) ?rr14
  case yr14 => (intro w hSw; (try dsimp only at hSw); go_simp; (try with_reducible rfl))
  (try simp only [Act.put, List.setIfInBounds_toArray, List.set_cons_zero, List.set_cons_succ])
  refine wpAnyH_take (i := 15) (oi := { dst := some 19, op := Go.Op.move (Go.Operand.tmp 0), type := 74, pos := "wait.go:87", after := #[], guard := none }) (v := ?vr15) rfl (by kernel_rfl) (by kernel_rfl) (by kernel_rfl) (fun _ _ _ h => h) (Or.inl ⟨by rfl, ?yr15⟩) (by assumption) ?rr15
  case yr15 => (intro w hSw; (try dsimp only at hSw); go_simp; (try with_reducible rfl))
  (try simp only [Act.put, List.setIfInBounds_toArray, List.set_cons_zero, List.set_cons_succ])
  refine wpAnyH_take (i := 16) (oi := { dst := some 20, op := Go.Op.nilCheck (Go.Operand.tmp 19), type := 0, pos := "wait.go:87", after := #[{ on := 15, ground := Go.Ground.data }], guard := none }) (v := ?vr16) rfl (by kernel_rfl) (by kernel_rfl) (by kernel_rfl) (fun _ _ _ h => h) (Or.inl ⟨by rfl, ?yr16⟩) (by assumption) ?rr16
  case yr16 => (intro w hSw; (try dsimp only at hSw); go_simp; (try with_reducible rfl))
  (try simp only [Act.put, List.setIfInBounds_toArray, List.set_cons_zero, List.set_cons_succ])
  refine wpAnyH_take (i := 17) (oi := { dst := some 21, op := Go.Op.fieldAddr 69 (Go.Operand.tmp 20) 0, type := 0, pos := "wait.go:87", after := #[{ on := 16, ground := Go.Ground.data }], guard := none }) (v := ?vr17) rfl (by kernel_rfl) (by kernel_rfl) (by kernel_rfl) (fun _ _ _ h => h) (Or.inl ⟨by rfl, ?yr17⟩) (by assumption) ?rr17
  case yr17 => (intro w hSw; (try dsimp only at hSw); go_simp; (try with_reducible rfl))
  (try simp only [Act.put, List.setIfInBounds_toArray, List.set_cons_zero, List.set_cons_succ])
  refine wpAnyH_take (i := 18) (oi := { dst := some 22, op := Go.Op.fieldAddr 34 (Go.Operand.tmp 21) 2, type := 0, pos := "wait.go:87", after := #[{ on := 17, ground := Go.Ground.data }], guard := none }) (v := ?vr18) rfl (by kernel_rfl) (by kernel_rfl) (by kernel_rfl) (fun _ _ _ h => h) (Or.inl ⟨by rfl, ?yr18⟩) (by assumption) ?rr18
  case yr18 => (intro w hSw; (try dsimp only at hSw); go_simp; (try with_reducible rfl))
  (try simp only [Act.put, List.setIfInBounds_toArray, List.set_cons_zero, List.set_cons_succ])
  refine wpAnyH_take (i := 19) (oi := { dst := some 23, op := Go.Op.load 3 (Go.Operand.tmp 22), type := 3, pos := "wait.go:87", after := #[{ on := 18, ground := Go.Ground.data }], guard := none }) (v := ?vr19) rfl (by kernel_rfl) (by kernel_rfl) (by kernel_rfl) (fun _ _ _ h => h) (Or.inl ⟨by rfl, ?yr19⟩) (by assumption) ?rr19
  case yr19 => (intro w hSw; (try dsimp only at hSw); go_simp; (try with_reducible rfl))
  (try simp only [Act.put, List.setIfInBounds_toArray, List.set_cons_zero, List.set_cons_succ])
  refine wpAnyH_ready (rs := [4, 20]) (by kernel_rfl) (by simp) ?_
  refine (AllReadyH.cons (o := { dst := some 8, op := Go.Op.load 27 (Go.Operand.tmp 7), type := 27, pos := "wait.go:87", after := #[{ on := 3, ground := Go.Ground.data }], guard := none }) rfl (fun K hK => ?_) (AllReadyH.cons (o := { dst := some 24, op := Go.Op.call { callee := Go.Callee.value (Go.Operand.func 47), args := #[Go.Operand.tmp 18, Go.Operand.tmp 23], argTypes := #[32, 3] }, type := 32, pos := "wait.go:87", after := #[{ on := 14, ground := Go.Ground.data }, { on := 19, ground := Go.Ground.data }], guard := none }) rfl (fun K hK => ?_) AllReadyH.nil))
  · go_simp
    refine hK.out _ _ (hHeld) (fun hHeld2 => ?_)
    clear hK K hHeld
    have hHeld := hHeld2
    clear hHeld2
    (try simp only [Act.put, List.setIfInBounds_toArray, List.set_cons_zero, List.set_cons_succ])
    refine wpAnyH_ready (rs := [20]) (by kernel_rfl) (by simp) ?_
    refine (AllReadyH.cons (o := { dst := some 24, op := Go.Op.call { callee := Go.Callee.value (Go.Operand.func 47), args := #[Go.Operand.tmp 18, Go.Operand.tmp 23], argTypes := #[32, 3] }, type := 32, pos := "wait.go:87", after := #[{ on := 14, ground := Go.Ground.data }, { on := 19, ground := Go.Ground.data }], guard := none }) rfl (fun K hK => ?_) AllReadyH.nil)
    go_simp
    refine ((set_any y q _ HY.out).tells).mono ?_
    rintro e w1 ⟨rfl, hb⟩
    go_wp2_with fail
    replace ZC := Lib.hid (keep_call (w2 := w) hb ZC.out)
    have e := HB.out.after ZC.out; obtain ⟨b0, b1, b2, b3, b4, b5, b6, b7, b8, b9, b10, b11⟩ := e.cells; have fz := e.free; clear e
    refine hK.out _ _ (kx_call HK.out (fun _ h => h.2.2) hg hb hHeld) (fun hHeld2 => ?_)
    clear hK K hHeld
    have hHeld := hHeld2
    clear hHeld2
    (try simp only [Act.put, List.setIfInBounds_toArray, List.set_cons_zero, List.set_cons_succ])
    refine wpAnyH_ready (rs := [21]) (by kernel_rfl) (by simp) ?_
    refine (AllReadyH.cons (o := { dst := some 25, op := Go.Op.call { callee := Go.Callee.value (Go.Operand.func 68), args := #[Go.Operand.tmp 8, Go.Operand.const (Go.Value.int Go.IntKind.i64 2), Go.Operand.tmp 13, Go.Operand.tmp 24], argTypes := #[27, 3, 32, 32] }, type := 99, pos := "wait.go:87", after := #[{ on := 4, ground := Go.Ground.data }, { on := 9, ground := Go.Ground.data }, { on := 20, ground := Go.Ground.data }, { on := 20, ground := Go.Ground.chain }], guard := none }) rfl (fun K hK => ?_) AllReadyH.nil)
    go_simp
    refine (casn_n (v := st y q) (HA.out.after ZC.out).rd rfl HS.out HIB.out HT.out).mono ?_
    rintro e w2 ⟨k, rfl, hk0, hk, hb⟩
    go_wp2_with fail
    have HLO := Lib.hid (Nat.le_trans hlo (Nat.le_trans ZC.out.size hk0))
    have HKK := Lib.hid hk
    replace ZC := Lib.hid (keep_call (w2 := w) hb ZC.out)
    have e := HB.out.after ZC.out; obtain ⟨b0, b1, b2, b3, b4, b5, b6, b7, b8, b9, b10, b11⟩ := e.cells; have fz := e.free; clear e
    clear hk hk0
    refine hK.out _ _ (kx_call HK.out (fun _ h => h.2.2) hg hb hHeld) (fun hHeld2 => ?_)
    clear hK K hHeld
    have hHeld := hHeld2
    clear hHeld2
    (try simp only [Act.put, List.setIfInBounds_toArray, List.set_cons_zero, List.set_cons_succ])
    refine wpAnyH_take (i := 22) (oi := { dst := some 3, op := Go.Op.move (Go.Operand.tmp 25), type := 99, pos := "wait.go:87", after := #[{ on := 21, ground := Go.Ground.data }], guard := none }) (v := ?vr20) rfl (by kernel_rfl) (by kernel_rfl) (by kernel_rfl) (fun _ _ _ h => h) (Or.inl ⟨by rfl, ?yr20⟩) (by assumption) ?rr20
    case yr20 => (intro w hSw; (try dsimp only at hSw); go_simp; (try with_reducible rfl))
    (try simp only [Act.put, List.setIfInBounds_toArray, List.set_cons_zero, List.set_cons_succ])
    refine wpAnyH_take (i := 23) (oi := { dst := some 26, op := Go.Op.extract (Go.Operand.tmp 3) 0, type := 27, pos := "wait.go:87", after := #[{ on := 22, ground := Go.Ground.data }], guard := none }) (v := ?vr21) rfl (by kernel_rfl) (by kernel_rfl) (by kernel_rfl) (fun _ _ _ h => h) (Or.inl ⟨by rfl, ?yr21⟩) (by assumption) ?rr21
    case yr21 => (intro w hSw; (try dsimp only at hSw); go_simp; (try with_reducible rfl))
    (try simp only [Act.put, List.setIfInBounds_toArray, List.set_cons_zero, List.set_cons_succ])
    refine wpAnyH_take (i := 24) (oi := { dst := some 27, op := Go.Op.extract (Go.Operand.tmp 3) 1, type := 4, pos := "wait.go:87", after := #[{ on := 22, ground := Go.Ground.data }, { on := 27, ground := Go.Ground.gcOnly Go.Departure.lateStores }], guard := none }) (v := ?vr22) rfl (by kernel_rfl) (by kernel_rfl) (by kernel_rfl) (fun _ _ _ h => h) (Or.inl ⟨by rfl, ?yr22⟩) (by assumption) ?rr22
    case yr22 => (intro w hSw; (try dsimp only at hSw); go_simp; (try with_reducible rfl))
    (try simp only [Act.put, List.setIfInBounds_toArray, List.set_cons_zero, List.set_cons_succ])
    refine wpAnyH_take (i := 25) (oi := { dst := some 28, op := Go.Op.nilCheck (Go.Operand.tmp 4), type := 0, pos := "wait.go:87", after := #[{ on := 0, ground := Go.Ground.data }, { on := 0, ground := Go.Ground.phase }, { on := 1, ground := Go.Ground.phase }, { on := 2, ground := Go.Ground.phase }, { on := 3, ground := Go.Ground.phase }, { on := 4, ground := Go.Ground.phase }, { on := 5, ground := Go.Ground.phase }, { on := 6, ground := Go.Ground.phase }, { on := 7, ground := Go.Ground.phase }, { on := 8, ground := Go.Ground.phase }, { on := 9, ground := Go.Ground.phase }, { on := 10, ground := Go.Ground.phase }, { on := 11, ground := Go.Ground.phase }, { on := 12, ground := Go.Ground.phase }, { on := 13, ground := Go.Ground.phase }, { on := 14, ground := Go.Ground.phase }, { on := 15, ground := Go.Ground.phase }, { on := 16, ground := Go.Ground.phase }, { on := 17, ground := Go.Ground.phase }, { on := 18, ground := Go.Ground.phase }, { on := 19, ground := Go.Ground.phase }, { on := 20, ground := Go.Ground.phase }, { on := 21, ground := Go.Ground.phase }, { on := 22, ground := Go.Ground.phase }, { on := 23, ground := Go.Ground.phase }, { on := 24, ground := Go.Ground.textOnly Go.Departure.lateStores }], guard := none }) (v := ?vr23) rfl (by kernel_rfl) (by kernel_rfl) (by kernel_rfl) (fun _ _ _ h => h) (Or.inl ⟨by rfl, ?yr23⟩) (by assumption) ?rr23
    case yr23 => (intro w hSw; (try dsimp only at hSw); go_simp; (try with_reducible rfl))
    (try simp only [Act.put, List.setIfInBounds_toArray, List.set_cons_zero, List.set_cons_succ])
    refine wpAnyH_take (i := 26) (oi := { dst := some 29, op := Go.Op.fieldAddr 69 (Go.Operand.tmp 28) 2, type := 0, pos := "wait.go:87", after := #[{ on := 25, ground := Go.Ground.data }, { on := 0, ground := Go.Ground.phase }, { on := 1, ground := Go.Ground.phase }, { on := 2, ground := Go.Ground.phase }, { on := 3, ground := Go.Ground.phase }, { on := 4, ground := Go.Ground.phase }, { on := 5, ground := Go.Ground.phase }, { on := 6, ground := Go.Ground.phase }, { on := 7, ground := Go.Ground.phase }, { on := 8, ground := Go.Ground.phase }, { on := 9, ground := Go.Ground.phase }, { on := 10, ground := Go.Ground.phase }, { on := 11, ground := Go.Ground.phase }, { on := 12, ground := Go.Ground.phase }, { on := 13, ground := Go.Ground.phase }, { on := 14, ground := Go.Ground.phase }, { on := 15, ground := Go.Ground.phase }, { on := 16, ground := Go.Ground.phase }, { on := 17, ground := Go.Ground.phase }, { on := 18, ground := Go.Ground.phase }, { on := 19, ground := Go.Ground.phase }, { on := 20, ground := Go.Ground.phase }, { on := 21, ground := Go.Ground.phase }, { on := 22, ground := Go.Ground.phase }, { on := 23, ground := Go.Ground.phase }, { on := 24, ground := Go.Ground.textOnly Go.Departure.lateStores }], guard := none }) (v := ?vr24) rfl (by kernel_rfl) (by kernel_rfl) (by kernel_rfl) (fun _ _ _ h => h) (Or.inl ⟨by rfl, ?yr24⟩) (by assumption) ?rr24
    case yr24 => (intro w hSw; (try dsimp only at hSw); go_simp; (try with_reducible rfl))
    (try simp only [Act.put, List.setIfInBounds_toArray, List.set_cons_zero, List.set_cons_succ])
    refine wpAnyH_ready (rs := [27]) (by kernel_rfl) (by simp) ?_
    refine (AllReadyH.cons (o := { dst := none, op := Go.Op.store 27 (Go.Operand.tmp 29) (Go.Operand.tmp 26), type := 0, pos := "wait.go:87", after := #[{ on := 26, ground := Go.Ground.data }, { on := 23, ground := Go.Ground.data }, { on := 21, ground := Go.Ground.chain }, { on := 0, ground := Go.Ground.phase }, { on := 1, ground := Go.Ground.phase }, { on := 2, ground := Go.Ground.phase }, { on := 3, ground := Go.Ground.phase }, { on := 4, ground := Go.Ground.phase }, { on := 5, ground := Go.Ground.phase }, { on := 6, ground := Go.Ground.phase }, { on := 7, ground := Go.Ground.phase }, { on := 8, ground := Go.Ground.phase }, { on := 9, ground := Go.Ground.phase }, { on := 10, ground := Go.Ground.phase }, { on := 11, ground := Go.Ground.phase }, { on := 12, ground := Go.Ground.phase }, { on := 13, ground := Go.Ground.phase }, { on := 14, ground := Go.Ground.phase }, { on := 15, ground := Go.Ground.phase }, { on := 16, ground := Go.Ground.phase }, { on := 17, ground := Go.Ground.phase }, { on := 18, ground := Go.Ground.phase }, { on := 19, ground := Go.Ground.phase }, { on := 20, ground := Go.Ground.phase }, { on := 21, ground := Go.Ground.phase }, { on := 22, ground := Go.Ground.phase }, { on := 23, ground := Go.Ground.phase }, { on := 24, ground := Go.Ground.textOnly Go.Departure.lateStores }], guard := none }) rfl (fun K hK => ?_) AllReadyH.nil)
    go_simp
    refine hK.out _ _ (kx_set HK.out (fun _ h => h.2.2) _ hHeld) (fun hHeld2 => ?_)
    clear hK K hHeld
    have hHeld := hHeld2
    clear hHeld2
    (try simp only [Act.put, List.setIfInBounds_toArray, List.set_cons_zero, List.set_cons_succ])
    refine wpAnyH_take (i := 28) (oi := { dst := some 2, op := Go.Op.assign (Go.Operand.tmp 27), type := 4, pos := "wait.go:87", after := #[{ on := 24, ground := Go.Ground.data }, { on := 27, ground := Go.Ground.chain }, { on := 0, ground := Go.Ground.phase }, { on := 1, ground := Go.Ground.phase }, { on := 2, ground := Go.Ground.phase }, { on := 3, ground := Go.Ground.phase }, { on := 4, ground := Go.Ground.phase }, { on := 5, ground := Go.Ground.phase }, { on := 6, ground := Go.Ground.phase }, { on := 7, ground := Go.Ground.phase }, { on := 8, ground := Go.Ground.phase }, { on := 9, ground := Go.Ground.phase }, { on := 10, ground := Go.Ground.phase }, { on := 11, ground := Go.Ground.phase }, { on := 12, ground := Go.Ground.phase }, { on := 13, ground := Go.Ground.phase }, { on := 14, ground := Go.Ground.phase }, { on := 15, ground := Go.Ground.phase }, { on := 16, ground := Go.Ground.phase }, { on := 17, ground := Go.Ground.phase }, { on := 18, ground := Go.Ground.phase }, { on := 19, ground := Go.Ground.phase }, { on := 20, ground := Go.Ground.phase }, { on := 21, ground := Go.Ground.phase }, { on := 22, ground := Go.Ground.phase }, { on := 23, ground := Go.Ground.phase }, { on := 24, ground := Go.Ground.phase }, { on := 25, ground := Go.Ground.phase }, { on := 26, ground := Go.Ground.phase }, { on := 27, ground := Go.Ground.phase }], guard := none }) (v := ?vr25) rfl (by kernel_rfl) (by kernel_rfl) (by kernel_rfl) (fun _ _ _ h => h) (Or.inl ⟨by rfl, ?yr25⟩) (by assumption) ?rr25
    case yr25 => (intro w hSw; (try dsimp only at hSw); go_simp; (try with_reducible rfl))
    (try simp only [Act.put, List.setIfInBounds_toArray, List.set_cons_zero, List.set_cons_succ])
    refine wpAnyH_done (by kernel_rfl) ?_ _
    clear hHeld
    have e := HB.out.after ZC.out
    have e2 : Bw (w2.setCell ⟨g, 11, none⟩ (.slice (some ⟨k, 0, none⟩) l.length l.length)) g ⟨o, p, q, v, x, y, s⟩ W D J S (.slice (some ⟨k, 0, none⟩) T.length l.length) := by rw [HTL.out]; exact e.setM _
    have eA : Rx lo g (w2.setCell ⟨g, 11, none⟩ (.slice (some ⟨k, 0, none⟩) l.length l.length)) (some ⟨k, 0, none⟩) T := (HKK.out.rx (HKK.out.ne_wt e) HLO.out).set rfl _
    have eb : Below g w (w2.setCell ⟨g, 11, none⟩ (.slice (some ⟨k, 0, none⟩) l.length l.length)) := (ZC.out.mono (Nat.le_of_lt hg)).setCell (Nat.le_refl _) _
    generalize w2.setCell ⟨g, 11, none⟩ (.slice (some ⟨k, 0, none⟩) l.length l.length) = w4 at e2 eA eb ⊢
    clear e ZC HKK HLO a0 a1 a2 a3 a4 a5 a6 a7 a8 a9 a10 a11 b0 b1 b2 b3 b4 b5 b6 b7 b8 b9 b10 b11 fz HB HA
    obtain ⟨c0, c1, c2, c3, c4, c5, c6, c7, c8, c9, c10, c11⟩ := e2.cells
    have fz := e2.free
    have E := Lib.hid e2
    have EA := Lib.hid eA
    have EB := Lib.hid eb
    clear e2 eA eb
    cases b
    · obtain rfl : F = ⟨o, 1, q, v, x, y, s⟩ := HF.out
      go_wp2
      refine bodyPost_ret (by simp [results, Try.results59, go_sem]; try rfl) rfl ?_
      exact ⟨_, _, rfl, E.out.setPc _, EA.out.set rfl _, EB.out.setCell (Nat.le_refl _) _⟩
    · obtain rfl : F = ⟨o, 3, q, v, x, y, s⟩ := HF.out
      go_wp2
      refine bodyPost_ret (by simp [results, Try.results59, go_sem]; try rfl) rfl ?_
      exact ⟨_, _, rfl, (E.out.setPc _).setPc _, (EA.out.set rfl _).set rfl _, (EB.out.setCell (Nat.le_refl _) _).setCell (Nat.le_refl _) _⟩
  · go_simp
    refine ((set_any y q _ HY.out).tells).mono ?_
    rintro e w1 ⟨rfl, hb⟩
    go_wp2_with fail
    replace ZC := Lib.hid (keep_call (w2 := w) hb ZC.out)
    have e := HB.out.after ZC.out; obtain ⟨b0, b1, b2, b3, b4, b5, b6, b7, b8, b9, b10, b11⟩ := e.cells; have fz := e.free; clear e
    refine hK.out _ _ (kx_call HK.out (fun _ h => h.2.2) hg hb hHeld) (fun hHeld2 => ?_)
    clear hK K hHeld
    have hHeld := hHeld2
    clear hHeld2
    (try simp only [Act.put, List.setIfInBounds_toArray, List.set_cons_zero, List.set_cons_succ])
    refine wpAnyH_ready (rs := [4]) (by kernel_rfl) (by simp) ?_
    refine (AllReadyH.cons (o := { dst := some 8, op := Go.Op.load 27 (Go.Operand.tmp 7), type := 27, pos := "wait.go:87", after := #[{ on := 3, ground := Go.Ground.data }], guard := none }) rfl (fun K hK => ?_) AllReadyH.nil)
    go_simp
    refine hK.out _ _ (hHeld) (fun hHeld2 => ?_)
    clear hK K hHeld
    have hHeld := hHeld2
    clear hHeld2
    (try simp only [Act.put, List.setIfInBounds_toArray, List.set_cons_zero, List.set_cons_succ])
    refine wpAnyH_ready (rs := [21]) (by kernel_rfl) (by simp) ?_
    refine (AllReadyH.cons (o := { dst := some 25, op := Go.Op.call { callee := Go.Callee.value (Go.Operand.func 68), args := #[Go.Operand.tmp 8, Go.Operand.const (Go.Value.int Go.IntKind.i64 2), Go.Operand.tmp 13, Go.Operand.tmp 24], argTypes := #[27, 3, 32, 32] }, type := 99, pos := "wait.go:87", after := #[{ on := 4, ground := Go.Ground.data }, { on := 9, ground := Go.Ground.data }, { on := 20, ground := Go.Ground.data }, { on := 20, ground := Go.Ground.chain }], guard := none }) rfl (fun K hK => ?_) AllReadyH.nil)
    go_simp
    refine (casn_n (v := st y q) (HA.out.after ZC.out).rd rfl HS.out HIB.out HT.out).mono ?_
    rintro e w2 ⟨k, rfl, hk0, hk, hb⟩
    go_wp2_with fail
    have HLO := Lib.hid (Nat.le_trans hlo (Nat.le_trans ZC.out.size hk0))
    have HKK := Lib.hid hk
    replace ZC := Lib.hid (keep_call (w2 := w) hb ZC.out)
    have e := HB.out.after ZC.out; obtain ⟨b0, b1, b2, b3, b4, b5, b6, b7, b8, b9, b10, b11⟩ := e.cells; have fz := e.free; clear e
    clear hk hk0
    refine hK.out _ _ (kx_call HK.out (fun _ h => h.2.2) hg hb hHeld) (fun hHeld2 => ?_)
    clear hK K hHeld
    have hHeld := hHeld2
    clear hHeld2
    (try simp only [Act.put, List.setIfInBounds_toArray, List.set_cons_zero, List.set_cons_succ])
    refine wpAnyH_take (i := 22) (oi := { dst := some 3, op := Go.Op.move (Go.Operand.tmp 25), type := 99, pos := "wait.go:87", after := #[{ on := 21, ground := Go.Ground.data }], guard := none }) (v := ?vr26) rfl (by kernel_rfl) (by kernel_rfl) (by kernel_rfl) (fun _ _ _ h => h) (Or.inl ⟨by rfl, ?yr26⟩) (by assumption) ?rr26
    case yr26 => (intro w hSw; (try dsimp only at hSw); go_simp; (try with_reducible rfl))
    (try simp only [Act.put, List.setIfInBounds_toArray, List.set_cons_zero, List.set_cons_succ])
    refine wpAnyH_take (i := 23) (oi := { dst := some 26, op := Go.Op.extract (Go.Operand.tmp 3) 0, type := 27, pos := "wait.go:87", after := #[{ on := 22, ground := Go.Ground.data }], guard := none }) (v := ?vr27) rfl (by kernel_rfl) (by kernel_rfl) (by kernel_rfl) (fun _ _ _ h => h) (Or.inl ⟨by rfl, ?yr27⟩) (by assumption) ?rr27
    case yr27 => (intro w hSw; (try dsimp only at hSw); go_simp; (try with_reducible rfl))
    (try simp only [Act.put, List.setIfInBounds_toArray, List.set_cons_zero, List.set_cons_succ])
    refine wpAnyH_take (i := 24) (oi := { dst := some 27, op := Go.Op.extract (Go.Operand.tmp 3) 1, type := 4, pos := "wait.go:87", after := #[{ on := 22, ground := Go.Ground.data }, { on := 27, ground := Go.Ground.gcOnly Go.Departure.lateStores }], guard := none }) (v := ?vr28) rfl (by kernel_rfl) (by kernel_rfl) (by kernel_rfl) (fun _ _ _ h => h) (Or.inl ⟨by rfl, ?yr28⟩) (by assumption) ?rr28
    case yr28 => (intro w hSw; (try dsimp only at hSw); go_simp; (try with_reducible rfl))
    (try simp only [Act.put, List.setIfInBounds_toArray, List.set_cons_zero, List.set_cons_succ])
    refine wpAnyH_take (i := 25) (oi := { dst := some 28, op := Go.Op.nilCheck (Go.Operand.tmp 4), type := 0, pos := "wait.go:87", after := #[{ on := 0, ground := Go.Ground.data }, { on := 0, ground := Go.Ground.phase }, { on := 1, ground := Go.Ground.phase }, { on := 2, ground := Go.Ground.phase }, { on := 3, ground := Go.Ground.phase }, { on := 4, ground := Go.Ground.phase }, { on := 5, ground := Go.Ground.phase }, { on := 6, ground := Go.Ground.phase }, { on := 7, ground := Go.Ground.phase }, { on := 8, ground := Go.Ground.phase }, { on := 9, ground := Go.Ground.phase }, { on := 10, ground := Go.Ground.phase }, { on := 11, ground := Go.Ground.phase }, { on := 12, ground := Go.Ground.phase }, { on := 13, ground := Go.Ground.phase }, { on := 14, ground := Go.Ground.phase }, { on := 15, ground := Go.Ground.phase }, { on := 16, ground := Go.Ground.phase }, { on := 17, ground := Go.Ground.phase }, { on := 18, ground := Go.Ground.phase }, { on := 19, ground := Go.Ground.phase }, { on := 20, ground := Go.Ground.phase }, { on := 21, ground := Go.Ground.phase }, { on := 22, ground := Go.Ground.phase }, { on := 23, ground := Go.Ground.phase }, { on := 24, ground := Go.Ground.textOnly Go.Departure.lateStores }], guard := none }) (v := ?vr29) rfl (by kernel_rfl) (by kernel_rfl) (by kernel_rfl) (fun _ _ _ h => h) (Or.inl ⟨by rfl, ?yr29⟩) (by assumption) ?rr29
    case yr29 => (intro w hSw; (try dsimp only at hSw); go_simp; (try with_reducible rfl))
    (try simp only [Act.put, List.setIfInBounds_toArray, List.set_cons_zero, List.set_cons_succ])
    refine wpAnyH_take (i := 26) (oi := { dst := some 29, op := Go.Op.fieldAddr 69 (Go.Operand.tmp 28) 2, type := 0, pos := "wait.go:87", after := #[{ on := 25, ground := Go.Ground.data }, { on := 0, ground := Go.Ground.phase }, { on := 1, ground := Go.Ground.phase }, { on := 2, ground := Go.Ground.phase }, { on := 3, ground := Go.Ground.phase }, { on := 4, ground := Go.Ground.phase }, { on := 5, ground := Go.Ground.phase }, { on := 6, ground := Go.Ground.phase }, { on := 7, ground := Go.Ground.phase }, { on := 8, ground := Go.Ground.phase }, { on := 9, ground := Go.Ground.phase }, { on := 10, ground := Go.Ground.phase }, { on := 11, ground := Go.Ground.phase }, { on := 12, ground := Go.Ground.phase }, { on := 13, ground := Go.Ground.phase }, { on := 14, ground := Go.Ground.phase }, { on := 15, ground := Go.Ground.phase }, { on := 16, ground := Go.Ground.phase }, { on := 17, ground := Go.Ground.phase }, { on := 18, ground := Go.Ground.phase }, { on := 19, ground := Go.Ground.phase }, { on := 20, ground := Go.Ground.phase }, { on := 21, ground := Go.Ground.phase }, { on := 22, ground := Go.Ground.phase }, { on := 23, ground := Go.Ground.phase }, { on := 24, ground := Go.Ground.textOnly Go.Departure.lateStores }], guard := none }) (v := ?vr30) rfl (by kernel_rfl) (by kernel_rfl) (by kernel_rfl) (fun _ _ _ h => h) (Or.inl ⟨by rfl, ?yr30⟩) (by assumption) ?rr30
    case yr30 => (intro w hSw; (try dsimp only at hSw); go_simp; (try with_reducible rfl))
    (try simp only [Act.put, List.setIfInBounds_toArray, List.set_cons_zero, List.set_cons_succ])
    refine wpAnyH_ready (rs := [27]) (by kernel_rfl) (by simp) ?_
    refine (AllReadyH.cons (o := { dst := none, op := Go.Op.store 27 (Go.Operand.tmp 29) (Go.Operand.tmp 26), type := 0, pos := "wait.go:87", after := #[{ on := 26, ground := Go.Ground.data }, { on := 23, ground := Go.Ground.data }, { on := 21, ground := Go.Ground.chain }, { on := 0, ground := Go.Ground.phase }, { on := 1, ground := Go.Ground.phase }, { on := 2, ground := Go.Ground.phase }, { on := 3, ground := Go.Ground.phase }, { on := 4, ground := Go.Ground.phase }, { on := 5, ground := Go.Ground.phase }, { on := 6, ground := Go.Ground.phase }, { on := 7, ground := Go.Ground.phase }, { on := 8, ground := Go.Ground.phase }, { on := 9, ground := Go.Ground.phase }, { on := 10, ground := Go.Ground.phase }, { on := 11, ground := Go.Ground.phase }, { on := 12, ground := Go.Ground.phase }, { on := 13, ground := Go.Ground.phase }, { on := 14, ground := Go.Ground.phase }, { on := 15, ground := Go.Ground.phase }, { on := 16, ground := Go.Ground.phase }, { on := 17, ground := Go.Ground.phase }, { on := 18, ground := Go.Ground.phase }, { on := 19, ground := Go.Ground.phase }, { on := 20, ground := Go.Ground.phase }, { on := 21, ground := Go.Ground.phase }, { on := 22, ground := Go.Ground.phase }, { on := 23, ground := Go.Ground.phase }, { on := 24, ground := Go.Ground.textOnly Go.Departure.lateStores }], guard := none }) rfl (fun K hK => ?_) AllReadyH.nil)
    go_simp
    refine hK.out _ _ (kx_set HK.out (fun _ h => h.2.2) _ hHeld) (fun hHeld2 => ?_)
    clear hK K hHeld
    have hHeld := hHeld2
    clear hHeld2
    (try simp only [Act.put, List.setIfInBounds_toArray, List.set_cons_zero, List.set_cons_succ])
    refine wpAnyH_take (i := 28) (oi := { dst := some 2, op := Go.Op.assign (Go.Operand.tmp 27), type := 4, pos := "wait.go:87", after := #[{ on := 24, ground := Go.Ground.data }, { on := 27, ground := Go.Ground.chain }, { on := 0, ground := Go.Ground.phase }, { on := 1, ground := Go.Ground.phase }, { on := 2, ground := Go.Ground.phase }, { on := 3, ground := Go.Ground.phase }, { on := 4, ground := Go.Ground.phase }, { on := 5, ground := Go.Ground.phase }, { on := 6, ground := Go.Ground.phase }, { on := 7, ground := Go.Ground.phase }, { on := 8, ground := Go.Ground.phase }, { on := 9, ground := Go.Ground.phase }, { on := 10, ground := Go.Ground.phase }, { on := 11, ground := Go.Ground.phase }, { on := 12, ground := Go.Ground.phase }, { on := 13, ground := Go.Ground.phase }, { on := 14, ground := Go.Ground.phase }, { on := 15, ground := Go.Ground.phase }, { on := 16, ground := Go.Ground.phase }, { on := 17, ground := Go.Ground.phase }, { on := 18, ground := Go.Ground.phase }, { on := 19, ground := Go.Ground.phase }, { on := 20, ground := Go.Ground.phase }, { on := 21, ground := Go.Ground.phase }, { on := 22, ground := Go.Ground.phase }, { on := 23, ground := Go.Ground.phase }, { on := 24, ground := Go.Ground.phase }, { on := 25, ground := Go.Ground.phase }, { on := 26, ground := Go.Ground.phase }, { on := 27, ground := Go.Ground.phase }], guard := none }) (v := ?vr31) rfl (by kernel_rfl) (by kernel_rfl) (by kernel_rfl) (fun _ _ _ h => h) (Or.inl ⟨by rfl, ?yr31⟩) (by assumption) ?rr31
    case yr31 => (intro w hSw; (try dsimp only at hSw); go_simp; (try with_reducible rfl))
    (try simp only [Act.put, List.setIfInBounds_toArray, List.set_cons_zero, List.set_cons_succ])
    refine wpAnyH_done (by kernel_rfl) ?_ _
    clear hHeld
    have e := HB.out.after ZC.out
    have e2 : Bw (w2.setCell ⟨g, 11, none⟩ (.slice (some ⟨k, 0, none⟩) l.length l.length)) g ⟨o, p, q, v, x, y, s⟩ W D J S (.slice (some ⟨k, 0, none⟩) T.length l.length) := by rw [HTL.out]; exact e.setM _
    have eA : Rx lo g (w2.setCell ⟨g, 11, none⟩ (.slice (some ⟨k, 0, none⟩) l.length l.length)) (some ⟨k, 0, none⟩) T := (HKK.out.rx (HKK.out.ne_wt e) HLO.out).set rfl _
    have eb : Below g w (w2.setCell ⟨g, 11, none⟩ (.slice (some ⟨k, 0, none⟩) l.length l.length)) := (ZC.out.mono (Nat.le_of_lt hg)).setCell (Nat.le_refl _) _
    generalize w2.setCell ⟨g, 11, none⟩ (.slice (some ⟨k, 0, none⟩) l.length l.length) = w4 at e2 eA eb ⊢
    clear e ZC HKK HLO a0 a1 a2 a3 a4 a5 a6 a7 a8 a9 a10 a11 b0 b1 b2 b3 b4 b5 b6 b7 b8 b9 b10 b11 fz HB HA
    obtain ⟨c0, c1, c2, c3, c4, c5, c6, c7, c8, c9, c10, c11⟩ := e2.cells
    have fz := e2.free
    have E := Lib.hid e2
    have EA := Lib.hid eA
    have EB := Lib.hid eb
    clear e2 eA eb
    cases b
    · obtain rfl : F = ⟨o, 1, q, v, x, y, s⟩ := HF.out
      go_wp2
      refine bodyPost_ret (by simp [results, Try.results59, go_sem]; try rfl) rfl ?_
      exact ⟨_, _, rfl, E.out.setPc _, EA.out.set rfl _, EB.out.setCell (Nat.le_refl _) _⟩
    · obtain rfl : F = ⟨o, 3, q, v, x, y, s⟩ := HF.out
      go_wp2
      refine bodyPost_ret (by simp [results, Try.results59, go_sem]; try rfl) rfl ?_
      exact ⟨_, _, rfl, (E.out.setPc _).setPc _, (EA.out.set rfl _).set rfl _, (EB.out.setCell (Nat.le_refl _) _).setCell (Nat.le_refl _) _⟩
set_option maxHeartbeats 4000000 in
set_option maxRecDepth 100000 in
theorem wpark_any (lo g : Nat) (f : Fr) (W D J S : Int) (Y : Int) (b : Bool) (F : Fr) (A : Option Addr) (c : Nat) (l : List Int) (w : World) (hB : Bw w g f W D J S (.slice A l.length c)) (hA : Rx lo g w A l) (hY : at0 l (ow W D J S f.who 2) = Y) (hb : (Y != 0) = b) (hF : F = if b then { f with y := Y, pc := 4 } else { f with y := Y }) (hs : l.length ≤ 500) :
    Calls Try.prog 60 #[.pointer (some ⟨g, 0, none⟩)] w (Lw lo w g F W D J S l) := by
  have HB := Lib.hid hB
  have HA := Lib.hid hA
  have HS := Lib.hid hs
  clear hB hA hs
  obtain ⟨o, p, q, v, x, y, s⟩ := f
  simp only at hY
  have HY := Lib.hid hY
  have HF := Lib.hid hF
  clear hY hF
  have e := HB.out
  obtain ⟨a0, a1, a2, a3, a4, a5, a6, a7, a8, a9, a10, a11⟩ := e.cells
  have fz := e.free
  have hg := e.lt
  have ZC := Lib.hid (Below.refl w.heap.size w).drew
  have HK := Lib.hid (show ∀ x', Kx g 5 w x' → (fun w' => w'.cell? ⟨g, 2, none⟩ = some (.int .i64 q) ∧ w'.cell? ⟨g, 7, none⟩ = some (.int .i64 W) ∧ w'.cell? ⟨g, 8, none⟩ = some (.int .i64 D) ∧ w'.cell? ⟨g, 9, none⟩ = some (.int .i64 J) ∧ w'.cell? ⟨g, 10, none⟩ = some (.int .i64 S) ∧ w'.cell? ⟨g, 11, none⟩ = some (.slice A l.length c) ∧ Kx g 5 w w') x' from fun x' hx =>
    ⟨(hx.cells 2 (by decide)).trans a2, (hx.cells 7 (by decide)).trans a7, (hx.cells 8 (by decide)).trans a8, (hx.cells 9 (by decide)).trans a9, (hx.cells 10 (by decide)).trans a10, (hx.cells 11 (by decide)).trans a11, hx⟩)
  have hHeld0 := HK.out _ (Kx.refl g 5 w)
  clear e
  cases b
  all_goals
    go_enter Try.func60, Try.ntmps60
    go_wp2_with fail
    go_region_held3 (fun w' => w'.cell? ⟨g, 2, none⟩ = some (.int .i64 q) ∧ w'.cell? ⟨g, 7, none⟩ = some (.int .i64 W) ∧ w'.cell? ⟨g, 8, none⟩ = some (.int .i64 D) ∧ w'.cell? ⟨g, 9, none⟩ = some (.int .i64 J) ∧ w'.cell? ⟨g, 10, none⟩ = some (.int .i64 S) ∧ w'.cell? ⟨g, 11, none⟩ = some (.slice A l.length c) ∧ Kx g 5 w w')
      (first | with_reducible exact kx_drew HK.out (fun _ h => h.2.2.2.2.2.2) (by assumption) | with_reducible exact kx_call HK.out (fun _ h => h.2.2.2.2.2.2) hg (by assumption) (by assumption) | with_reducible exact kx_set HK.out (fun _ h => h.2.2.2.2.2.2) _ (by assumption))
      (first
      | (go_at_call 14; (refine (park_any W D J S q _).mono ?_); rintro _ w1 ⟨rfl, hb⟩; replace ZC := Lib.hid (keep_call (w2 := w) hb ZC.out); have e := HB.out.after ZC.out; obtain ⟨b0, b1, b2, b3, b4, b5, b6, b7, b8, b9, b10, b11⟩ := e.cells; have fz := e.free; clear e)
      | (go_at_call 13; (refine (ret_of (load_any A l.length c l _ _ (HA.out.after ZC.out).rd rfl HS.out) (v' := .int .u64 Y) (by rw [HY.out])).mono ?_); rintro _ w2 ⟨rfl, hb⟩; replace ZC := Lib.hid (keep_call (w2 := w) hb ZC.out); have e := HB.out.after ZC.out; obtain ⟨b0, b1, b2, b3, b4, b5, b6, b7, b8, b9, b10, b11⟩ := e.cells; have fz := e.free; clear e))
  · all_goals
      obtain rfl : F = ⟨o, p, q, v, x, Y, s⟩ := HF.out
      go_wp2
      refine bodyPost_ret (by simp [results, Try.results60, go_sem]; try rfl) rfl ?_
      exact ⟨A, c, rfl, (HB.out.after ZC.out).setY _, (HA.out.after ZC.out).set rfl _, (ZC.out.mono (Nat.le_of_lt hg)).setCell (Nat.le_refl _) _⟩
  · all_goals
      obtain rfl : F = ⟨o, 4, q, v, x, Y, s⟩ := HF.out
      go_wp2
      refine bodyPost_ret (by simp [results, Try.results60, go_sem]; try rfl) rfl ?_
      exact ⟨A, c, rfl, ((HB.out.after ZC.out).setY _).setPc _, ((HA.out.after ZC.out).set rfl _).set rfl _, ((ZC.out.mono (Nat.le_of_lt hg)).setCell (Nat.le_refl _) _).setCell (Nat.le_refl _) _⟩
set_option maxHeartbeats 4000000 in
set_option maxRecDepth 100000 in
theorem unpark_any (lo g : Nat) (f : Fr) (W D J S : Int) (A : Option Addr) (c : Nat) (l : List Int) (w : World) (hB : Bw w g f W D J S (.slice A l.length c)) (hA : Rx lo g w A l) (hlo : lo ≤ w.heap.size) (hs : l.length ≤ 500) :
    Calls Try.prog 61 #[.pointer (some ⟨g, 0, none⟩)] w (Lw lo w g (ed f 1 0) W D J S (put l (ow W D J S f.who 2) 0)) := by
  have HB := Lib.hid hB
  have HA := Lib.hid hA
  have HS := Lib.hid hs
  clear hB hA hs
  obtain ⟨o, p, q, v, x, y, s⟩ := f
  show Calls _ _ _ _ (Lw lo w g (ed ⟨o, p, q, v, x, y, s⟩ 1 0) W D J S (put l (ow W D J S q 2) 0))
  have e := HB.out
  obtain ⟨a0, a1, a2, a3, a4, a5, a6, a7, a8, a9, a10, a11⟩ := e.cells
  have fz := e.free
  have hg := e.lt
  have ZC := Lib.hid (Below.refl w.heap.size w).drew
  have HK := Lib.hid (show ∀ x', Kx g 11 w x' → (fun w' => w'.cell? ⟨g, 2, none⟩ = some (.int .i64 q) ∧ w'.cell? ⟨g, 7, none⟩ = some (.int .i64 W) ∧ w'.cell? ⟨g, 8, none⟩ = some (.int .i64 D) ∧ w'.cell? ⟨g, 9, none⟩ = some (.int .i64 J) ∧ w'.cell? ⟨g, 10, none⟩ = some (.int .i64 S) ∧ Kx g 11 w w') x' from fun x' hx =>
    ⟨(hx.cells 2 (by decide)).trans a2, (hx.cells 7 (by decide)).trans a7, (hx.cells 8 (by decide)).trans a8, (hx.cells 9 (by decide)).trans a9, (hx.cells 10 (by decide)).trans a10, hx⟩)
  have hHeld0 := HK.out _ (Kx.refl g 11 w)
  clear e
  go_enter Try.func61, Try.ntmps61
  go_wp2_with fail
  refine wp_region_held_drew (S := fun w' => w'.cell? ⟨g, 2, none⟩ = some (.int .i64 q) ∧ w'.cell? ⟨g, 7, none⟩ = some (.int .i64 W) ∧ w'.cell? ⟨g, 8, none⟩ = some (.int .i64 D) ∧ w'.cell? ⟨g, 9, none⟩ = some (.int .i64 J) ∧ w'.cell? ⟨g, 10, none⟩ = some (.int .i64 S) ∧ Kx g 11 w w') (by kernel_rfl) (kx_drew HK.out (fun _ h => h.2.2.2.2.2) hHeld0) (fun hHeld => ?_)
  refine wpAnyH_take (i := 0) (oi := { dst := some 2, op := Go.Op.move (Go.Operand.tmp 0), type := 74, pos := "wait.go:102", after := #[], guard := none }) (v := ?vq1) rfl (by kernel_rfl) (by kernel_rfl) (by kernel_rfl) (fun _ _ _ h => h) (Or.inl ⟨by rfl, ?yq1⟩) (by assumption) ?rq1
  case yq1 => (intro w hSw; (try dsimp only at hSw); go_simp; (try with_reducible rfl))
  (try simp only [Act.put, List.setIfInBounds_toArray, List.set_cons_zero, List.set_cons_succ])
  refine wpAnyH_take (i := 1) (oi := { dst := some 3, op := Go.Op.move (Go.Operand.tmp 0), type := 74, pos := "wait.go:102", after := #[], guard := none }) (v := ?vq2) rfl (by kernel_rfl) (by kernel_rfl) (by kernel_rfl) (fun _ _ _ h => h) (Or.inl ⟨by rfl, ?yq2⟩) (by assumption) ?rq2
  case yq2 => (intro w hSw; (try dsimp only at hSw); go_simp; (try with_reducible rfl))
  (try simp only [Act.put, List.setIfInBounds_toArray, List.set_cons_zero, List.set_cons_succ])
  refine wpAnyH_take (i := 2) (oi := { dst := some 4, op := Go.Op.nilCheck (Go.Operand.tmp 3), type := 0, pos := "wait.go:102", after := #[{ on := 1, ground := Go.Ground.data }], guard := none }) (v := ?vq3) rfl (by kernel_rfl) (by kernel_rfl) (by kernel_rfl) (fun _ _ _ h => h) (Or.inl ⟨by rfl, ?yq3⟩) (by assumption) ?rq3
  case yq3 => (intro w hSw; (try dsimp only at hSw); go_simp; (try with_reducible rfl))
  (try simp only [Act.put, List.setIfInBounds_toArray, List.set_cons_zero, List.set_cons_succ])
  refine wpAnyH_take (i := 3) (oi := { dst := some 5, op := Go.Op.fieldAddr 69 (Go.Operand.tmp 4) 2, type := 0, pos := "wait.go:102", after := #[{ on := 2, ground := Go.Ground.data }], guard := none }) (v := ?vq4) rfl (by kernel_rfl) (by kernel_rfl) (by kernel_rfl) (fun _ _ _ h => h) (Or.inl ⟨by rfl, ?yq4⟩) (by assumption) ?rq4
  case yq4 => (intro w hSw; (try dsimp only at hSw); go_simp; (try with_reducible rfl))
  (try simp only [Act.put, List.setIfInBounds_toArray, List.set_cons_zero, List.set_cons_succ])
  refine wpAnyH_take (i := 5) (oi := { dst := some 7, op := Go.Op.move (Go.Operand.tmp 0), type := 74, pos := "wait.go:102", after := #[], guard := none }) (v := ?vq5) rfl (by kernel_rfl) (by kernel_rfl) (by kernel_rfl) (fun _ _ _ h => h) (Or.inl ⟨by rfl, ?yq5⟩) (by assumption) ?rq5
  case yq5 => (intro w hSw; (try dsimp only at hSw); go_simp; (try with_reducible rfl))
  (try simp only [Act.put, List.setIfInBounds_toArray, List.set_cons_zero, List.set_cons_succ])
  refine wpAnyH_take (i := 6) (oi := { dst := some 8, op := Go.Op.nilCheck (Go.Operand.tmp 7), type := 0, pos := "wait.go:102", after := #[{ on := 5, ground := Go.Ground.data }], guard := none }) (v := ?vq6) rfl (by kernel_rfl) (by kernel_rfl) (by kernel_rfl) (fun _ _ _ h => h) (Or.inl ⟨by rfl, ?yq6⟩) (by assumption) ?rq6
  case yq6 => (intro w hSw; (try dsimp only at hSw); go_simp; (try with_reducible rfl))
  (try simp only [Act.put, List.setIfInBounds_toArray, List.set_cons_zero, List.set_cons_succ])
  refine wpAnyH_take (i := 7) (oi := { dst := some 9, op := Go.Op.fieldAddr 69 (Go.Operand.tmp 8) 1, type := 0, pos := "wait.go:102", after := #[{ on := 6, ground := Go.Ground.data }], guard := none }) (v := ?vq7) rfl (by kernel_rfl) (by kernel_rfl) (by kernel_rfl) (fun _ _ _ h => h) (Or.inl ⟨by rfl, ?yq7⟩) (by assumption) ?rq7
  case yq7 => (intro w hSw; (try dsimp only at hSw); go_simp; (try with_reducible rfl))
  (try simp only [Act.put, List.setIfInBounds_toArray, List.set_cons_zero, List.set_cons_succ])
  refine wpAnyH_take (i := 8) (oi := { dst := some 10, op := Go.Op.load 36 (Go.Operand.tmp 9), type := 36, pos := "wait.go:102", after := #[{ on := 7, ground := Go.Ground.data }], guard := none }) (v := ?vq8) rfl (by kernel_rfl) (by kernel_rfl) (by kernel_rfl) (fun _ _ _ h => h) (Or.inl ⟨by rfl, ?yq8⟩) (by assumption) ?rq8
  case yq8 => (intro w hSw; (try dsimp only at hSw); go_simp; (try with_reducible rfl))
  (try simp only [Act.put, List.setIfInBounds_toArray, List.set_cons_zero, List.set_cons_succ])
  refine wpAnyH_take (i := 9) (oi := { dst := some 11, op := Go.Op.move (Go.Operand.tmp 0), type := 74, pos := "wait.go:102", after := #[], guard := none }) (v := ?vq9) rfl (by kernel_rfl) (by kernel_rfl) (by kernel_rfl) (fun _ _ _ h => h) (Or.inl ⟨by rfl, ?yq9⟩) (by assumption) ?rq9
  case yq9 => (intro w hSw; (try dsimp only at hSw); go_simp; (try with_reducible rfl))
  (try simp only [Act.put, List.setIfInBounds_toArray, List.set_cons_zero, List.set_cons_succ])
  refine wpAnyH_take (i := 10) (oi := { dst := some 12, op := Go.Op.nilCheck (Go.Operand.tmp 11), type := 0, pos := "wait.go:102", after := #[{ on := 9, ground := Go.Ground.data }], guard := none }) (v := ?vq10) rfl (by kernel_rfl) (by kernel_rfl) (by kernel_rfl) (fun _ _ _ h => h) (Or.inl ⟨by rfl, ?yq10⟩) (by assumption) ?rq10
  case yq10 => (intro w hSw; (try dsimp only at hSw); go_simp; (try with_reducible rfl))
  (try simp only [Act.put, List.setIfInBounds_toArray, List.set_cons_zero, List.set_cons_succ])
  refine wpAnyH_take (i := 11) (oi := { dst := some 13, op := Go.Op.fieldAddr 69 (Go.Operand.tmp 12) 0, type := 0, pos := "wait.go:102", after := #[{ on := 10, ground := Go.Ground.data }], guard := none }) (v := ?vq11) rfl (by kernel_rfl) (by kernel_rfl) (by kernel_rfl) (fun _ _ _ h => h) (Or.inl ⟨by rfl, ?yq11⟩) (by assumption) ?rq11
  case yq11 => (intro w hSw; (try dsimp only at hSw); go_simp; (try with_reducible rfl))
  (try simp only [Act.put, List.setIfInBounds_toArray, List.set_cons_zero, List.set_cons_succ])
  refine wpAnyH_take (i := 12) (oi := { dst := some 14, op := Go.Op.fieldAddr 34 (Go.Operand.tmp 13) 2, type := 0, pos := "wait.go:102", after := #[{ on := 11, ground := Go.Ground.data }], guard := none }) (v := ?vq12) rfl (by kernel_rfl) (by kernel_rfl) (by kernel_rfl) (fun _ _ _ h => h) (Or.inl ⟨by rfl, ?yq12⟩) (by assumption) ?rq12
  case yq12 => (intro w hSw; (try dsimp only at hSw); go_simp; (try with_reducible rfl))
  (try simp only [Act.put, List.setIfInBounds_toArray, List.set_cons_zero, List.set_cons_succ])
  refine wpAnyH_take (i := 13) (oi := { dst := some 15, op := Go.Op.load 3 (Go.Operand.tmp 14), type := 3, pos := "wait.go:102", after := #[{ on := 12, ground := Go.Ground.data }], guard := none }) (v := ?vq13) rfl (by kernel_rfl) (by kernel_rfl) (by kernel_rfl) (fun _ _ _ h => h) (Or.inl ⟨by rfl, ?yq13⟩) (by assumption) ?rq13
  case yq13 => (intro w hSw; (try dsimp only at hSw); go_simp; (try with_reducible rfl))
  (try simp only [Act.put, List.setIfInBounds_toArray, List.set_cons_zero, List.set_cons_succ])
  refine wpAnyH_ready (rs := [4, 14]) (by kernel_rfl) (by simp) ?_
  refine (AllReadyH.cons (o := { dst := some 6, op := Go.Op.load 27 (Go.Operand.tmp 5), type := 27, pos := "wait.go:102", after := #[{ on := 3, ground := Go.Ground.data }], guard := none }) rfl (fun K hK => ?_) (AllReadyH.cons (o := { dst := some 16, op := Go.Op.call { callee := Go.Callee.value (Go.Operand.func 14), args := #[Go.Operand.tmp 10, Go.Operand.tmp 15], argTypes := #[36, 3] }, type := 3, pos := "wait.go:102", after := #[{ on := 8, ground := Go.Ground.data }, { on := 13, ground := Go.Ground.data }], guard := none }) rfl (fun K hK => ?_) AllReadyH.nil))
  · go_simp
    refine hK.out _ _ (hHeld) (fun hHeld2 => ?_)
    clear hK K hHeld
    have hHeld := hHeld2
    clear hHeld2
    (try simp only [Act.put, List.setIfInBounds_toArray, List.set_cons_zero, List.set_cons_succ])
    refine wpAnyH_ready (rs := [14]) (by kernel_rfl) (by simp) ?_
    refine (AllReadyH.cons (o := { dst := some 16, op := Go.Op.call { callee := Go.Callee.value (Go.Operand.func 14), args := #[Go.Operand.tmp 10, Go.Operand.tmp 15], argTypes := #[36, 3] }, type := 3, pos := "wait.go:102", after := #[{ on := 8, ground := Go.Ground.data }, { on := 13, ground := Go.Ground.data }], guard := none }) rfl (fun K hK => ?_) AllReadyH.nil)
    go_simp
    refine (park_any W D J S q _).mono ?_
    rintro e w1 ⟨rfl, hb⟩
    go_wp2_with fail
    replace ZC := Lib.hid (keep_call (w2 := w) hb ZC.out)
    have e := HB.out.after ZC.out; obtain ⟨b0, b1, b2, b3, b4, b5, b6, b7, b8, b9, b10, b11⟩ := e.cells; have fz := e.free; clear e
    refine hK.out _ _ (kx_call HK.out (fun _ h => h.2.2.2.2.2) hg hb hHeld) (fun hHeld2 => ?_)
    clear hK K hHeld
    have hHeld := hHeld2
    clear hHeld2
    (try simp only [Act.put, List.setIfInBounds_toArray, List.set_cons_zero, List.set_cons_succ])
    refine wpAnyH_ready (rs := [15]) (by kernel_rfl) (by simp) ?_
    refine (AllReadyH.cons (o := { dst := some 17, op := Go.Op.call { callee := Go.Callee.value (Go.Operand.func 75), args := #[Go.Operand.tmp 6, Go.Operand.tmp 16, Go.Operand.const (Go.Value.int Go.IntKind.u64 0)], argTypes := #[27, 3, 32] }, type := 27, pos := "wait.go:102", after := #[{ on := 4, ground := Go.Ground.data }, { on := 14, ground := Go.Ground.data }, { on := 14, ground := Go.Ground.chain }], guard := none }) rfl (fun K hK => ?_) AllReadyH.nil)
    go_simp
    refine (store_new A l.length c l _ 0 _ (HA.out.after ZC.out).rd rfl HS.out).mono ?_
    rintro e w2 ⟨k, rfl, hk0, hk, hb⟩
    go_wp2_with fail
    have HLO := Lib.hid (Nat.le_trans hlo (Nat.le_trans ZC.out.size hk0))
    have HKK := Lib.hid hk
    replace ZC := Lib.hid (keep_call (w2 := w) hb ZC.out)
    have e := HB.out.after ZC.out; obtain ⟨b0, b1, b2, b3, b4, b5, b6, b7, b8, b9, b10, b11⟩ := e.cells; have fz := e.free; clear e
    clear hk hk0
    refine hK.out _ _ (kx_call HK.out (fun _ h => h.2.2.2.2.2) hg hb hHeld) (fun hHeld2 => ?_)
    clear hK K hHeld
    have hHeld := hHeld2
    clear hHeld2
    (try simp only [Act.put, List.setIfInBounds_toArray, List.set_cons_zero, List.set_cons_succ])
    refine wpAnyH_take (i := 16) (oi := { dst := some 18, op := Go.Op.nilCheck (Go.Operand.tmp 2), type := 0, pos := "wait.go:102", after := #[{ on := 0, ground := Go.Ground.data }, { on := 0, ground := Go.Ground.phase }, { on := 1, ground := Go.Ground.phase }, { on := 2, ground := Go.Ground.phase }, { on := 3, ground := Go.Ground.phase }, { on := 4, ground := Go.Ground.phase }, { on := 5, ground := Go.Ground.phase }, { on := 6, ground := Go.Ground.phase }, { on := 7, ground := Go.Ground.phase }, { on := 8, ground := Go.Ground.phase }, { on := 9, ground := Go.Ground.phase }, { on := 10, ground := Go.Ground.phase }, { on := 11, ground := Go.Ground.phase }, { on := 12, ground := Go.Ground.phase }, { on := 13, ground := Go.Ground.phase }, { on := 14, ground := Go.Ground.phase }, { on := 15, ground := Go.Ground.phase }], guard := none }) (v := ?vq14) rfl (by kernel_rfl) (by kernel_rfl) (by kernel_rfl) (fun _ _ _ h => h) (Or.inl ⟨by rfl, ?yq14⟩) (by assumption) ?rq14
    case yq14 => (intro w hSw; (try dsimp only at hSw); go_simp; (try with_reducible rfl))
    (try simp only [Act.put, List.setIfInBounds_toArray, List.set_cons_zero, List.set_cons_succ])
    refine wpAnyH_take (i := 17) (oi := { dst := some 19, op := Go.Op.fieldAddr 69 (Go.Operand.tmp 18) 2, type := 0, pos := "wait.go:102", after := #[{ on := 16, ground := Go.Ground.data }, { on := 0, ground := Go.Ground.phase }, { on := 1, ground := Go.Ground.phase }, { on := 2, ground := Go.Ground.phase }, { on := 3, ground := Go.Ground.phase }, { on := 4, ground := Go.Ground.phase }, { on := 5, ground := Go.Ground.phase }, { on := 6, ground := Go.Ground.phase }, { on := 7, ground := Go.Ground.phase }, { on := 8, ground := Go.Ground.phase }, { on := 9, ground := Go.Ground.phase }, { on := 10, ground := Go.Ground.phase }, { on := 11, ground := Go.Ground.phase }, { on := 12, ground := Go.Ground.phase }, { on := 13, ground := Go.Ground.phase }, { on := 14, ground := Go.Ground.phase }, { on := 15, ground := Go.Ground.phase }], guard := none }) (v := ?vq15) rfl (by kernel_rfl) (by kernel_rfl) (by kernel_rfl) (fun _ _ _ h => h) (Or.inl ⟨by rfl, ?yq15⟩) (by assumption) ?rq15
    case yq15 => (intro w hSw; (try dsimp only at hSw); go_simp; (try with_reducible rfl))
    (try simp only [Act.put, List.setIfInBounds_toArray, List.set_cons_zero, List.set_cons_succ])
    refine wpAnyH_ready (rs := [18]) (by kernel_rfl) (by simp) ?_
    refine (AllReadyH.cons (o := { dst := none, op := Go.Op.store 27 (Go.Operand.tmp 19) (Go.Operand.tmp 17), type := 0, pos := "wait.go:102", after := #[{ on := 17, ground := Go.Ground.data }, { on := 15, ground := Go.Ground.data }, { on := 15, ground := Go.Ground.chain }, { on := 0, ground := Go.Ground.phase }, { on := 1, ground := Go.Ground.phase }, { on := 2, ground := Go.Ground.phase }, { on := 3, ground := Go.Ground.phase }, { on := 4, ground := Go.Ground.phase }, { on := 5, ground := Go.Ground.phase }, { on := 6, ground := Go.Ground.phase }, { on := 7, ground := Go.Ground.phase }, { on := 8, ground := Go.Ground.phase }, { on := 9, ground := Go.Ground.phase }, { on := 10, ground := Go.Ground.phase }, { on := 11, ground := Go.Ground.phase }, { on := 12, ground := Go.Ground.phase }, { on := 13, ground := Go.Ground.phase }, { on := 14, ground := Go.Ground.phase }, { on := 15, ground := Go.Ground.phase }], guard := none }) rfl (fun K hK => ?_) AllReadyH.nil)
    go_simp
    refine hK.out _ _ (kx_set HK.out (fun _ h => h.2.2.2.2.2) _ hHeld) (fun hHeld2 => ?_)
    clear hK K hHeld
    have hHeld := hHeld2
    clear hHeld2
    (try simp only [Act.put, List.setIfInBounds_toArray, List.set_cons_zero, List.set_cons_succ])
    refine wpAnyH_done (by kernel_rfl) ?_ _
    clear hHeld
    go_wp2_with fail
    have e := HB.out.after ZC.out
    have e2 : Bw (w2.setCell ⟨g, 11, none⟩ (.slice (some ⟨k, 0, none⟩) l.length l.length)) g ⟨o, p, q, v, x, y, s⟩ W D J S (.slice (some ⟨k, 0, none⟩) (put l (ow W D J S q 2) 0).length l.length) := by rw [len_put]; exact e.setM _
    refine (wend_any lo g ⟨o, p, q, v, x, y, s⟩ W D J S 1 _ _ (put l (ow W D J S q 2) 0) _ e2 ((HKK.out.rx (HKK.out.ne_wt e) HLO.out).set rfl _)).mono ?_
    rintro _ w5 ⟨A', c', rfl, hb5, ha5, hbe5⟩
    go_wp2
    refine bodyPost_ret (by simp [results, Try.results61, go_sem]; try rfl) rfl ?_
    exact ⟨A', c', rfl, hb5, ha5, ((ZC.out.mono (Nat.le_of_lt hg)).setCell (Nat.le_refl _) _).trans hbe5⟩
  · go_simp
    refine (park_any W D J S q _).mono ?_
    rintro e w1 ⟨rfl, hb⟩
    go_wp2_with fail
    replace ZC := Lib.hid (keep_call (w2 := w) hb ZC.out)
    have e := HB.out.after ZC.out; obtain ⟨b0, b1, b2, b3, b4, b5, b6, b7, b8, b9, b10, b11⟩ := e.cells; have fz := e.free; clear e
    refine hK.out _ _ (kx_call HK.out (fun _ h => h.2.2.2.2.2) hg hb hHeld) (fun hHeld2 => ?_)
    clear hK K hHeld
    have hHeld := hHeld2
    clear hHeld2
    (try simp only [Act.put, List.setIfInBounds_toArray, List.set_cons_zero, List.set_cons_succ])
    refine wpAnyH_ready (rs := [4]) (by kernel_rfl) (by simp) ?_
    refine (AllReadyH.cons (o := { dst := some 6, op := Go.Op.load 27 (Go.Operand.tmp 5), type := 27, pos := "wait.go:102", after := #[{ on := 3, ground := Go.Ground.data }], guard := none }) rfl (fun K hK => ?_) AllReadyH.nil)
    go_simp
    refine hK.out _ _ (hHeld) (fun hHeld2 => ?_)
    clear hK K hHeld
    have hHeld := hHeld2
    clear hHeld2
    (try simp only [Act.put, List.setIfInBounds_toArray, List.set_cons_zero, List.set_cons_succ])
    refine wpAnyH_ready (rs := [15]) (by kernel_rfl) (by simp) ?_
    refine (AllReadyH.cons (o := { dst := some 17, op := Go.Op.call { callee := Go.Callee.value (Go.Operand.func 75), args := #[Go.Operand.tmp 6, Go.Operand.tmp 16, Go.Operand.const (Go.Value.int Go.IntKind.u64 0)], argTypes := #[27, 3, 32] }, type := 27, pos := "wait.go:102", after := #[{ on := 4, ground := Go.Ground.data }, { on := 14, ground := Go.Ground.data }, { on := 14, ground := Go.Ground.chain }], guard := none }) rfl (fun K hK => ?_) AllReadyH.nil)
    go_simp
    refine (store_new A l.length c l _ 0 _ (HA.out.after ZC.out).rd rfl HS.out).mono ?_
    rintro e w2 ⟨k, rfl, hk0, hk, hb⟩
    go_wp2_with fail
    have HLO := Lib.hid (Nat.le_trans hlo (Nat.le_trans ZC.out.size hk0))
    have HKK := Lib.hid hk
    replace ZC := Lib.hid (keep_call (w2 := w) hb ZC.out)
    have e := HB.out.after ZC.out; obtain ⟨b0, b1, b2, b3, b4, b5, b6, b7, b8, b9, b10, b11⟩ := e.cells; have fz := e.free; clear e
    clear hk hk0
    refine hK.out _ _ (kx_call HK.out (fun _ h => h.2.2.2.2.2) hg hb hHeld) (fun hHeld2 => ?_)
    clear hK K hHeld
    have hHeld := hHeld2
    clear hHeld2
    (try simp only [Act.put, List.setIfInBounds_toArray, List.set_cons_zero, List.set_cons_succ])
    refine wpAnyH_take (i := 16) (oi := { dst := some 18, op := Go.Op.nilCheck (Go.Operand.tmp 2), type := 0, pos := "wait.go:102", after := #[{ on := 0, ground := Go.Ground.data }, { on := 0, ground := Go.Ground.phase }, { on := 1, ground := Go.Ground.phase }, { on := 2, ground := Go.Ground.phase }, { on := 3, ground := Go.Ground.phase }, { on := 4, ground := Go.Ground.phase }, { on := 5, ground := Go.Ground.phase }, { on := 6, ground := Go.Ground.phase }, { on := 7, ground := Go.Ground.phase }, { on := 8, ground := Go.Ground.phase }, { on := 9, ground := Go.Ground.phase }, { on := 10, ground := Go.Ground.phase }, { on := 11, ground := Go.Ground.phase }, { on := 12, ground := Go.Ground.phase }, { on := 13, ground := Go.Ground.phase }, { on := 14, ground := Go.Ground.phase }, { on := 15, ground := Go.Ground.phase }], guard := none }) (v := ?vq16) rfl (by kernel_rfl) (by kernel_rfl) (by kernel_rfl) (fun _ _ _ h => h) (Or.inl ⟨by rfl, ?yq16⟩) (by assumption) ?rq16
    case yq16 => (intro w hSw; (try dsimp only at hSw); go_simp; (try with_reducible rfl))
    (try simp only [Act.put, List.setIfInBounds_toArray, List.set_cons_zero, List.set_cons_succ])
    refine wpAnyH_take (i := 17) (oi := { dst := some 19, op := Go.Op.fieldAddr 69 (Go.Operand.tmp 18) 2, type := 0, pos := "wait.go:102", after := #[{ on := 16, ground := Go.Ground.data }, { on := 0, ground := Go.Ground.phase }, { on := 1, ground := Go.Ground.phase }, { on := 2, ground := Go.Ground.phase }, { on := 3, ground := Go.Ground.phase }, { on := 4, ground := Go.Ground.phase }, { on := 5, ground := Go.Ground.phase }, { on := 6, ground := Go.Ground.phase }, { on := 7, ground := Go.Ground.phase }, { on := 8, ground := Go.Ground.phase }, { on := 9, ground := Go.Ground.phase }, { on := 10, ground := Go.Ground.phase }, { on := 11, ground := Go.Ground.phase }, { on := 12, ground := Go.Ground.phase }, { on := 13, ground := Go.Ground.phase }, { on := 14, ground := Go.Ground.phase }, { on := 15, ground := Go.Ground.phase }], guard := none }) (v := ?vq17) rfl (by kernel_rfl) (by kernel_rfl) (by kernel_rfl) (fun _ _ _ h => h) (Or.inl ⟨by rfl, ?yq17⟩) (by assumption) ?rq17
    case yq17 => (intro w hSw; (try dsimp only at hSw); go_simp; (try with_reducible rfl))
    (try simp only [Act.put, List.setIfInBounds_toArray, List.set_cons_zero, List.set_cons_succ])
    refine wpAnyH_ready (rs := [18]) (by kernel_rfl) (by simp) ?_
    refine (AllReadyH.cons (o := { dst := none, op := Go.Op.store 27 (Go.Operand.tmp 19) (Go.Operand.tmp 17), type := 0, pos := "wait.go:102", after := #[{ on := 17, ground := Go.Ground.data }, { on := 15, ground := Go.Ground.data }, { on := 15, ground := Go.Ground.chain }, { on := 0, ground := Go.Ground.phase }, { on := 1, ground := Go.Ground.phase }, { on := 2, ground := Go.Ground.phase }, { on := 3, ground := Go.Ground.phase }, { on := 4, ground := Go.Ground.phase }, { on := 5, ground := Go.Ground.phase }, { on := 6, ground := Go.Ground.phase }, { on := 7, ground := Go.Ground.phase }, { on := 8, ground := Go.Ground.phase }, { on := 9, ground := Go.Ground.phase }, { on := 10, ground := Go.Ground.phase }, { on := 11, ground := Go.Ground.phase }, { on := 12, ground := Go.Ground.phase }, { on := 13, ground := Go.Ground.phase }, { on := 14, ground := Go.Ground.phase }, { on := 15, ground := Go.Ground.phase }], guard := none }) rfl (fun K hK => ?_) AllReadyH.nil)
    go_simp
    refine hK.out _ _ (kx_set HK.out (fun _ h => h.2.2.2.2.2) _ hHeld) (fun hHeld2 => ?_)
    clear hK K hHeld
    have hHeld := hHeld2
    clear hHeld2
    (try simp only [Act.put, List.setIfInBounds_toArray, List.set_cons_zero, List.set_cons_succ])
    refine wpAnyH_done (by kernel_rfl) ?_ _
    clear hHeld
    go_wp2_with fail
    have e := HB.out.after ZC.out
    have e2 : Bw (w2.setCell ⟨g, 11, none⟩ (.slice (some ⟨k, 0, none⟩) l.length l.length)) g ⟨o, p, q, v, x, y, s⟩ W D J S (.slice (some ⟨k, 0, none⟩) (put l (ow W D J S q 2) 0).length l.length) := by rw [len_put]; exact e.setM _
    refine (wend_any lo g ⟨o, p, q, v, x, y, s⟩ W D J S 1 _ _ (put l (ow W D J S q 2) 0) _ e2 ((HKK.out.rx (HKK.out.ne_wt e) HLO.out).set rfl _)).mono ?_
    rintro _ w5 ⟨A', c', rfl, hb5, ha5, hbe5⟩
    go_wp2
    refine bodyPost_ret (by simp [results, Try.results61, go_sem]; try rfl) rfl ?_
    exact ⟨A', c', rfl, hb5, ha5, ((ZC.out.mono (Nat.le_of_lt hg)).setCell (Nat.le_refl _) _).trans hbe5⟩
end Go.Proofs.Ytgemaeibmgkneaa
