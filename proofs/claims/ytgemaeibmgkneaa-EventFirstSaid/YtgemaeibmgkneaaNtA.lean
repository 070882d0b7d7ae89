/- Contracts of package note: its map of functions, Goes, Owes, and what stands in the event's place. -/
import Derived.Test.YtgemaeibmgkneaaNtM
import Derived.Test.YtgemaeibmgkneaaPuE
import Derived.Test.YtgemaeibmgkneaaPuF
import Derived.Test.YtgemaeibmgkneaaPuG
import Derived.Test.YtgemaeibmgkneaaFrH2
import Derived.Test.YtgemaeibmgkneaaWordC
import Derived.MapKept
import Derived.Carry
import Derived.IntWalk
import Derived.Deep.RegionHeld3
import Derived.Deep.CutRange
import Derived.Deep.DeepCutAuto
namespace Go.Proofs.Ytgemaeibmgkneaa
open Go.RowKit Go.Deep
set_option maxRecDepth 100000 in
theorem nt_underlying : Try.prog.underlying 89 = some (.map 3 87) := by kernel_rfl
set_option maxRecDepth 100000 in
theorem nt_int : Try.prog.underlying 3 = some (.int .i64) := by kernel_rfl
set_option maxRecDepth 100000 in
theorem nt_zero (w : World) : (zeroValue 87).run Try.prog w = .ok .nilFunc w := by kernel_rfl
/-- The map of what stands in the event's place, entry by entry. -/
def mp1 : Array MapEntry := #[⟨.int .i64 6, .func (.func 65) #[] #[], 0⟩]
def mp2 : Array MapEntry := #[⟨.int .i64 6, .func (.func 65) #[] #[], 0⟩, ⟨.int .i64 7, .func (.func 66) #[] #[], 1⟩]
set_option maxRecDepth 100000 in
theorem set_last (w : World) (o p : Obj) : { w.alloc o with heap := (w.alloc o).heap.setIfInBounds w.heap.size p } = w.alloc p := by
  show World.mk ((w.heap.push o).setIfInBounds w.heap.size p) _ _ _ _ = World.mk (w.heap.push p) _ _ _ _
  congr 1
  apply Array.toList_inj.1
  simp
set_option maxRecDepth 100000 in
theorem run_ins {w : World} {es : Array MapEntry} {clock : Nat} {k : Int} (v : Value) (hf : Instr.findNow (.int .i64) (.int .i64 k) es.toList 0 = some none) :
    (Instr.mapUpdate 89 (.map (some w.heap.size)) (.int .i64 k) v).run Try.prog (w.alloc (.map es clock)) = .ok () (w.alloc (.map (es.push ⟨.int .i64 k, v, clock⟩) (clock + 1))) := by
  have hb : (w.alloc (.map es clock)).heap[w.heap.size]? = some (.map es clock) := heap_alloc_new _ _
  have e := set_last w (.map es clock) (.map (es.push ⟨.int .i64 k, v, clock⟩) (clock + 1))
  have hk : MapKept.IsKey (.int .i64) (.int .i64 k) := rfl
  simp [Instr.mapUpdate, run_underlying nt_underlying, MapKept.run_getObj_map hb, MapKept.run_checkKey nt_int hk, MapKept.run_findKey nt_int hf, MapKept.run_setObj_map _ hb, Result.andThen]
  exact e
set_option maxRecDepth 100000 in
theorem run_ins6 (w : World) : (Instr.mapUpdate 89 (.map (some w.heap.size)) (.int .i64 6) (.func (.func 65) #[] #[])).run Try.prog (w.alloc (.map #[] 0)) = .ok () (w.alloc (.map mp1 1)) := run_ins _ rfl
set_option maxRecDepth 100000 in
theorem run_ins7 (w : World) : (Instr.mapUpdate 89 (.map (some w.heap.size)) (.int .i64 7) (.func (.func 66) #[] #[])).run Try.prog (w.alloc (.map mp1 1)) = .ok () (w.alloc (.map mp2 2)) := run_ins _ rfl
/-- The map lies in block b. -/
def Mp (w : World) (b : Nat) : Prop := w.heap[b]? = some (.map mp2 2)
set_option maxRecDepth 100000 in
theorem nturns_any (w : World) : Calls Try.prog 50 #[] w fun e w' => ∃ b, e = .returned (.map (some b)) ∧ Mp w' b ∧ Below w.heap.size w w' := by
  have h0 := @run_makeMap Try.prog
  have h1 := run_ins6 w
  have h2 := run_ins7 w
  go_enter Try.func50, Try.ntmps50
  go_wp2
  go_ret
  exact ⟨_, rfl, heap_alloc_new _ _, bel_alloc w _⟩
set_option maxRecDepth 100000 in
theorem run_look {w : World} {b : Nat} (h : Mp w b) {k : Int} {i : Nat} {v : Value} (hf : Instr.findNow (.int .i64) (.int .i64 k) mp2.toList 0 = some (some (i, v))) (c : Bool) :
    (Instr.lookup 89 (.map (some b)) (.int .i64 k) c).run Try.prog w = .ok (if c then .tuple #[v, .bool true] else v) w := by
  have hk : MapKept.IsKey (.int .i64) (.int .i64 k) := rfl
  simp [Instr.lookup, run_underlying nt_underlying, MapKept.run_getObj_map h, MapKept.run_checkKey nt_int hk, MapKept.run_findKey nt_int hf, Result.andThen]
set_option maxRecDepth 100000 in
theorem run_look_no {w : World} {b : Nat} (h : Mp w b) {k : Int} (hf : Instr.findNow (.int .i64) (.int .i64 k) mp2.toList 0 = some none) :
    ∃ v, (Instr.lookup 89 (.map (some b)) (.int .i64 k) true).run Try.prog w = .ok (.tuple #[v, .bool false]) w := by
  have hk : MapKept.IsKey (.int .i64) (.int .i64 k) := rfl
  refine ⟨.nilFunc, ?_⟩
  have e := nt_zero w
  simp [Instr.lookup, run_underlying nt_underlying, MapKept.run_getObj_map h, MapKept.run_checkKey nt_int hk, MapKept.run_findKey nt_int hf, Result.andThen, e]
set_option maxRecDepth 100000 in
theorem run_look_any {w : World} {b : Nat} (h : Mp w b) (o : Int) (k : Bool) (hk : (decide (o = 6) || decide (o = 7)) = k) : ∃ v, (Instr.lookup 89 (.map (some b)) (.int .i64 o) true).run Try.prog w = .ok (.tuple #[v, .bool k]) w := by
  subst hk
  by_cases h6 : o = 6
  · subst h6; exact ⟨_, run_look h rfl true⟩
  · by_cases h7 : o = 7
    · subst h7; exact ⟨_, run_look h rfl true⟩
    · rw [decide_eq_false h6, decide_eq_false h7]
      refine run_look_no h ?_
      have e6 : (o == (6 : Int)) = false := by simpa using h6
      have e7 : (o == (7 : Int)) = false := by simpa using h7
      simp [mp2, Instr.findNow, Instr.sameNow, e6, e7]
set_option maxRecDepth 100000 in
theorem nwithin_any (n k : Int) (w : World) : Gives 48 #[.int .i64 n, .int .i64 k] w (.bool (decide (0 ≤ n) && decide (n < k))) := by
  by_cases h1 : 0 ≤ n
  · rw [show (decide (0 ≤ n) && decide (n < k)) = decide (n < k) by simp [h1]]
    go_enter Try.func48, Try.ntmps48
    go_wp2
    go_ret
    exact ⟨rfl, rfl⟩
  · rw [show (decide (0 ≤ n) && decide (n < k)) = false by simp [h1]]
    go_enter Try.func48, Try.ntmps48
    go_wp2
    go_ret
    exact ⟨rfl, rfl⟩
set_option maxRecDepth 100000 in
theorem nthere_any (W D J S : Int) (A : Option Addr) (n c : Nat) (m : List Int) (w : World) (hn : m.length = n) : Tells 51 #[cf W D J S, .slice A n c] w (.bool (okm W D J S m)) := by
  have hs : ((n : Int) == sz W D J S) = decide ((m.length : Int) = sz W D J S) := by rw [hn]; exact Bool.eq_iff_iff.2 (by simp)
  unfold okm
  cases h1 : may W D J S
  · have HM := Lib.hid h1
    rw [show (false && decide ((m.length : Int) = sz W D J S)) = false by simp]
    clear h1 hs hn
    go_enter Try.func51, Try.ntmps51
    go_wp2_with fail
    refine (Tells.of (may_any W D J S _) (v' := .bool false) (by rw [HM.out])).mono ?_
    rintro _ w1 ⟨rfl, z1⟩
    have HZ := Lib.hid ((box_below w _).trans (z1.mono (by simp)))
    clear z1
    go_wp2
    go_ret
    exact ⟨rfl, HZ.out⟩
  · have HM := Lib.hid h1
    have hz : sz W D J S = bg D J W := by unfold sz; rw [h1]; rfl
    rw [hz] at hs
    have HZ0 := Lib.hid h1
    rw [hz, show (true && decide ((m.length : Int) = bg D J W)) = ((n : Int) == bg D J W) by rw [hs]; simp]
    clear h1 hz hn hs
    go_enter Try.func51, Try.ntmps51
    go_wp2_with fail
    refine (Tells.of (may_any W D J S _) (v' := .bool true) (by rw [HM.out])).mono ?_
    rintro _ w1 ⟨rfl, z1⟩
    have HZ := Lib.hid ((box_below w _).trans (z1.mono (by simp)))
    obtain ⟨g0, c0, c1, c2, c3⟩ := (Bx.mk w W D J S 36).below z1
    clear z1
    go_wp2_with fail
    refine (size_yes W D J S _ HZ0.out).mono ?_
    rintro _ w2 ⟨rfl, z2⟩
    have HZ2 := Lib.hid (HZ.out.trans (z2.mono HZ.out.size))
    clear z2
    go_wp2
    go_ret
    exact ⟨rfl, HZ2.out⟩
set_option maxRecDepth 100000 in
theorem ngoes_any (W D J S : Int) (A : Option Addr) (n c : Nat) (m : List Int) (f : Fr) (w : World) (hn : m.length = n) : Tells 35 #[cf W D J S, .slice A n c, fv f] w (.bool (goesN W D J S m f)) := by
  obtain ⟨BX, BF, Z, hz⟩ := boxes2 w W D J S f
  have h1 : w.heap.size < (bxc w W D J S f).heap.size := by omega
  have h2 : w.heap.size + 1 < (bxc w W D J S f).heap.size := by omega
  obtain ⟨o, p, q, v, x, y, s⟩ := f
  have hV : goesN W D J S m ⟨o, p, q, v, x, y, s⟩ = (okm W D J S m && !(s != 0) && (decide (o = 6) || decide (o = 7)) && (decide (0 ≤ p) && decide (p < 3))) := by
    unfold goesN
    rw [show decide (s = 0) = !(s != 0) by rw [Bool.eq_iff_iff]; simp]
    simp only [Bool.and_assoc]
  rw [hV]
  clear hV
  cases e1 : okm W D J S m
  · obtain ⟨k2, e2⟩ : ∃ k, (s != 0) = k := ⟨_, rfl⟩
    obtain ⟨k3, e3⟩ : ∃ k, (decide (o = 6) || decide (o = 7)) = k := ⟨_, rfl⟩
    rw [show (false && !(s != 0) && (decide (o = 6) || decide (o = 7)) && (decide (0 ≤ p) && decide (p < 3))) = false by simp]
    have HE := Lib.hid e1
    have HV := Lib.hid e2
    have HO := Lib.hid e3
    clear e1 e2 e3
    go_enter Try.func35, Try.ntmps35
    go_upto_region 1 with fail
    change Code.wp _ _ _ _ (bxc w W D J S ⟨o, p, q, v, x, y, s⟩)
    generalize bxc w W D J S ⟨o, p, q, v, x, y, s⟩ = w0 at BX BF Z hz h1 h2 ⊢
    have HK := Lib.hid (show ∀ x', Below w0.heap.size w0 x' → (fun w' => w'.cell? ⟨w.heap.size + 1, 0, none⟩ = some (.int .i64 o) ∧ Below w0.heap.size w0 w') x' from fun x' hx => ⟨(BF.below hx h2).cells.1, hx⟩)
    have hHeld0 := HK.out _ (Below.refl _ _)
    have ZC := Lib.hid (Below.refl w0.heap.size w0).drew
    refine wp_region_held_drew (S := fun w' => w'.cell? ⟨w.heap.size + 1, 0, none⟩ = some (.int .i64 o) ∧ Below w0.heap.size w0 w') (by kernel_rfl) (hd_drew HK.out (fun _ h => h.2) hHeld0) (fun hHeld => ?_)
    refine wpAnyH_take (i := 1) (oi := { dst := some 11, op := Go.Op.fieldAddr 34 (Go.Operand.tmp 5) 0, type := 0, pos := "note.go:30", after := #[], guard := none }) (v := ?vga1) rfl (by kernel_rfl) (by kernel_rfl) (by kernel_rfl) (fun _ _ _ h => h) (Or.inl ⟨by rfl, ?yga1⟩) (by assumption) ?rga1
    case yga1 => (intro w hSw; (try dsimp only at hSw); go_simp; (try with_reducible rfl))
    (try simp only [Act.put, List.setIfInBounds_toArray, List.set_cons_zero, List.set_cons_succ])
    refine wpAnyH_take (i := 2) (oi := { dst := some 12, op := Go.Op.load 3 (Go.Operand.tmp 11), type := 3, pos := "note.go:30", after := #[{ on := 1, ground := Go.Ground.data }], guard := none }) (v := ?vga2) rfl (by kernel_rfl) (by kernel_rfl) (by kernel_rfl) (fun _ _ _ h => h) (Or.inl ⟨by rfl, ?yga2⟩) (by assumption) ?rga2
    case yga2 => (intro w hSw; (try dsimp only at hSw); go_simp; (try with_reducible rfl))
    (try simp only [Act.put, List.setIfInBounds_toArray, List.set_cons_zero, List.set_cons_succ])
    refine wpAnyH_ready (rs := [0]) (by kernel_rfl) (by simp) ?_
    refine (AllReadyH.cons (o := { dst := some 10, op := Go.Op.call { callee := Go.Callee.value (Go.Operand.func 50), args := #[], argTypes := #[] }, type := 89, pos := "note.go:30", after := #[], guard := none }) rfl (fun K hK => ?_) AllReadyH.nil)
    go_simp
    refine (nturns_any _).mono ?_
    rintro e wx ⟨b, rfl, hmp, zb⟩
    go_wp2_with fail
    replace ZC := Lib.hid (keep_call (w2 := w0) zb ZC.out)
    obtain ⟨vl, hvl⟩ := run_look_any hmp o k3 HO.out
    clear hmp zb
    refine hK.out _ _ (HK.out _ ZC.out) (fun hHeld2 => ?_)
    clear hK K hHeld
    have hHeld := hHeld2
    clear hHeld2
    (try simp only [Act.put, List.setIfInBounds_toArray, List.set_cons_zero, List.set_cons_succ])
    refine wpAnyH_ready (rs := [3]) (by kernel_rfl) (by simp) ?_
    refine (AllReadyH.cons (o := { dst := some 13, op := Go.Op.lookup 89 (Go.Operand.tmp 10) (Go.Operand.tmp 12) true, type := 88, pos := "note.go:30", after := #[{ on := 0, ground := Go.Ground.data }, { on := 2, ground := Go.Ground.data }], guard := none }) rfl (fun K hK => ?_) AllReadyH.nil)
    go_simp
    refine hK.out _ _ (hHeld) (fun hHeld2 => ?_)
    clear hK K hHeld
    have hHeld := hHeld2
    clear hHeld2
    (try simp only [Act.put, List.setIfInBounds_toArray, List.set_cons_zero, List.set_cons_succ])
    refine wpAnyH_take (i := 4) (oi := { dst := some 9, op := Go.Op.move (Go.Operand.tmp 13), type := 88, pos := "note.go:30", after := #[{ on := 3, ground := Go.Ground.data }], guard := none }) (v := ?vga3) rfl (by kernel_rfl) (by kernel_rfl) (by kernel_rfl) (fun _ _ _ h => h) (Or.inl ⟨by rfl, ?yga3⟩) (by assumption) ?rga3
    case yga3 => (intro w hSw; (try dsimp only at hSw); go_simp; (try with_reducible rfl))
    (try simp only [Act.put, List.setIfInBounds_toArray, List.set_cons_zero, List.set_cons_succ])
    refine wpAnyH_take (i := 5) (oi := { dst := some 14, op := Go.Op.extract (Go.Operand.tmp 9) 0, type := 87, pos := "note.go:30", after := #[{ on := 4, ground := Go.Ground.data }], guard := none }) (v := ?vga4) rfl (by kernel_rfl) (by kernel_rfl) (by kernel_rfl) (fun _ _ _ h => h) (Or.inl ⟨by rfl, ?yga4⟩) (by assumption) ?rga4
    case yga4 => (intro w hSw; (try dsimp only at hSw); go_simp; (try with_reducible rfl))
    (try simp only [Act.put, List.setIfInBounds_toArray, List.set_cons_zero, List.set_cons_succ])
    refine wpAnyH_take (i := 6) (oi := { dst := some 15, op := Go.Op.extract (Go.Operand.tmp 9) 1, type := 4, pos := "note.go:30", after := #[{ on := 4, ground := Go.Ground.data }, { on := 7, ground := Go.Ground.gcOnly Go.Departure.lateStores }], guard := none }) (v := ?vga5) rfl (by kernel_rfl) (by kernel_rfl) (by kernel_rfl) (fun _ _ _ h => h) (Or.inl ⟨by rfl, ?yga5⟩) (by assumption) ?rga5
    case yga5 => (intro w hSw; (try dsimp only at hSw); go_simp; (try with_reducible rfl))
    (try simp only [Act.put, List.setIfInBounds_toArray, List.set_cons_zero, List.set_cons_succ])
    refine wpAnyH_take (i := 7) (oi := { dst := some 7, op := Go.Op.assign (Go.Operand.tmp 14), type := 87, pos := "note.go:30", after := #[{ on := 5, ground := Go.Ground.data }, { on := 0, ground := Go.Ground.chain }, { on := 0, ground := Go.Ground.phase }, { on := 1, ground := Go.Ground.phase }, { on := 2, ground := Go.Ground.phase }, { on := 3, ground := Go.Ground.phase }, { on := 4, ground := Go.Ground.phase }, { on := 5, ground := Go.Ground.phase }, { on := 6, ground := Go.Ground.textOnly Go.Departure.lateStores }], guard := none }) (v := ?vga6) rfl (by kernel_rfl) (by kernel_rfl) (by kernel_rfl) (fun _ _ _ h => h) (Or.inl ⟨by rfl, ?yga6⟩) (by assumption) ?rga6
    case yga6 => (intro w hSw; (try dsimp only at hSw); go_simp; (try with_reducible rfl))
    (try simp only [Act.put, List.setIfInBounds_toArray, List.set_cons_zero, List.set_cons_succ])
    refine wpAnyH_take (i := 8) (oi := { dst := some 8, op := Go.Op.assign (Go.Operand.tmp 15), type := 4, pos := "note.go:30", after := #[{ on := 6, ground := Go.Ground.data }, { on := 7, ground := Go.Ground.chain }, { on := 0, ground := Go.Ground.phase }, { on := 1, ground := Go.Ground.phase }, { on := 2, ground := Go.Ground.phase }, { on := 3, ground := Go.Ground.phase }, { on := 4, ground := Go.Ground.phase }, { on := 5, ground := Go.Ground.phase }, { on := 6, ground := Go.Ground.phase }, { on := 7, ground := Go.Ground.phase }], guard := none }) (v := ?vga7) rfl (by kernel_rfl) (by kernel_rfl) (by kernel_rfl) (fun _ _ _ h => h) (Or.inl ⟨by rfl, ?yga7⟩) (by assumption) ?rga7
    case yga7 => (intro w hSw; (try dsimp only at hSw); go_simp; (try with_reducible rfl))
    (try simp only [Act.put, List.setIfInBounds_toArray, List.set_cons_zero, List.set_cons_succ])
    refine wpAnyH_done (by kernel_rfl) ?_ _
    have HZ := Lib.hid (Z.trans (ZC.out.mono (by omega)))
    obtain ⟨_, b0, b1, b2, b3⟩ := BX.below ZC.out
    obtain ⟨a0, a1, a2, a3, a4, a5, a6⟩ := (BF.below ZC.out h2).cells
    clear HK hHeld0 hHeld hvl
    go_wp2_with fail
    refine (Tells.of (nthere_any W D J S A n c m _ hn) (v' := .bool false) (by rw [HE.out])).mono ?_
    rintro _ w1 ⟨rfl, zb⟩
    replace ZC := Lib.hid (keep_call (w2 := w0) zb ZC.out)
    clear a0 a1 a2 a3 a4 a5 a6
    obtain ⟨a0, a1, a2, a3, a4, a5, a6⟩ := (BF.below ZC.out h2).cells
    clear zb
    clear HZ
    have HZ := Lib.hid (Z.trans (ZC.out.mono (by omega)))
    go_wp2
    go_ret
    exact ⟨rfl, HZ.out⟩
  · cases e2 : (s != 0)
    · cases e3 : (decide (o = 6) || decide (o = 7))
      · rw [show (true && !false && false && (decide (0 ≤ p) && decide (p < 3))) = false by simp]
        have HE := Lib.hid e1
        have HV := Lib.hid e2
        have HO := Lib.hid e3
        clear e1 e2 e3
        go_enter Try.func35, Try.ntmps35
        go_upto_region 1 with fail
        change Code.wp _ _ _ _ (bxc w W D J S ⟨o, p, q, v, x, y, s⟩)
        generalize bxc w W D J S ⟨o, p, q, v, x, y, s⟩ = w0 at BX BF Z hz h1 h2 ⊢
        have HK := Lib.hid (show ∀ x', Below w0.heap.size w0 x' → (fun w' => w'.cell? ⟨w.heap.size + 1, 0, none⟩ = some (.int .i64 o) ∧ Below w0.heap.size w0 w') x' from fun x' hx => ⟨(BF.below hx h2).cells.1, hx⟩)
        have hHeld0 := HK.out _ (Below.refl _ _)
        have ZC := Lib.hid (Below.refl w0.heap.size w0).drew
        refine wp_region_held_drew (S := fun w' => w'.cell? ⟨w.heap.size + 1, 0, none⟩ = some (.int .i64 o) ∧ Below w0.heap.size w0 w') (by kernel_rfl) (hd_drew HK.out (fun _ h => h.2) hHeld0) (fun hHeld => ?_)
        refine wpAnyH_take (i := 1) (oi := { dst := some 11, op := Go.Op.fieldAddr 34 (Go.Operand.tmp 5) 0, type := 0, pos := "note.go:30", after := #[], guard := none }) (v := ?vgb1) rfl (by kernel_rfl) (by kernel_rfl) (by kernel_rfl) (fun _ _ _ h => h) (Or.inl ⟨by rfl, ?ygb1⟩) (by assumption) ?rgb1
        case ygb1 => (intro w hSw; (try dsimp only at hSw); go_simp; (try with_reducible rfl))
        (try simp only [Act.put, List.setIfInBounds_toArray, List.set_cons_zero, List.set_cons_succ])
        refine wpAnyH_take (i := 2) (oi := { dst := some 12, op := Go.Op.load 3 (Go.Operand.tmp 11), type := 3, pos := "note.go:30", after := #[{ on := 1, ground := Go.Ground.data }], guard := none }) (v := ?vgb2) rfl (by kernel_rfl) (by kernel_rfl) (by kernel_rfl) (fun _ _ _ h => h) (Or.inl ⟨by rfl, ?ygb2⟩) (by assumption) ?rgb2
        case ygb2 => (intro w hSw; (try dsimp only at hSw); go_simp; (try with_reducible rfl))
        (try simp only [Act.put, List.setIfInBounds_toArray, List.set_cons_zero, List.set_cons_succ])
        refine wpAnyH_ready (rs := [0]) (by kernel_rfl) (by simp) ?_
        refine (AllReadyH.cons (o := { dst := some 10, op := Go.Op.call { callee := Go.Callee.value (Go.Operand.func 50), args := #[], argTypes := #[] }, type := 89, pos := "note.go:30", after := #[], guard := none }) rfl (fun K hK => ?_) AllReadyH.nil)
        go_simp
        refine (nturns_any _).mono ?_
        rintro e wx ⟨b, rfl, hmp, zb⟩
        go_wp2_with fail
        replace ZC := Lib.hid (keep_call (w2 := w0) zb ZC.out)
        obtain ⟨vl, hvl⟩ := run_look_any hmp o false HO.out
        clear hmp zb
        refine hK.out _ _ (HK.out _ ZC.out) (fun hHeld2 => ?_)
        clear hK K hHeld
        have hHeld := hHeld2
        clear hHeld2
        (try simp only [Act.put, List.setIfInBounds_toArray, List.set_cons_zero, List.set_cons_succ])
        refine wpAnyH_ready (rs := [3]) (by kernel_rfl) (by simp) ?_
        refine (AllReadyH.cons (o := { dst := some 13, op := Go.Op.lookup 89 (Go.Operand.tmp 10) (Go.Operand.tmp 12) true, type := 88, pos := "note.go:30", after := #[{ on := 0, ground := Go.Ground.data }, { on := 2, ground := Go.Ground.data }], guard := none }) rfl (fun K hK => ?_) AllReadyH.nil)
        go_simp
        refine hK.out _ _ (hHeld) (fun hHeld2 => ?_)
        clear hK K hHeld
        have hHeld := hHeld2
        clear hHeld2
        (try simp only [Act.put, List.setIfInBounds_toArray, List.set_cons_zero, List.set_cons_succ])
        refine wpAnyH_take (i := 4) (oi := { dst := some 9, op := Go.Op.move (Go.Operand.tmp 13), type := 88, pos := "note.go:30", after := #[{ on := 3, ground := Go.Ground.data }], guard := none }) (v := ?vgb3) rfl (by kernel_rfl) (by kernel_rfl) (by kernel_rfl) (fun _ _ _ h => h) (Or.inl ⟨by rfl, ?ygb3⟩) (by assumption) ?rgb3
        case ygb3 => (intro w hSw; (try dsimp only at hSw); go_simp; (try with_reducible rfl))
        (try simp only [Act.put, List.setIfInBounds_toArray, List.set_cons_zero, List.set_cons_succ])
        refine wpAnyH_take (i := 5) (oi := { dst := some 14, op := Go.Op.extract (Go.Operand.tmp 9) 0, type := 87, pos := "note.go:30", after := #[{ on := 4, ground := Go.Ground.data }], guard := none }) (v := ?vgb4) rfl (by kernel_rfl) (by kernel_rfl) (by kernel_rfl) (fun _ _ _ h => h) (Or.inl ⟨by rfl, ?ygb4⟩) (by assumption) ?rgb4
        case ygb4 => (intro w hSw; (try dsimp only at hSw); go_simp; (try with_reducible rfl))
        (try simp only [Act.put, List.setIfInBounds_toArray, List.set_cons_zero, List.set_cons_succ])
        refine wpAnyH_take (i := 6) (oi := { dst := some 15, op := Go.Op.extract (Go.Operand.tmp 9) 1, type := 4, pos := "note.go:30", after := #[{ on := 4, ground := Go.Ground.data }, { on := 7, ground := Go.Ground.gcOnly Go.Departure.lateStores }], guard := none }) (v := ?vgb5) rfl (by kernel_rfl) (by kernel_rfl) (by kernel_rfl) (fun _ _ _ h => h) (Or.inl ⟨by rfl, ?ygb5⟩) (by assumption) ?rgb5
        case ygb5 => (intro w hSw; (try dsimp only at hSw); go_simp; (try with_reducible rfl))
        (try simp only [Act.put, List.setIfInBounds_toArray, List.set_cons_zero, List.set_cons_succ])
        refine wpAnyH_take (i := 7) (oi := { dst := some 7, op := Go.Op.assign (Go.Operand.tmp 14), type := 87, pos := "note.go:30", after := #[{ on := 5, ground := Go.Ground.data }, { on := 0, ground := Go.Ground.chain }, { on := 0, ground := Go.Ground.phase }, { on := 1, ground := Go.Ground.phase }, { on := 2, ground := Go.Ground.phase }, { on := 3, ground := Go.Ground.phase }, { on := 4, ground := Go.Ground.phase }, { on := 5, ground := Go.Ground.phase }, { on := 6, ground := Go.Ground.textOnly Go.Departure.lateStores }], guard := none }) (v := ?vgb6) rfl (by kernel_rfl) (by kernel_rfl) (by kernel_rfl) (fun _ _ _ h => h) (Or.inl ⟨by rfl, ?ygb6⟩) (by assumption) ?rgb6
        case ygb6 => (intro w hSw; (try dsimp only at hSw); go_simp; (try with_reducible rfl))
        (try simp only [Act.put, List.setIfInBounds_toArray, List.set_cons_zero, List.set_cons_succ])
        refine wpAnyH_take (i := 8) (oi := { dst := some 8, op := Go.Op.assign (Go.Operand.tmp 15), type := 4, pos := "note.go:30", after := #[{ on := 6, ground := Go.Ground.data }, { on := 7, ground := Go.Ground.chain }, { on := 0, ground := Go.Ground.phase }, { on := 1, ground := Go.Ground.phase }, { on := 2, ground := Go.Ground.phase }, { on := 3, ground := Go.Ground.phase }, { on := 4, ground := Go.Ground.phase }, { on := 5, ground := Go.Ground.phase }, { on := 6, ground := Go.Ground.phase }, { on := 7, ground := Go.Ground.phase }], guard := none }) (v := ?vgb7) rfl (by kernel_rfl) (by kernel_rfl) (by kernel_rfl) (fun _ _ _ h => h) (Or.inl ⟨by rfl, ?ygb7⟩) (by assumption) ?rgb7
        case ygb7 => (intro w hSw; (try dsimp only at hSw); go_simp; (try with_reducible rfl))
        (try simp only [Act.put, List.setIfInBounds_toArray, List.set_cons_zero, List.set_cons_succ])
        refine wpAnyH_done (by kernel_rfl) ?_ _
        have HZ := Lib.hid (Z.trans (ZC.out.mono (by omega)))
        obtain ⟨_, b0, b1, b2, b3⟩ := BX.below ZC.out
        obtain ⟨a0, a1, a2, a3, a4, a5, a6⟩ := (BF.below ZC.out h2).cells
        clear HK hHeld0 hHeld hvl
        go_wp2_with fail
        refine (Tells.of (nthere_any W D J S A n c m _ hn) (v' := .bool true) (by rw [HE.out])).mono ?_
        rintro _ w1 ⟨rfl, zb⟩
        replace ZC := Lib.hid (keep_call (w2 := w0) zb ZC.out)
        clear a0 a1 a2 a3 a4 a5 a6
        obtain ⟨a0, a1, a2, a3, a4, a5, a6⟩ := (BF.below ZC.out h2).cells
        clear zb
        go_wp2_with fail
        refine (Tells.of (over_any ⟨o, p, q, v, x, y, s⟩ _) (v' := .bool false) (by rw [← HV.out])).mono ?_
        rintro _ w2 ⟨rfl, zb⟩
        replace ZC := Lib.hid (keep_call (w2 := w0) zb ZC.out)
        clear a0 a1 a2 a3 a4 a5 a6
        obtain ⟨a0, a1, a2, a3, a4, a5, a6⟩ := (BF.below ZC.out h2).cells
        clear zb
        clear HZ
        have HZ := Lib.hid (Z.trans (ZC.out.mono (by omega)))
        go_wp2
        go_ret
        exact ⟨rfl, HZ.out⟩
      · rw [show (true && !false && true && (decide (0 ≤ p) && decide (p < 3))) = (decide (0 ≤ p) && decide (p < 3)) by simp]
        have HE := Lib.hid e1
        have HV := Lib.hid e2
        have HO := Lib.hid e3
        clear e1 e2 e3
        go_enter Try.func35, Try.ntmps35
        go_upto_region 1 with fail
        change Code.wp _ _ _ _ (bxc w W D J S ⟨o, p, q, v, x, y, s⟩)
        generalize bxc w W D J S ⟨o, p, q, v, x, y, s⟩ = w0 at BX BF Z hz h1 h2 ⊢
        have HK := Lib.hid (show ∀ x', Below w0.heap.size w0 x' → (fun w' => w'.cell? ⟨w.heap.size + 1, 0, none⟩ = some (.int .i64 o) ∧ Below w0.heap.size w0 w') x' from fun x' hx => ⟨(BF.below hx h2).cells.1, hx⟩)
        have hHeld0 := HK.out _ (Below.refl _ _)
        have ZC := Lib.hid (Below.refl w0.heap.size w0).drew
        refine wp_region_held_drew (S := fun w' => w'.cell? ⟨w.heap.size + 1, 0, none⟩ = some (.int .i64 o) ∧ Below w0.heap.size w0 w') (by kernel_rfl) (hd_drew HK.out (fun _ h => h.2) hHeld0) (fun hHeld => ?_)
        refine wpAnyH_take (i := 1) (oi := { dst := some 11, op := Go.Op.fieldAddr 34 (Go.Operand.tmp 5) 0, type := 0, pos := "note.go:30", after := #[], guard := none }) (v := ?vgc1) rfl (by kernel_rfl) (by kernel_rfl) (by kernel_rfl) (fun _ _ _ h => h) (Or.inl ⟨by rfl, ?ygc1⟩) (by assumption) ?rgc1
        case ygc1 => (intro w hSw; (try dsimp only at hSw); go_simp; (try with_reducible rfl))
        (try simp only [Act.put, List.setIfInBounds_toArray, List.set_cons_zero, List.set_cons_succ])
        refine wpAnyH_take (i := 2) (oi := { dst := some 12, op := Go.Op.load 3 (Go.Operand.tmp 11), type := 3, pos := "note.go:30", after := #[{ on := 1, ground := Go.Ground.data }], guard := none }) (v := ?vgc2) rfl (by kernel_rfl) (by kernel_rfl) (by kernel_rfl) (fun _ _ _ h => h) (Or.inl ⟨by rfl, ?ygc2⟩) (by assumption) ?rgc2
        case ygc2 => (intro w hSw; (try dsimp only at hSw); go_simp; (try with_reducible rfl))
        (try simp only [Act.put, List.setIfInBounds_toArray, List.set_cons_zero, List.set_cons_succ])
        refine wpAnyH_ready (rs := [0]) (by kernel_rfl) (by simp) ?_
        refine (AllReadyH.cons (o := { dst := some 10, op := Go.Op.call { callee := Go.Callee.value (Go.Operand.func 50), args := #[], argTypes := #[] }, type := 89, pos := "note.go:30", after := #[], guard := none }) rfl (fun K hK => ?_) AllReadyH.nil)
        go_simp
        refine (nturns_any _).mono ?_
        rintro e wx ⟨b, rfl, hmp, zb⟩
        go_wp2_with fail
        replace ZC := Lib.hid (keep_call (w2 := w0) zb ZC.out)
        obtain ⟨vl, hvl⟩ := run_look_any hmp o true HO.out
        clear hmp zb
        refine hK.out _ _ (HK.out _ ZC.out) (fun hHeld2 => ?_)
        clear hK K hHeld
        have hHeld := hHeld2
        clear hHeld2
        (try simp only [Act.put, List.setIfInBounds_toArray, List.set_cons_zero, List.set_cons_succ])
        refine wpAnyH_ready (rs := [3]) (by kernel_rfl) (by simp) ?_
        refine (AllReadyH.cons (o := { dst := some 13, op := Go.Op.lookup 89 (Go.Operand.tmp 10) (Go.Operand.tmp 12) true, type := 88, pos := "note.go:30", after := #[{ on := 0, ground := Go.Ground.data }, { on := 2, ground := Go.Ground.data }], guard := none }) rfl (fun K hK => ?_) AllReadyH.nil)
        go_simp
        refine hK.out _ _ (hHeld) (fun hHeld2 => ?_)
        clear hK K hHeld
        have hHeld := hHeld2
        clear hHeld2
        (try simp only [Act.put, List.setIfInBounds_toArray, List.set_cons_zero, List.set_cons_succ])
        refine wpAnyH_take (i := 4) (oi := { dst := some 9, op := Go.Op.move (Go.Operand.tmp 13), type := 88, pos := "note.go:30", after := #[{ on := 3, ground := Go.Ground.data }], guard := none }) (v := ?vgc3) rfl (by kernel_rfl) (by kernel_rfl) (by kernel_rfl) (fun _ _ _ h => h) (Or.inl ⟨by rfl, ?ygc3⟩) (by assumption) ?rgc3
        case ygc3 => (intro w hSw; (try dsimp only at hSw); go_simp; (try with_reducible rfl))
        (try simp only [Act.put, List.setIfInBounds_toArray, List.set_cons_zero, List.set_cons_succ])
        refine wpAnyH_take (i := 5) (oi := { dst := some 14, op := Go.Op.extract (Go.Operand.tmp 9) 0, type := 87, pos := "note.go:30", after := #[{ on := 4, ground := Go.Ground.data }], guard := none }) (v := ?vgc4) rfl (by kernel_rfl) (by kernel_rfl) (by kernel_rfl) (fun _ _ _ h => h) (Or.inl ⟨by rfl, ?ygc4⟩) (by assumption) ?rgc4
        case ygc4 => (intro w hSw; (try dsimp only at hSw); go_simp; (try with_reducible rfl))
        (try simp only [Act.put, List.setIfInBounds_toArray, List.set_cons_zero, List.set_cons_succ])
        refine wpAnyH_take (i := 6) (oi := { dst := some 15, op := Go.Op.extract (Go.Operand.tmp 9) 1, type := 4, pos := "note.go:30", after := #[{ on := 4, ground := Go.Ground.data }, { on := 7, ground := Go.Ground.gcOnly Go.Departure.lateStores }], guard := none }) (v := ?vgc5) rfl (by kernel_rfl) (by kernel_rfl) (by kernel_rfl) (fun _ _ _ h => h) (Or.inl ⟨by rfl, ?ygc5⟩) (by assumption) ?rgc5
        case ygc5 => (intro w hSw; (try dsimp only at hSw); go_simp; (try with_reducible rfl))
        (try simp only [Act.put, List.setIfInBounds_toArray, List.set_cons_zero, List.set_cons_succ])
        refine wpAnyH_take (i := 7) (oi := { dst := some 7, op := Go.Op.assign (Go.Operand.tmp 14), type := 87, pos := "note.go:30", after := #[{ on := 5, ground := Go.Ground.data }, { on := 0, ground := Go.Ground.chain }, { on := 0, ground := Go.Ground.phase }, { on := 1, ground := Go.Ground.phase }, { on := 2, ground := Go.Ground.phase }, { on := 3, ground := Go.Ground.phase }, { on := 4, ground := Go.Ground.phase }, { on := 5, ground := Go.Ground.phase }, { on := 6, ground := Go.Ground.textOnly Go.Departure.lateStores }], guard := none }) (v := ?vgc6) rfl (by kernel_rfl) (by kernel_rfl) (by kernel_rfl) (fun _ _ _ h => h) (Or.inl ⟨by rfl, ?ygc6⟩) (by assumption) ?rgc6
        case ygc6 => (intro w hSw; (try dsimp only at hSw); go_simp; (try with_reducible rfl))
        (try simp only [Act.put, List.setIfInBounds_toArray, List.set_cons_zero, List.set_cons_succ])
        refine wpAnyH_take (i := 8) (oi := { dst := some 8, op := Go.Op.assign (Go.Operand.tmp 15), type := 4, pos := "note.go:30", after := #[{ on := 6, ground := Go.Ground.data }, { on := 7, ground := Go.Ground.chain }, { on := 0, ground := Go.Ground.phase }, { on := 1, ground := Go.Ground.phase }, { on := 2, ground := Go.Ground.phase }, { on := 3, ground := Go.Ground.phase }, { on := 4, ground := Go.Ground.phase }, { on := 5, ground := Go.Ground.phase }, { on := 6, ground := Go.Ground.phase }, { on := 7, ground := Go.Ground.phase }], guard := none }) (v := ?vgc7) rfl (by kernel_rfl) (by kernel_rfl) (by kernel_rfl) (fun _ _ _ h => h) (Or.inl ⟨by rfl, ?ygc7⟩) (by assumption) ?rgc7
        case ygc7 => (intro w hSw; (try dsimp only at hSw); go_simp; (try with_reducible rfl))
        (try simp only [Act.put, List.setIfInBounds_toArray, List.set_cons_zero, List.set_cons_succ])
        refine wpAnyH_done (by kernel_rfl) ?_ _
        have HZ := Lib.hid (Z.trans (ZC.out.mono (by omega)))
        obtain ⟨_, b0, b1, b2, b3⟩ := BX.below ZC.out
        obtain ⟨a0, a1, a2, a3, a4, a5, a6⟩ := (BF.below ZC.out h2).cells
        clear HK hHeld0 hHeld hvl
        go_wp2_with fail
        refine (Tells.of (nthere_any W D J S A n c m _ hn) (v' := .bool true) (by rw [HE.out])).mono ?_
        rintro _ w1 ⟨rfl, zb⟩
        replace ZC := Lib.hid (keep_call (w2 := w0) zb ZC.out)
        clear a0 a1 a2 a3 a4 a5 a6
        obtain ⟨a0, a1, a2, a3, a4, a5, a6⟩ := (BF.below ZC.out h2).cells
        clear zb
        go_wp2_with fail
        refine (Tells.of (over_any ⟨o, p, q, v, x, y, s⟩ _) (v' := .bool false) (by rw [← HV.out])).mono ?_
        rintro _ w2 ⟨rfl, zb⟩
        replace ZC := Lib.hid (keep_call (w2 := w0) zb ZC.out)
        clear a0 a1 a2 a3 a4 a5 a6
        obtain ⟨a0, a1, a2, a3, a4, a5, a6⟩ := (BF.below ZC.out h2).cells
        clear zb
        go_wp2_with fail
        refine (nwithin_any _ _ _).mono ?_
        rintro _ _ ⟨rfl, rfl⟩
        clear HZ
        have HZ := Lib.hid (Z.trans (ZC.out.mono (by omega)))
        go_wp2
        go_ret
        exact ⟨rfl, HZ.out⟩
    · obtain ⟨k3, e3⟩ : ∃ k, (decide (o = 6) || decide (o = 7)) = k := ⟨_, rfl⟩
      rw [show (true && !true && (decide (o = 6) || decide (o = 7)) && (decide (0 ≤ p) && decide (p < 3))) = false by simp]
      have HE := Lib.hid e1
      have HV := Lib.hid e2
      have HO := Lib.hid e3
      clear e1 e2 e3
      go_enter Try.func35, Try.ntmps35
      go_upto_region 1 with fail
      change Code.wp _ _ _ _ (bxc w W D J S ⟨o, p, q, v, x, y, s⟩)
      generalize bxc w W D J S ⟨o, p, q, v, x, y, s⟩ = w0 at BX BF Z hz h1 h2 ⊢
      have HK := Lib.hid (show ∀ x', Below w0.heap.size w0 x' → (fun w' => w'.cell? ⟨w.heap.size + 1, 0, none⟩ = some (.int .i64 o) ∧ Below w0.heap.size w0 w') x' from fun x' hx => ⟨(BF.below hx h2).cells.1, hx⟩)
      have hHeld0 := HK.out _ (Below.refl _ _)
      have ZC := Lib.hid (Below.refl w0.heap.size w0).drew
      refine wp_region_held_drew (S := fun w' => w'.cell? ⟨w.heap.size + 1, 0, none⟩ = some (.int .i64 o) ∧ Below w0.heap.size w0 w') (by kernel_rfl) (hd_drew HK.out (fun _ h => h.2) hHeld0) (fun hHeld => ?_)
      refine wpAnyH_take (i := 1) (oi := { dst := some 11, op := Go.Op.fieldAddr 34 (Go.Operand.tmp 5) 0, type := 0, pos := "note.go:30", after := #[], guard := none }) (v := ?vgd1) rfl (by kernel_rfl) (by kernel_rfl) (by kernel_rfl) (fun _ _ _ h => h) (Or.inl ⟨by rfl, ?ygd1⟩) (by assumption) ?rgd1
      case ygd1 => (intro w hSw; (try dsimp only at hSw); go_simp; (try with_reducible rfl))
      (try simp only [Act.put, List.setIfInBounds_toArray, List.set_cons_zero, List.set_cons_succ])
      refine wpAnyH_take (i := 2) (oi := { dst := some 12, op := Go.Op.load 3 (Go.Operand.tmp 11), type := 3, pos := "note.go:30", after := #[{ on := 1, ground := Go.Ground.data }], guard := none }) (v := ?vgd2) rfl (by kernel_rfl) (by kernel_rfl) (by kernel_rfl) (fun _ _ _ h => h) (Or.inl ⟨by rfl, ?ygd2⟩) (by assumption) ?rgd2
      case ygd2 => (intro w hSw; (try dsimp only at hSw); go_simp; (try with_reducible rfl))
      (try simp only [Act.put, List.setIfInBounds_toArray, List.set_cons_zero, List.set_cons_succ])
      refine wpAnyH_ready (rs := [0]) (by kernel_rfl) (by simp) ?_
      refine (AllReadyH.cons (o := { dst := some 10, op := Go.Op.call { callee := Go.Callee.value (Go.Operand.func 50), args := #[], argTypes := #[] }, type := 89, pos := "note.go:30", after := #[], guard := none }) rfl (fun K hK => ?_) AllReadyH.nil)
      go_simp
      refine (nturns_any _).mono ?_
      rintro e wx ⟨b, rfl, hmp, zb⟩
      go_wp2_with fail
      replace ZC := Lib.hid (keep_call (w2 := w0) zb ZC.out)
      obtain ⟨vl, hvl⟩ := run_look_any hmp o k3 HO.out
      clear hmp zb
      refine hK.out _ _ (HK.out _ ZC.out) (fun hHeld2 => ?_)
      clear hK K hHeld
      have hHeld := hHeld2
      clear hHeld2
      (try simp only [Act.put, List.setIfInBounds_toArray, List.set_cons_zero, List.set_cons_succ])
      refine wpAnyH_ready (rs := [3]) (by kernel_rfl) (by simp) ?_
      refine (AllReadyH.cons (o := { dst := some 13, op := Go.Op.lookup 89 (Go.Operand.tmp 10) (Go.Operand.tmp 12) true, type := 88, pos := "note.go:30", after := #[{ on := 0, ground := Go.Ground.data }, { on := 2, ground := Go.Ground.data }], guard := none }) rfl (fun K hK => ?_) AllReadyH.nil)
      go_simp
      refine hK.out _ _ (hHeld) (fun hHeld2 => ?_)
      clear hK K hHeld
      have hHeld := hHeld2
      clear hHeld2
      (try simp only [Act.put, List.setIfInBounds_toArray, List.set_cons_zero, List.set_cons_succ])
      refine wpAnyH_take (i := 4) (oi := { dst := some 9, op := Go.Op.move (Go.Operand.tmp 13), type := 88, pos := "note.go:30", after := #[{ on := 3, ground := Go.Ground.data }], guard := none }) (v := ?vgd3) rfl (by kernel_rfl) (by kernel_rfl) (by kernel_rfl) (fun _ _ _ h => h) (Or.inl ⟨by rfl, ?ygd3⟩) (by assumption) ?rgd3
      case ygd3 => (intro w hSw; (try dsimp only at hSw); go_simp; (try with_reducible rfl))
      (try simp only [Act.put, List.setIfInBounds_toArray, List.set_cons_zero, List.set_cons_succ])
      refine wpAnyH_take (i := 5) (oi := { dst := some 14, op := Go.Op.extract (Go.Operand.tmp 9) 0, type := 87, pos := "note.go:30", after := #[{ on := 4, ground := Go.Ground.data }], guard := none }) (v := ?vgd4) rfl (by kernel_rfl) (by kernel_rfl) (by kernel_rfl) (fun _ _ _ h => h) (Or.inl ⟨by rfl, ?ygd4⟩) (by assumption) ?rgd4
      case ygd4 => (intro w hSw; (try dsimp only at hSw); go_simp; (try with_reducible rfl))
      (try simp only [Act.put, List.setIfInBounds_toArray, List.set_cons_zero, List.set_cons_succ])
      refine wpAnyH_take (i := 6) (oi := { dst := some 15, op := Go.Op.extract (Go.Operand.tmp 9) 1, type := 4, pos := "note.go:30", after := #[{ on := 4, ground := Go.Ground.data }, { on := 7, ground := Go.Ground.gcOnly Go.Departure.lateStores }], guard := none }) (v := ?vgd5) rfl (by kernel_rfl) (by kernel_rfl) (by kernel_rfl) (fun _ _ _ h => h) (Or.inl ⟨by rfl, ?ygd5⟩) (by assumption) ?rgd5
      case ygd5 => (intro w hSw; (try dsimp only at hSw); go_simp; (try with_reducible rfl))
      (try simp only [Act.put, List.setIfInBounds_toArray, List.set_cons_zero, List.set_cons_succ])
      refine wpAnyH_take (i := 7) (oi := { dst := some 7, op := Go.Op.assign (Go.Operand.tmp 14), type := 87, pos := "note.go:30", after := #[{ on := 5, ground := Go.Ground.data }, { on := 0, ground := Go.Ground.chain }, { on := 0, ground := Go.Ground.phase }, { on := 1, ground := Go.Ground.phase }, { on := 2, ground := Go.Ground.phase }, { on := 3, ground := Go.Ground.phase }, { on := 4, ground := Go.Ground.phase }, { on := 5, ground := Go.Ground.phase }, { on := 6, ground := Go.Ground.textOnly Go.Departure.lateStores }], guard := none }) (v := ?vgd6) rfl (by kernel_rfl) (by kernel_rfl) (by kernel_rfl) (fun _ _ _ h => h) (Or.inl ⟨by rfl, ?ygd6⟩) (by assumption) ?rgd6
      case ygd6 => (intro w hSw; (try dsimp only at hSw); go_simp; (try with_reducible rfl))
      (try simp only [Act.put, List.setIfInBounds_toArray, List.set_cons_zero, List.set_cons_succ])
      refine wpAnyH_take (i := 8) (oi := { dst := some 8, op := Go.Op.assign (Go.Operand.tmp 15), type := 4, pos := "note.go:30", after := #[{ on := 6, ground := Go.Ground.data }, { on := 7, ground := Go.Ground.chain }, { on := 0, ground := Go.Ground.phase }, { on := 1, ground := Go.Ground.phase }, { on := 2, ground := Go.Ground.phase }, { on := 3, ground := Go.Ground.phase }, { on := 4, ground := Go.Ground.phase }, { on := 5, ground := Go.Ground.phase }, { on := 6, ground := Go.Ground.phase }, { on := 7, ground := Go.Ground.phase }], guard := none }) (v := ?vgd7) rfl (by kernel_rfl) (by kernel_rfl) (by kernel_rfl) (fun _ _ _ h => h) (Or.inl ⟨by rfl, ?ygd7⟩) (by assumption) ?rgd7
      case ygd7 => (intro w hSw; (try dsimp only at hSw); go_simp; (try with_reducible rfl))
      (try simp only [Act.put, List.setIfInBounds_toArray, List.set_cons_zero, List.set_cons_succ])
      refine wpAnyH_done (by kernel_rfl) ?_ _
      have HZ := Lib.hid (Z.trans (ZC.out.mono (by omega)))
      obtain ⟨_, b0, b1, b2, b3⟩ := BX.below ZC.out
      obtain ⟨a0, a1, a2, a3, a4, a5, a6⟩ := (BF.below ZC.out h2).cells
      clear HK hHeld0 hHeld hvl
      go_wp2_with fail
      refine (Tells.of (nthere_any W D J S A n c m _ hn) (v' := .bool true) (by rw [HE.out])).mono ?_
      rintro _ w1 ⟨rfl, zb⟩
      replace ZC := Lib.hid (keep_call (w2 := w0) zb ZC.out)
      clear a0 a1 a2 a3 a4 a5 a6
      obtain ⟨a0, a1, a2, a3, a4, a5, a6⟩ := (BF.below ZC.out h2).cells
      clear zb
      go_wp2_with fail
      refine (Tells.of (over_any ⟨o, p, q, v, x, y, s⟩ _) (v' := .bool true) (by rw [← HV.out])).mono ?_
      rintro _ w2 ⟨rfl, zb⟩
      replace ZC := Lib.hid (keep_call (w2 := w0) zb ZC.out)
      clear a0 a1 a2 a3 a4 a5 a6
      obtain ⟨a0, a1, a2, a3, a4, a5, a6⟩ := (BF.below ZC.out h2).cells
      clear zb
      clear HZ
      have HZ := Lib.hid (Z.trans (ZC.out.mono (by omega)))
      go_wp2
      go_ret
      exact ⟨rfl, HZ.out⟩
set_option maxRecDepth 100000 in
theorem nbump_any (e : Int) (w : World) (h : U e) : Tells 65 #[.int .u64 e] w (.tuple #[.int .u64 (nxN 6 e), .int .u64 (whN 6 e)]) := by
  have H := Lib.hid h
  obtain ⟨X, hX⟩ : ∃ X, bp e = X := ⟨_, rfl⟩
  obtain ⟨L, hL⟩ : ∃ L, lw e = L := ⟨_, rfl⟩
  obtain ⟨Y, hY⟩ : ∃ Y, whN 6 e = Y := ⟨_, rfl⟩
  have hw : IntKind.u64.wrap L = Y := by rw [IntKind.wrap_u64, ← hL, ← hY]; unfold whN; rw [if_pos rfl]
  rw [hY, show nxN 6 e = X by unfold nxN; rw [if_pos rfl]; exact hX]
  have HX := Lib.hid hX
  have HL := Lib.hid hL
  clear h hX hL hY
  go_enter Try.func65, Try.ntmps65
  go_wp2_with fail
  refine (Tells.of (bump_any e _ H.out) (v' := .tuple #[.int .u64 X, .int .i64 L]) (by rw [HX.out, HL.out])).mono ?_
  rintro _ w1 ⟨rfl, z⟩
  have Z := Lib.hid z
  clear z
  go_wp2
  refine bodyPost_ret (by simp [results, Try.results65, go_sem]; try rfl) rfl ?_
  exact ⟨rfl, Z.out⟩
set_option maxRecDepth 100000 in
theorem nwipe_any (e : Int) (w : World) (h : U e) : Tells 66 #[.int .u64 e] w (.tuple #[.int .u64 (nxN 7 e), .int .u64 (whN 7 e)]) := by
  have H := Lib.hid h
  rw [show nxN 7 e = pk (e / 65536 + 1) 0 by unfold nxN; rw [if_neg (by simp)], show whN 7 e = e % 65536 by unfold whN; rw [if_neg (by simp)]]
  clear h
  go_enter Try.func66, Try.ntmps66
  go_wp2_with fail
  refine (wipe_any e _ H.out).mono ?_
  rintro _ _ ⟨rfl, rfl⟩
  go_wp2_with fail
  refine (mask_any e _ H.out).mono ?_
  rintro _ _ ⟨rfl, rfl⟩
  go_wp2
  refine bodyPost_ret (by simp [results, Try.results66, go_sem]; try rfl) rfl ?_
  exact ⟨rfl, Below.refl _ _⟩
set_option maxRecDepth 100000 in
theorem turned_6 (e : Int) (g c : Nat) (w : World) (h : U e) (hc : w.cell? ⟨g, 0, none⟩ = some (.func (.func 65) #[] #[])) (hg : g < w.heap.size) : Tells 67 #[.int .u64 e, .slice (some ⟨g, 0, none⟩) 1 c] w (.tuple #[.int .u64 (nxN 6 e), .int .u64 (whN 6 e)]) := by
  have H := Lib.hid h
  have HC := Lib.hid hc
  obtain ⟨X, hX⟩ : ∃ X, nxN 6 e = X := ⟨_, rfl⟩
  obtain ⟨Y, hY⟩ : ∃ Y, whN 6 e = Y := ⟨_, rfl⟩
  rw [hX, hY]
  have HX := Lib.hid hX
  have HY := Lib.hid hY
  clear h hX hY hc
  go_enter Try.func67, Try.ntmps67
  go_wp2
  go_loopw [11, 4, 5] (fun i a b wr => ∃ j : Nat, i = .int .i64 j ∧ j ≤ 1 ∧ a = .int .u64 (if j = 0 then e else X) ∧ b = .int .u64 (if j = 0 then 0 else Y) ∧ Hid (Below w.heap.size w wr)) (fun i _ _ _ => 1 - (intOf i).toNat)
  case atStart => exact ⟨0, rfl, by omega, rfl, rfl, Lib.hid (Below.refl _ _)⟩
  case round =>
    obtain ⟨j, rfl, hj, rfl, rfl, Z⟩ := hrel
    by_cases hlt : j < 1
    · obtain rfl : j = 0 := by omega
      have hc := (Z.out.cell (p := ⟨g, 0, none⟩) hg).trans HC.out
      simp only [if_true]
      go_wp2_with fail
      refine (Tells.of (nbump_any e _ H.out) (v' := .tuple #[.int .u64 X, .int .u64 Y]) (by rw [HX.out, HY.out])).mono ?_
      rintro _ w1 ⟨rfl, z⟩
      replace Z := Lib.hid (Z.out.trans (z.mono Z.out.size))
      clear z hc
      go_wp2_with fail
      go_roundw
      case rel => exact ⟨1, by go_num, by omega, rfl, rfl, Z⟩
      case measure => simp [intOf]
    · obtain rfl : j = 1 := by omega
      simp only [show ¬ (1 : Nat) = 0 by omega, if_false]
      go_wp2
      refine bodyPost_ret (by simp [results, Try.results67, go_sem]; try rfl) rfl ?_
      exact ⟨rfl, Z.out⟩
set_option maxRecDepth 100000 in
theorem turned_7 (e : Int) (g c : Nat) (w : World) (h : U e) (hc : w.cell? ⟨g, 0, none⟩ = some (.func (.func 66) #[] #[])) (hg : g < w.heap.size) : Tells 67 #[.int .u64 e, .slice (some ⟨g, 0, none⟩) 1 c] w (.tuple #[.int .u64 (nxN 7 e), .int .u64 (whN 7 e)]) := by
  have H := Lib.hid h
  have HC := Lib.hid hc
  obtain ⟨X, hX⟩ : ∃ X, nxN 7 e = X := ⟨_, rfl⟩
  obtain ⟨Y, hY⟩ : ∃ Y, whN 7 e = Y := ⟨_, rfl⟩
  rw [hX, hY]
  have HX := Lib.hid hX
  have HY := Lib.hid hY
  clear h hX hY hc
  go_enter Try.func67, Try.ntmps67
  go_wp2
  go_loopw [11, 4, 5] (fun i a b wr => ∃ j : Nat, i = .int .i64 j ∧ j ≤ 1 ∧ a = .int .u64 (if j = 0 then e else X) ∧ b = .int .u64 (if j = 0 then 0 else Y) ∧ Hid (Below w.heap.size w wr)) (fun i _ _ _ => 1 - (intOf i).toNat)
  case atStart => exact ⟨0, rfl, by omega, rfl, rfl, Lib.hid (Below.refl _ _)⟩
  case round =>
    obtain ⟨j, rfl, hj, rfl, rfl, Z⟩ := hrel
    by_cases hlt : j < 1
    · obtain rfl : j = 0 := by omega
      have hc := (Z.out.cell (p := ⟨g, 0, none⟩) hg).trans HC.out
      simp only [if_true]
      go_wp2_with fail
      refine (Tells.of (nwipe_any e _ H.out) (v' := .tuple #[.int .u64 X, .int .u64 Y]) (by rw [HX.out, HY.out])).mono ?_
      rintro _ w1 ⟨rfl, z⟩
      replace Z := Lib.hid (Z.out.trans (z.mono Z.out.size))
      clear z hc
      go_wp2_with fail
      go_roundw
      case rel => exact ⟨1, by go_num, by omega, rfl, rfl, Z⟩
      case measure => simp [intOf]
    · obtain rfl : j = 1 := by omega
      simp only [show ¬ (1 : Nat) = 0 by omega, if_false]
      go_wp2
      refine bodyPost_ret (by simp [results, Try.results67, go_sem]; try rfl) rfl ?_
      exact ⟨rfl, Z.out⟩
set_option maxRecDepth 100000 in
theorem owes_over (o p q v x y s k : Int) (w : World) (e1 : (s != 0) = true) : Tells 30 #[fv ⟨o, p, q, v, x, y, s⟩, .int .i64 k] w (.bool false) := by
  have HV := Lib.hid e1
  clear e1
  go_enter Try.func30, Try.ntmps30
  go_wp2_with fail
  refine (Tells.of (over_any ⟨o, p, q, v, x, y, s⟩ _) (v' := .bool true) (by rw [← HV.out])).mono ?_
  rintro _ w1 ⟨rfl, z⟩
  have BF := Lib.hid ((Bf.new w ⟨o, p, q, v, x, y, s⟩).after z)
  obtain ⟨a0, a1, a2, a3, a4, a5, a6⟩ := BF.out.cells
  simp only at a0 a1 a2 a3 a4 a5 a6
  have Z := Lib.hid ((box_below w _).trans (z.mono (by simp)))
  clear z
  go_wp2
  go_ret
  exact ⟨rfl, Z.out⟩
set_option maxRecDepth 100000 in
theorem owes_pc (o p q v x y s k : Int) (w : World) (e1 : (s != 0) = false) (e2 : (p != 2) = true) : Tells 30 #[fv ⟨o, p, q, v, x, y, s⟩, .int .i64 k] w (.bool false) := by
  have HV := Lib.hid e1
  clear e1
  go_enter Try.func30, Try.ntmps30
  go_wp2_with fail
  refine (Tells.of (over_any ⟨o, p, q, v, x, y, s⟩ _) (v' := .bool false) (by rw [← HV.out])).mono ?_
  rintro _ w1 ⟨rfl, z⟩
  have BF := Lib.hid ((Bf.new w ⟨o, p, q, v, x, y, s⟩).after z)
  obtain ⟨a0, a1, a2, a3, a4, a5, a6⟩ := BF.out.cells
  simp only at a0 a1 a2 a3 a4 a5 a6
  have Z := Lib.hid ((box_below w _).trans (z.mono (by simp)))
  clear z
  go_wp2
  go_ret
  exact ⟨rfl, Z.out⟩
set_option maxRecDepth 100000 in
theorem owes_in (o p q v x y s k : Int) (w : World) (e1 : (s != 0) = false) (e2 : (p != 2) = false) (e3 : (decide (0 ≤ k) && decide (k < 16)) = false) : Tells 30 #[fv ⟨o, p, q, v, x, y, s⟩, .int .i64 k] w (.bool false) := by
  have HV := Lib.hid e1
  clear e1
  go_enter Try.func30, Try.ntmps30
  go_wp2_with fail
  refine (Tells.of (over_any ⟨o, p, q, v, x, y, s⟩ _) (v' := .bool false) (by rw [← HV.out])).mono ?_
  rintro _ w1 ⟨rfl, z⟩
  have BF := Lib.hid ((Bf.new w ⟨o, p, q, v, x, y, s⟩).after z)
  obtain ⟨a0, a1, a2, a3, a4, a5, a6⟩ := BF.out.cells
  simp only at a0 a1 a2 a3 a4 a5 a6
  have Z := Lib.hid ((box_below w _).trans (z.mono (by simp)))
  clear z
  go_wp2_with fail
  refine (nwithin_any _ _ _).mono ?_
  rintro _ _ ⟨rfl, rfl⟩
  go_wp2
  go_ret
  exact ⟨rfl, Z.out⟩
set_option maxRecDepth 100000 in
theorem owes_6 (o p q v x y s k : Int) (w : World) (e1 : (s != 0) = false) (e2 : (p != 2) = false) (e3 : (decide (0 ≤ k) && decide (k < 16)) = true) (e4 : (o == 6) = true) : Tells 30 #[fv ⟨o, p, q, v, x, y, s⟩, .int .i64 k] w (.bool (y == k)) := by
  have hwk : IntKind.u64.wrap k = k := by simp at e3; rw [IntKind.wrap_u64]; omega
  have HV := Lib.hid e1
  clear e1
  go_enter Try.func30, Try.ntmps30
  go_wp2_with fail
  refine (Tells.of (over_any ⟨o, p, q, v, x, y, s⟩ _) (v' := .bool false) (by rw [← HV.out])).mono ?_
  rintro _ w1 ⟨rfl, z⟩
  have BF := Lib.hid ((Bf.new w ⟨o, p, q, v, x, y, s⟩).after z)
  obtain ⟨a0, a1, a2, a3, a4, a5, a6⟩ := BF.out.cells
  simp only at a0 a1 a2 a3 a4 a5 a6
  have Z := Lib.hid ((box_below w _).trans (z.mono (by simp)))
  clear z
  go_wp2_with fail
  refine (nwithin_any _ _ _).mono ?_
  rintro _ _ ⟨rfl, rfl⟩
  go_wp2
  go_ret
  exact ⟨rfl, Z.out⟩
set_option maxRecDepth 100000 in
theorem owes_7 (o p q v x y s k : Int) (w : World) (hy : U y) (e1 : (s != 0) = false) (e2 : (p != 2) = false) (e3 : (decide (0 ≤ k) && decide (k < 16)) = true) (e4 : (o == 6) = false) (e5 : (o == 7) = true) : Tells 30 #[fv ⟨o, p, q, v, x, y, s⟩, .int .i64 k] w (.bool (st y k == y)) := by
  have HY := Lib.hid hy
  clear hy
  have HV := Lib.hid e1
  clear e1
  go_enter Try.func30, Try.ntmps30
  go_wp2_with fail
  refine (Tells.of (over_any ⟨o, p, q, v, x, y, s⟩ _) (v' := .bool false) (by rw [← HV.out])).mono ?_
  rintro _ w1 ⟨rfl, z⟩
  have BF := Lib.hid ((Bf.new w ⟨o, p, q, v, x, y, s⟩).after z)
  obtain ⟨a0, a1, a2, a3, a4, a5, a6⟩ := BF.out.cells
  simp only at a0 a1 a2 a3 a4 a5 a6
  have Z := Lib.hid ((box_below w _).trans (z.mono (by simp)))
  clear z
  go_wp2_with fail
  refine (nwithin_any _ _ _).mono ?_
  rintro _ w9 ⟨rfl, hw9⟩
  subst hw9
  go_upto_region 7 with fail
  have HK := Lib.hid (show ∀ x', Below w9.heap.size w9 x' → (fun w' => w'.cell? ⟨w.heap.size, 5, none⟩ = some (.int .u64 y) ∧ Below w9.heap.size w9 w') x' from fun x' hx => ⟨(BF.out.after hx).cells.2.2.2.2.2.1, hx⟩)
  have hHeld0 := HK.out _ (Below.refl _ _)
  have ZC := Lib.hid (Below.refl w9.heap.size w9).drew
  go_region_held3 (fun w' => w'.cell? ⟨w.heap.size, 5, none⟩ = some (.int .u64 y) ∧ Below w9.heap.size w9 w')
    (first | with_reducible exact hd_drew HK.out (fun _ h => h.2) (by assumption) | with_reducible exact hd_call HK.out (fun _ h => h.2) (by assumption) (by assumption) (Nat.le_refl _))
    (first | (go_at_call 47; (refine (set_any y k _ HY.out).tells.mono ?_); rintro _ w2 ⟨rfl, hb⟩; replace ZC := Lib.hid (keep_call (w2 := w9) hb ZC.out)))
  all_goals
    replace Z := Lib.hid (Z.out.trans (ZC.out.mono Z.out.size))
    go_wp2
    go_ret
    exact ⟨rfl, Z.out⟩
set_option maxRecDepth 100000 in
theorem owes_no (o p q v x y s k : Int) (w : World) (e1 : (s != 0) = false) (e2 : (p != 2) = false) (e3 : (decide (0 ≤ k) && decide (k < 16)) = true) (e4 : (o == 6) = false) (e5 : (o == 7) = false) : Tells 30 #[fv ⟨o, p, q, v, x, y, s⟩, .int .i64 k] w (.bool false) := by
  have HV := Lib.hid e1
  clear e1
  go_enter Try.func30, Try.ntmps30
  go_wp2_with fail
  refine (Tells.of (over_any ⟨o, p, q, v, x, y, s⟩ _) (v' := .bool false) (by rw [← HV.out])).mono ?_
  rintro _ w1 ⟨rfl, z⟩
  have BF := Lib.hid ((Bf.new w ⟨o, p, q, v, x, y, s⟩).after z)
  obtain ⟨a0, a1, a2, a3, a4, a5, a6⟩ := BF.out.cells
  simp only at a0 a1 a2 a3 a4 a5 a6
  have Z := Lib.hid ((box_below w _).trans (z.mono (by simp)))
  clear z
  go_wp2_with fail
  refine (nwithin_any _ _ _).mono ?_
  rintro _ _ ⟨rfl, rfl⟩
  go_wp2
  go_ret
  exact ⟨rfl, Z.out⟩
set_option maxRecDepth 100000 in
theorem owes_any (f : Fr) (k : Int) (w : World) (hf : UF f) : Tells 30 #[fv f, .int .i64 k] w (.bool (owesN f k)) := by
  obtain ⟨o, p, q, v, x, y, s⟩ := f
  have hy : U y := hf.2.2
  have e0 : owesN ⟨o, p, q, v, x, y, s⟩ k = (!(s != 0) && !(p != 2) && (decide (0 ≤ k) && decide (k < 16)) && (if (o == 6) = true then y == k else if (o == 7) = true then st y k == y else false)) := by
    unfold owesN
    simp only [beq_iff_eq]
    rw [show decide (s = 0) = !(s != 0) by rw [Bool.eq_iff_iff]; simp, show decide (p = 2) = !(p != 2) by rw [Bool.eq_iff_iff]; simp]
  rw [e0]
  clear e0 hf
  cases e1 : (s != 0)
  · cases e2 : (p != 2)
    · cases e3 : (decide (0 ≤ k) && decide (k < 16))
      · exact owes_in o p q v x y s k w e1 e2 e3
      · cases e4 : (o == 6)
        · cases e5 : (o == 7)
          · exact owes_no o p q v x y s k w e1 e2 e3 e4 e5
          · exact Tells.of (owes_7 o p q v x y s k w hy e1 e2 e3 e4 e5) (by simp)
        · exact Tells.of (owes_6 o p q v x y s k w e1 e2 e3 e4) (by simp)
    · exact owes_pc o p q v x y s k w e1 e2
  · exact owes_over o p q v x y s k w e1
end Go.Proofs.Ytgemaeibmgkneaa
