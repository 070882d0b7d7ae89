/- Merged: NtA, NtB. -/
import Derived.Test.YtlpkccpijloidaaGreatWtX
import Derived.Test.YtlpkccpijloidaaGreatPu0
import Derived.Test.YtlpkccpijloidaaGreatPuG2
import Derived.Test.YtlpkccpijloidaaGreatFr0
import Derived.Test.YtlpkccpijloidaaGreatWo2
import Derived.MapKept
import Derived.Carry
import Derived.IntWalk
import Derived.Deep.RegionHeld3
import Derived.Deep.CutRange
import Derived.Deep.DeepCutAuto
import Derived.Test.YtlpkccpijloidaaGreatPuA2
import Derived.Test.YtlpkccpijloidaaGreatNxA
import Derived.BigQuiet
namespace Go.Proofs.YtlpkccpijloidaaGreat
set_option linter.unusedSimpArgs false
set_option maxRecDepth 100000
open Go.RowKit Go.Deep
theorem nt_underlying : Tryz.prog.underlying 134 = some (.map 3 132) := by kernel_rfl
theorem nt_int : Tryz.prog.underlying 3 = some (.int .i64) := by kernel_rfl
theorem nt_zero (w : World) : (zeroValue 132).run Tryz.prog w = .ok .nilFunc w := by kernel_rfl
/-- The map of what stands in the event's place, entry by entry. -/
def mp1 : Array MapEntry := #[⟨.int .i64 6, .func (.func 157) #[] #[], 0⟩]
def mp2 : Array MapEntry := #[⟨.int .i64 6, .func (.func 157) #[] #[], 0⟩, ⟨.int .i64 7, .func (.func 158) #[] #[], 1⟩]
theorem set_last (w : World) (o p : Obj) : { w.alloc o with heap := (w.alloc o).heap.setIfInBounds w.heap.size p } = w.alloc p := by
  show World.mk ((w.heap.push o).setIfInBounds w.heap.size p) _ _ _ _ = World.mk (w.heap.push p) _ _ _ _
  congr 1
  apply Array.toList_inj.1
  simp
theorem run_ins {w : World} {es : Array MapEntry} {clock : Nat} {k : Int} (v : Value) (hf : Instr.findNow (.int .i64) (.int .i64 k) es.toList 0 = some none) :
    (Instr.mapUpdate 134 (.map (some w.heap.size)) (.int .i64 k) v).run Tryz.prog (w.alloc (.map es clock)) = .ok () (w.alloc (.map (es.push ⟨.int .i64 k, v, clock⟩) (clock + 1))) := by
  have hb : (w.alloc (.map es clock)).heap[w.heap.size]? = some (.map es clock) := heap_alloc_new _ _
  have e := set_last w (.map es clock) (.map (es.push ⟨.int .i64 k, v, clock⟩) (clock + 1))
  have hk : MapKept.IsKey (.int .i64) (.int .i64 k) := rfl
  simp [Instr.mapUpdate, run_underlying nt_underlying, MapKept.run_getObj_map hb, MapKept.run_checkKey nt_int hk, MapKept.run_findKey nt_int hf, MapKept.run_setObj_map _ hb, Result.andThen]
  exact e
theorem run_ins6 (w : World) : (Instr.mapUpdate 134 (.map (some w.heap.size)) (.int .i64 6) (.func (.func 157) #[] #[])).run Tryz.prog (w.alloc (.map #[] 0)) = .ok () (w.alloc (.map mp1 1)) := run_ins _ rfl
theorem run_ins7 (w : World) : (Instr.mapUpdate 134 (.map (some w.heap.size)) (.int .i64 7) (.func (.func 158) #[] #[])).run Tryz.prog (w.alloc (.map mp1 1)) = .ok () (w.alloc (.map mp2 2)) := run_ins _ rfl
/-- The map lies in block b. -/
def Mp (w : World) (b : Nat) : Prop := w.heap[b]? = some (.map mp2 2)
theorem nturns_any (w : World) : Calls Tryz.prog 117 #[] w fun e w' => ∃ b, e = .returned (.map (some b)) ∧ Mp w' b ∧ Below w.heap.size w w' := by
  have h0 := @run_makeMap Tryz.prog
  have h1 := run_ins6 w
  have h2 := run_ins7 w
  go_enter Tryz.func117, Tryz.ntmps117
  go_wp2
  go_ret
  exact ⟨_, rfl, heap_alloc_new _ _, bel_alloc w _⟩
theorem run_look {w : World} {b : Nat} (h : Mp w b) {k : Int} {i : Nat} {v : Value} (hf : Instr.findNow (.int .i64) (.int .i64 k) mp2.toList 0 = some (some (i, v))) (c : Bool) :
    (Instr.lookup 134 (.map (some b)) (.int .i64 k) c).run Tryz.prog w = .ok (if c then .tuple #[v, .bool true] else v) w := by
  have hk : MapKept.IsKey (.int .i64) (.int .i64 k) := rfl
  simp [Instr.lookup, run_underlying nt_underlying, MapKept.run_getObj_map h, MapKept.run_checkKey nt_int hk, MapKept.run_findKey nt_int hf, Result.andThen]
theorem run_look_no {w : World} {b : Nat} (h : Mp w b) {k : Int} (hf : Instr.findNow (.int .i64) (.int .i64 k) mp2.toList 0 = some none) :
    ∃ v, (Instr.lookup 134 (.map (some b)) (.int .i64 k) true).run Tryz.prog w = .ok (.tuple #[v, .bool false]) w := by
  have hk : MapKept.IsKey (.int .i64) (.int .i64 k) := rfl
  refine ⟨.nilFunc, ?_⟩
  have e := nt_zero w
  simp [Instr.lookup, run_underlying nt_underlying, MapKept.run_getObj_map h, MapKept.run_checkKey nt_int hk, MapKept.run_findKey nt_int hf, Result.andThen, e]
theorem run_look_any {w : World} {b : Nat} (h : Mp w b) (o : Int) (k : Bool) (hk : (decide (o = 6) || decide (o = 7)) = k) : ∃ v, (Instr.lookup 134 (.map (some b)) (.int .i64 o) true).run Tryz.prog w = .ok (.tuple #[v, .bool k]) w := by
  subst hk
  by_cases h6 : o = 6
  · subst h6; exact ⟨_, run_look h rfl true⟩
  · by_cases h7 : o = 7
    · subst h7; exact ⟨_, run_look h rfl true⟩
    · rw [decide_eq_false h6, decide_eq_false h7]
      refine run_look_no h ?_
      have e6 : (o == (6 : Int)) = false := by simpa using h6
      have e7 : (o == (7 : Int)) = false := by simpa using h7
      simp [mp2, Instr.findNow, Instr.sameNow, e6, e7]
theorem nwithin_any (n k : Int) (w : World) : Gives 119 #[.int .i64 n, .int .i64 k] w (.bool (decide (0 ≤ n) && decide (n < k))) := by
  by_cases h1 : 0 ≤ n
  · rw [show (decide (0 ≤ n) && decide (n < k)) = decide (n < k) by simp [h1]]
    go_enter Tryz.func119, Tryz.ntmps119
    go_wp2
    go_ret
    exact ⟨rfl, rfl⟩
  · rw [show (decide (0 ≤ n) && decide (n < k)) = false by simp [h1]]
    go_enter Tryz.func119, Tryz.ntmps119
    go_wp2
    go_ret
    exact ⟨rfl, rfl⟩
theorem nthere_any (W D J S : Int) (A : Option Addr) (n c : Nat) (m : List Int) (w : World) (hn : m.length = n) : Tells 118 #[cf W D J S, .slice A n c] w (.bool (okm W D J S m)) := by
  have hs : ((n : Int) == sz W D J S) = decide ((m.length : Int) = sz W D J S) := by rw [hn]; exact Bool.eq_iff_iff.2 (by simp)
  unfold okm
  cases h1 : may W D J S
  · have HM := Lib.hid h1
    rw [show (false && decide ((m.length : Int) = sz W D J S)) = false by simp]
    clear h1 hs hn
    go_enter Tryz.func118, Tryz.ntmps118
    go_wp2_with fail
    refine (Tells.of (may_any W D J S _) (v' := .bool false) (by rw [HM.out])).mono ?_
    rintro _ w1 ⟨rfl, z1⟩
    have HZ := Lib.hid ((box_below w _).trans (z1.mono (by simp)))
    clear z1
    go_wp2
    go_ret
    exact ⟨rfl, HZ.out⟩
  · have HM := Lib.hid h1
    have hz : sz W D J S = bg D J W := by unfold sz; rw [h1]; rfl
    rw [hz] at hs
    have HZ0 := Lib.hid h1
    rw [hz, show (true && decide ((m.length : Int) = bg D J W)) = ((n : Int) == bg D J W) by rw [hs]; simp]
    clear h1 hz hn hs
    go_enter Tryz.func118, Tryz.ntmps118
    go_wp2_with fail
    refine (Tells.of (may_any W D J S _) (v' := .bool true) (by rw [HM.out])).mono ?_
    rintro _ w1 ⟨rfl, z1⟩
    have HZ := Lib.hid ((box_below w _).trans (z1.mono (by simp)))
    obtain ⟨g0, c0, c1, c2, c3⟩ := (Bx.mk w W D J S 23).below z1
    clear z1
    go_wp2_with fail
    refine (size_yes W D J S _ HZ0.out).mono ?_
    rintro _ w2 ⟨rfl, z2⟩
    have HZ2 := Lib.hid (HZ.out.trans (z2.mono HZ.out.size))
    clear z2
    go_wp2
    go_ret
    exact ⟨rfl, HZ2.out⟩
theorem ngoes_any (W D J S : Int) (A : Option Addr) (n c : Nat) (m : List Int) (f : Fr) (w : World) (hn : m.length = n) : Tells 102 #[cf W D J S, .slice A n c, fv f] w (.bool (goesN W D J S m f)) := by
  obtain ⟨BX, BF, Z, hz⟩ := boxes2 w W D J S f
  have h1 : w.heap.size < (bxc w W D J S f).heap.size := by omega
  have h2 : w.heap.size + 1 < (bxc w W D J S f).heap.size := by omega
  obtain ⟨o, p, q, v, x, y, s⟩ := f
  have hV : goesN W D J S m ⟨o, p, q, v, x, y, s⟩ = (okm W D J S m && !(s != 0) && (decide (o = 6) || decide (o = 7)) && (decide (0 ≤ p) && decide (p < 3))) := by
    unfold goesN
    rw [show decide (s = 0) = !(s != 0) by rw [Bool.eq_iff_iff]; simp]
    simp only [Bool.and_assoc]
  rw [hV]
  clear hV
  cases e1 : okm W D J S m
  · obtain ⟨k2, e2⟩ : ∃ k, (s != 0) = k := ⟨_, rfl⟩
    obtain ⟨k3, e3⟩ : ∃ k, (decide (o = 6) || decide (o = 7)) = k := ⟨_, rfl⟩
    rw [show (false && !(s != 0) && (decide (o = 6) || decide (o = 7)) && (decide (0 ≤ p) && decide (p < 3))) = false by simp]
    have HE := Lib.hid e1
    have HV := Lib.hid e2
    have HO := Lib.hid e3
    clear e1 e2 e3
    go_enter Tryz.func102, Tryz.ntmps102
    go_upto_region 1 with fail
    change Code.wp _ _ _ _ (bxc w W D J S ⟨o, p, q, v, x, y, s⟩)
    generalize bxc w W D J S ⟨o, p, q, v, x, y, s⟩ = w0 at BX BF Z hz h1 h2 ⊢
    have HK := Lib.hid (show ∀ x', Below w0.heap.size w0 x' → (fun w' => w'.cell? ⟨w.heap.size + 1, 0, none⟩ = some (.int .i64 o) ∧ Below w0.heap.size w0 w') x' from fun x' hx => ⟨(BF.below hx h2).cells.1, hx⟩)
    have hHeld0 := HK.out _ (Below.refl _ _)
    have ZC := Lib.hid (Below.refl w0.heap.size w0).drew
    refine wp_region_held_drew (S := fun w' => w'.cell? ⟨w.heap.size + 1, 0, none⟩ = some (.int .i64 o) ∧ Below w0.heap.size w0 w') (by kernel_rfl) (hd_drew HK.out (fun _ h => h.2) hHeld0) (fun hHeld => ?_)
    refine tkH 1 (v := ?vga1) rfl ?yga1 ?rga1
    case yga1 => (intro w hSw; (try dsimp only at hSw); go_simp; (try with_reducible rfl))
    (try simp only [Act.put, jA, jB, jC])
    refine tkH 2 (v := ?vga2) rfl ?yga2 ?rga2
    case yga2 => (intro w hSw; (try dsimp only at hSw); go_simp; (try with_reducible rfl))
    (try simp only [Act.put, jA, jB, jC])
    refine wpAnyH_ready (rs := [0]) (by kernel_rfl) (by simp) ?_
    refine (AllReadyH.cons rfl (fun K hK => ?_) AllReadyH.nil)
    go_simp
    refine (nturns_any _).mono ?_
    rintro e wx ⟨b, rfl, hmp, zb⟩
    go_wp2_with fail
    replace ZC := Lib.hid (keep_call (w2 := w0) zb ZC.out)
    obtain ⟨vl, hvl⟩ := run_look_any hmp o k3 HO.out
    clear hmp zb
    refine hK.out _ _ (HK.out _ ZC.out) (fun hHeld2 => ?_)
    clear hK K hHeld
    have hHeld := hHeld2
    clear hHeld2
    (try simp only [Act.put, jA, jB, jC])
    refine wpAnyH_ready (rs := [3]) (by kernel_rfl) (by simp) ?_
    refine (AllReadyH.cons rfl (fun K hK => ?_) AllReadyH.nil)
    go_simp
    refine hK.out _ _ (hHeld) (fun hHeld2 => ?_)
    clear hK K hHeld
    have hHeld := hHeld2
    clear hHeld2
    (try simp only [Act.put, jA, jB, jC])
    refine tkH 4 (v := ?vga3) rfl ?yga3 ?rga3
    case yga3 => (intro w hSw; (try dsimp only at hSw); go_simp; (try with_reducible rfl))
    (try simp only [Act.put, jA, jB, jC])
    refine tkH 5 (v := ?vga4) rfl ?yga4 ?rga4
    case yga4 => (intro w hSw; (try dsimp only at hSw); go_simp; (try with_reducible rfl))
    (try simp only [Act.put, jA, jB, jC])
    refine tkH 6 (v := ?vga5) rfl ?yga5 ?rga5
    case yga5 => (intro w hSw; (try dsimp only at hSw); go_simp; (try with_reducible rfl))
    (try simp only [Act.put, jA, jB, jC])
    refine tkH 7 (v := ?vga6) rfl ?yga6 ?rga6
    case yga6 => (intro w hSw; (try dsimp only at hSw); go_simp; (try with_reducible rfl))
    (try simp only [Act.put, jA, jB, jC])
    refine tkH 8 (v := ?vga7) rfl ?yga7 ?rga7
    case yga7 => (intro w hSw; (try dsimp only at hSw); go_simp; (try with_reducible rfl))
    (try simp only [Act.put, jA, jB, jC])
    refine wpAnyH_done (by kernel_rfl) ?_ _
    have HZ := Lib.hid (Z.trans (ZC.out.mono (by omega)))
    obtain ⟨_, b0, b1, b2, b3⟩ := BX.below ZC.out
    obtain ⟨a0, a1, a2, a3, a4, a5, a6⟩ := (BF.below ZC.out h2).cells
    clear HK hHeld0 hHeld hvl
    go_wp2_with fail
    refine (Tells.of (nthere_any W D J S A n c m _ hn) (v' := .bool false) (by rw [HE.out])).mono ?_
    rintro _ w1 ⟨rfl, zb⟩
    replace ZC := Lib.hid (keep_call (w2 := w0) zb ZC.out)
    clear a0 a1 a2 a3 a4 a5 a6
    obtain ⟨a0, a1, a2, a3, a4, a5, a6⟩ := (BF.below ZC.out h2).cells
    clear zb
    clear HZ
    have HZ := Lib.hid (Z.trans (ZC.out.mono (by omega)))
    go_wp2
    go_ret
    exact ⟨rfl, HZ.out⟩
  · cases e2 : (s != 0)
    · cases e3 : (decide (o = 6) || decide (o = 7))
      · rw [show (true && !false && false && (decide (0 ≤ p) && decide (p < 3))) = false by simp]
        have HE := Lib.hid e1
        have HV := Lib.hid e2
        have HO := Lib.hid e3
        clear e1 e2 e3
        go_enter Tryz.func102, Tryz.ntmps102
        go_upto_region 1 with fail
        change Code.wp _ _ _ _ (bxc w W D J S ⟨o, p, q, v, x, y, s⟩)
        generalize bxc w W D J S ⟨o, p, q, v, x, y, s⟩ = w0 at BX BF Z hz h1 h2 ⊢
        have HK := Lib.hid (show ∀ x', Below w0.heap.size w0 x' → (fun w' => w'.cell? ⟨w.heap.size + 1, 0, none⟩ = some (.int .i64 o) ∧ Below w0.heap.size w0 w') x' from fun x' hx => ⟨(BF.below hx h2).cells.1, hx⟩)
        have hHeld0 := HK.out _ (Below.refl _ _)
        have ZC := Lib.hid (Below.refl w0.heap.size w0).drew
        refine wp_region_held_drew (S := fun w' => w'.cell? ⟨w.heap.size + 1, 0, none⟩ = some (.int .i64 o) ∧ Below w0.heap.size w0 w') (by kernel_rfl) (hd_drew HK.out (fun _ h => h.2) hHeld0) (fun hHeld => ?_)
        refine tkH 1 (v := ?vgb1) rfl ?ygb1 ?rgb1
        case ygb1 => (intro w hSw; (try dsimp only at hSw); go_simp; (try with_reducible rfl))
        (try simp only [Act.put, jA, jB, jC])
        refine tkH 2 (v := ?vgb2) rfl ?ygb2 ?rgb2
        case ygb2 => (intro w hSw; (try dsimp only at hSw); go_simp; (try with_reducible rfl))
        (try simp only [Act.put, jA, jB, jC])
        refine wpAnyH_ready (rs := [0]) (by kernel_rfl) (by simp) ?_
        refine (AllReadyH.cons rfl (fun K hK => ?_) AllReadyH.nil)
        go_simp
        refine (nturns_any _).mono ?_
        rintro e wx ⟨b, rfl, hmp, zb⟩
        go_wp2_with fail
        replace ZC := Lib.hid (keep_call (w2 := w0) zb ZC.out)
        obtain ⟨vl, hvl⟩ := run_look_any hmp o false HO.out
        clear hmp zb
        refine hK.out _ _ (HK.out _ ZC.out) (fun hHeld2 => ?_)
        clear hK K hHeld
        have hHeld := hHeld2
        clear hHeld2
        (try simp only [Act.put, jA, jB, jC])
        refine wpAnyH_ready (rs := [3]) (by kernel_rfl) (by simp) ?_
        refine (AllReadyH.cons rfl (fun K hK => ?_) AllReadyH.nil)
        go_simp
        refine hK.out _ _ (hHeld) (fun hHeld2 => ?_)
        clear hK K hHeld
        have hHeld := hHeld2
        clear hHeld2
        (try simp only [Act.put, jA, jB, jC])
        refine tkH 4 (v := ?vgb3) rfl ?ygb3 ?rgb3
        case ygb3 => (intro w hSw; (try dsimp only at hSw); go_simp; (try with_reducible rfl))
        (try simp only [Act.put, jA, jB, jC])
        refine tkH 5 (v := ?vgb4) rfl ?ygb4 ?rgb4
        case ygb4 => (intro w hSw; (try dsimp only at hSw); go_simp; (try with_reducible rfl))
        (try simp only [Act.put, jA, jB, jC])
        refine tkH 6 (v := ?vgb5) rfl ?ygb5 ?rgb5
        case ygb5 => (intro w hSw; (try dsimp only at hSw); go_simp; (try with_reducible rfl))
        (try simp only [Act.put, jA, jB, jC])
        refine tkH 7 (v := ?vgb6) rfl ?ygb6 ?rgb6
        case ygb6 => (intro w hSw; (try dsimp only at hSw); go_simp; (try with_reducible rfl))
        (try simp only [Act.put, jA, jB, jC])
        refine tkH 8 (v := ?vgb7) rfl ?ygb7 ?rgb7
        case ygb7 => (intro w hSw; (try dsimp only at hSw); go_simp; (try with_reducible rfl))
        (try simp only [Act.put, jA, jB, jC])
        refine wpAnyH_done (by kernel_rfl) ?_ _
        have HZ := Lib.hid (Z.trans (ZC.out.mono (by omega)))
        obtain ⟨_, b0, b1, b2, b3⟩ := BX.below ZC.out
        obtain ⟨a0, a1, a2, a3, a4, a5, a6⟩ := (BF.below ZC.out h2).cells
        clear HK hHeld0 hHeld hvl
        go_wp2_with fail
        refine (Tells.of (nthere_any W D J S A n c m _ hn) (v' := .bool true) (by rw [HE.out])).mono ?_
        rintro _ w1 ⟨rfl, zb⟩
        replace ZC := Lib.hid (keep_call (w2 := w0) zb ZC.out)
        clear a0 a1 a2 a3 a4 a5 a6
        obtain ⟨a0, a1, a2, a3, a4, a5, a6⟩ := (BF.below ZC.out h2).cells
        clear zb
        go_wp2_with fail
        refine (Tells.of (over_any ⟨o, p, q, v, x, y, s⟩ _) (v' := .bool false) (by rw [← HV.out])).mono ?_
        rintro _ w2 ⟨rfl, zb⟩
        replace ZC := Lib.hid (keep_call (w2 := w0) zb ZC.out)
        clear a0 a1 a2 a3 a4 a5 a6
        obtain ⟨a0, a1, a2, a3, a4, a5, a6⟩ := (BF.below ZC.out h2).cells
        clear zb
        clear HZ
        have HZ := Lib.hid (Z.trans (ZC.out.mono (by omega)))
        go_wp2
        go_ret
        exact ⟨rfl, HZ.out⟩
      · rw [show (true && !false && true && (decide (0 ≤ p) && decide (p < 3))) = (decide (0 ≤ p) && decide (p < 3)) by simp]
        have HE := Lib.hid e1
        have HV := Lib.hid e2
        have HO := Lib.hid e3
        clear e1 e2 e3
        go_enter Tryz.func102, Tryz.ntmps102
        go_upto_region 1 with fail
        change Code.wp _ _ _ _ (bxc w W D J S ⟨o, p, q, v, x, y, s⟩)
        generalize bxc w W D J S ⟨o, p, q, v, x, y, s⟩ = w0 at BX BF Z hz h1 h2 ⊢
        have HK := Lib.hid (show ∀ x', Below w0.heap.size w0 x' → (fun w' => w'.cell? ⟨w.heap.size + 1, 0, none⟩ = some (.int .i64 o) ∧ Below w0.heap.size w0 w') x' from fun x' hx => ⟨(BF.below hx h2).cells.1, hx⟩)
        have hHeld0 := HK.out _ (Below.refl _ _)
        have ZC := Lib.hid (Below.refl w0.heap.size w0).drew
        refine wp_region_held_drew (S := fun w' => w'.cell? ⟨w.heap.size + 1, 0, none⟩ = some (.int .i64 o) ∧ Below w0.heap.size w0 w') (by kernel_rfl) (hd_drew HK.out (fun _ h => h.2) hHeld0) (fun hHeld => ?_)
        refine tkH 1 (v := ?vgc1) rfl ?ygc1 ?rgc1
        case ygc1 => (intro w hSw; (try dsimp only at hSw); go_simp; (try with_reducible rfl))
        (try simp only [Act.put, jA, jB, jC])
        refine tkH 2 (v := ?vgc2) rfl ?ygc2 ?rgc2
        case ygc2 => (intro w hSw; (try dsimp only at hSw); go_simp; (try with_reducible rfl))
        (try simp only [Act.put, jA, jB, jC])
        refine wpAnyH_ready (rs := [0]) (by kernel_rfl) (by simp) ?_
        refine (AllReadyH.cons rfl (fun K hK => ?_) AllReadyH.nil)
        go_simp
        refine (nturns_any _).mono ?_
        rintro e wx ⟨b, rfl, hmp, zb⟩
        go_wp2_with fail
        replace ZC := Lib.hid (keep_call (w2 := w0) zb ZC.out)
        obtain ⟨vl, hvl⟩ := run_look_any hmp o true HO.out
        clear hmp zb
        refine hK.out _ _ (HK.out _ ZC.out) (fun hHeld2 => ?_)
        clear hK K hHeld
        have hHeld := hHeld2
        clear hHeld2
        (try simp only [Act.put, jA, jB, jC])
        refine wpAnyH_ready (rs := [3]) (by kernel_rfl) (by simp) ?_
        refine (AllReadyH.cons rfl (fun K hK => ?_) AllReadyH.nil)
        go_simp
        refine hK.out _ _ (hHeld) (fun hHeld2 => ?_)
        clear hK K hHeld
        have hHeld := hHeld2
        clear hHeld2
        (try simp only [Act.put, jA, jB, jC])
        refine tkH 4 (v := ?vgc3) rfl ?ygc3 ?rgc3
        case ygc3 => (intro w hSw; (try dsimp only at hSw); go_simp; (try with_reducible rfl))
        (try simp only [Act.put, jA, jB, jC])
        refine tkH 5 (v := ?vgc4) rfl ?ygc4 ?rgc4
        case ygc4 => (intro w hSw; (try dsimp only at hSw); go_simp; (try with_reducible rfl))
        (try simp only [Act.put, jA, jB, jC])
        refine tkH 6 (v := ?vgc5) rfl ?ygc5 ?rgc5
        case ygc5 => (intro w hSw; (try dsimp only at hSw); go_simp; (try with_reducible rfl))
        (try simp only [Act.put, jA, jB, jC])
        refine tkH 7 (v := ?vgc6) rfl ?ygc6 ?rgc6
        case ygc6 => (intro w hSw; (try dsimp only at hSw); go_simp; (try with_reducible rfl))
        (try simp only [Act.put, jA, jB, jC])
        refine tkH 8 (v := ?vgc7) rfl ?ygc7 ?rgc7
        case ygc7 => (intro w hSw; (try dsimp only at hSw); go_simp; (try with_reducible rfl))
        (try simp only [Act.put, jA, jB, jC])
        refine wpAnyH_done (by kernel_rfl) ?_ _
        have HZ := Lib.hid (Z.trans (ZC.out.mono (by omega)))
        obtain ⟨_, b0, b1, b2, b3⟩ := BX.below ZC.out
        obtain ⟨a0, a1, a2, a3, a4, a5, a6⟩ := (BF.below ZC.out h2).cells
        clear HK hHeld0 hHeld hvl
        go_wp2_with fail
        refine (Tells.of (nthere_any W D J S A n c m _ hn) (v' := .bool true) (by rw [HE.out])).mono ?_
        rintro _ w1 ⟨rfl, zb⟩
        replace ZC := Lib.hid (keep_call (w2 := w0) zb ZC.out)
        clear a0 a1 a2 a3 a4 a5 a6
        obtain ⟨a0, a1, a2, a3, a4, a5, a6⟩ := (BF.below ZC.out h2).cells
        clear zb
        go_wp2_with fail
        refine (Tells.of (over_any ⟨o, p, q, v, x, y, s⟩ _) (v' := .bool false) (by rw [← HV.out])).mono ?_
        rintro _ w2 ⟨rfl, zb⟩
        replace ZC := Lib.hid (keep_call (w2 := w0) zb ZC.out)
        clear a0 a1 a2 a3 a4 a5 a6
        obtain ⟨a0, a1, a2, a3, a4, a5, a6⟩ := (BF.below ZC.out h2).cells
        clear zb
        go_wp2_with fail
        refine (nwithin_any _ _ _).mono ?_
        rintro _ _ ⟨rfl, rfl⟩
        clear HZ
        have HZ := Lib.hid (Z.trans (ZC.out.mono (by omega)))
        go_wp2
        go_ret
        exact ⟨rfl, HZ.out⟩
    · obtain ⟨k3, e3⟩ : ∃ k, (decide (o = 6) || decide (o = 7)) = k := ⟨_, rfl⟩
      rw [show (true && !true && (decide (o = 6) || decide (o = 7)) && (decide (0 ≤ p) && decide (p < 3))) = false by simp]
      have HE := Lib.hid e1
      have HV := Lib.hid e2
      have HO := Lib.hid e3
      clear e1 e2 e3
      go_enter Tryz.func102, Tryz.ntmps102
      go_upto_region 1 with fail
      change Code.wp _ _ _ _ (bxc w W D J S ⟨o, p, q, v, x, y, s⟩)
      generalize bxc w W D J S ⟨o, p, q, v, x, y, s⟩ = w0 at BX BF Z hz h1 h2 ⊢
      have HK := Lib.hid (show ∀ x', Below w0.heap.size w0 x' → (fun w' => w'.cell? ⟨w.heap.size + 1, 0, none⟩ = some (.int .i64 o) ∧ Below w0.heap.size w0 w') x' from fun x' hx => ⟨(BF.below hx h2).cells.1, hx⟩)
      have hHeld0 := HK.out _ (Below.refl _ _)
      have ZC := Lib.hid (Below.refl w0.heap.size w0).drew
      refine wp_region_held_drew (S := fun w' => w'.cell? ⟨w.heap.size + 1, 0, none⟩ = some (.int .i64 o) ∧ Below w0.heap.size w0 w') (by kernel_rfl) (hd_drew HK.out (fun _ h => h.2) hHeld0) (fun hHeld => ?_)
      refine tkH 1 (v := ?vgd1) rfl ?ygd1 ?rgd1
      case ygd1 => (intro w hSw; (try dsimp only at hSw); go_simp; (try with_reducible rfl))
      (try simp only [Act.put, jA, jB, jC])
      refine tkH 2 (v := ?vgd2) rfl ?ygd2 ?rgd2
      case ygd2 => (intro w hSw; (try dsimp only at hSw); go_simp; (try with_reducible rfl))
      (try simp only [Act.put, jA, jB, jC])
      refine wpAnyH_ready (rs := [0]) (by kernel_rfl) (by simp) ?_
      refine (AllReadyH.cons rfl (fun K hK => ?_) AllReadyH.nil)
      go_simp
      refine (nturns_any _).mono ?_
      rintro e wx ⟨b, rfl, hmp, zb⟩
      go_wp2_with fail
      replace ZC := Lib.hid (keep_call (w2 := w0) zb ZC.out)
      obtain ⟨vl, hvl⟩ := run_look_any hmp o k3 HO.out
      clear hmp zb
      refine hK.out _ _ (HK.out _ ZC.out) (fun hHeld2 => ?_)
      clear hK K hHeld
      have hHeld := hHeld2
      clear hHeld2
      (try simp only [Act.put, jA, jB, jC])
      refine wpAnyH_ready (rs := [3]) (by kernel_rfl) (by simp) ?_
      refine (AllReadyH.cons rfl (fun K hK => ?_) AllReadyH.nil)
      go_simp
      refine hK.out _ _ (hHeld) (fun hHeld2 => ?_)
      clear hK K hHeld
      have hHeld := hHeld2
      clear hHeld2
      (try simp only [Act.put, jA, jB, jC])
      refine tkH 4 (v := ?vgd3) rfl ?ygd3 ?rgd3
      case ygd3 => (intro w hSw; (try dsimp only at hSw); go_simp; (try with_reducible rfl))
      (try simp only [Act.put, jA, jB, jC])
      refine tkH 5 (v := ?vgd4) rfl ?ygd4 ?rgd4
      case ygd4 => (intro w hSw; (try dsimp only at hSw); go_simp; (try with_reducible rfl))
      (try simp only [Act.put, jA, jB, jC])
      refine tkH 6 (v := ?vgd5) rfl ?ygd5 ?rgd5
      case ygd5 => (intro w hSw; (try dsimp only at hSw); go_simp; (try with_reducible rfl))
      (try simp only [Act.put, jA, jB, jC])
      refine tkH 7 (v := ?vgd6) rfl ?ygd6 ?rgd6
      case ygd6 => (intro w hSw; (try dsimp only at hSw); go_simp; (try with_reducible rfl))
      (try simp only [Act.put, jA, jB, jC])
      refine tkH 8 (v := ?vgd7) rfl ?ygd7 ?rgd7
      case ygd7 => (intro w hSw; (try dsimp only at hSw); go_simp; (try with_reducible rfl))
      (try simp only [Act.put, jA, jB, jC])
      refine wpAnyH_done (by kernel_rfl) ?_ _
      have HZ := Lib.hid (Z.trans (ZC.out.mono (by omega)))
      obtain ⟨_, b0, b1, b2, b3⟩ := BX.below ZC.out
      obtain ⟨a0, a1, a2, a3, a4, a5, a6⟩ := (BF.below ZC.out h2).cells
      clear HK hHeld0 hHeld hvl
      go_wp2_with fail
      refine (Tells.of (nthere_any W D J S A n c m _ hn) (v' := .bool true) (by rw [HE.out])).mono ?_
      rintro _ w1 ⟨rfl, zb⟩
      replace ZC := Lib.hid (keep_call (w2 := w0) zb ZC.out)
      clear a0 a1 a2 a3 a4 a5 a6
      obtain ⟨a0, a1, a2, a3, a4, a5, a6⟩ := (BF.below ZC.out h2).cells
      clear zb
      go_wp2_with fail
      refine (Tells.of (over_any ⟨o, p, q, v, x, y, s⟩ _) (v' := .bool true) (by rw [← HV.out])).mono ?_
      rintro _ w2 ⟨rfl, zb⟩
      replace ZC := Lib.hid (keep_call (w2 := w0) zb ZC.out)
      clear a0 a1 a2 a3 a4 a5 a6
      obtain ⟨a0, a1, a2, a3, a4, a5, a6⟩ := (BF.below ZC.out h2).cells
      clear zb
      clear HZ
      have HZ := Lib.hid (Z.trans (ZC.out.mono (by omega)))
      go_wp2
      go_ret
      exact ⟨rfl, HZ.out⟩
theorem nbump_any (e : Int) (w : World) (h : U e) : Tells 157 #[.int .u64 e] w (.tuple #[.int .u64 (nxN 6 e), .int .u64 (whN 6 e)]) := by
  have H := Lib.hid h
  obtain ⟨X, hX⟩ : ∃ X, bp e = X := ⟨_, rfl⟩
  obtain ⟨L, hL⟩ : ∃ L, lw e = L := ⟨_, rfl⟩
  obtain ⟨Y, hY⟩ : ∃ Y, whN 6 e = Y := ⟨_, rfl⟩
  have hw : IntKind.u64.wrap L = Y := by rw [IntKind.wrap_u64, ← hL, ← hY]; unfold whN; rw [if_pos rfl]
  rw [hY, show nxN 6 e = X by unfold nxN; rw [if_pos rfl]; exact hX]
  have HX := Lib.hid hX
  have HL := Lib.hid hL
  clear h hX hL hY
  go_enter Tryz.func157, Tryz.ntmps157
  go_wp2_with fail
  refine (Tells.of (bump_any e _ H.out) (v' := .tuple #[.int .u64 X, .int .i64 L]) (by rw [HX.out, HL.out])).mono ?_
  rintro _ w1 ⟨rfl, z⟩
  have Z := Lib.hid z
  clear z
  go_wp2
  refine bodyPost_ret (by simp [results, Tryz.results157, go_sem]; try rfl) rfl ?_
  exact ⟨rfl, Z.out⟩
theorem nwipe_any (e : Int) (w : World) (h : U e) : Tells 158 #[.int .u64 e] w (.tuple #[.int .u64 (nxN 7 e), .int .u64 (whN 7 e)]) := by
  have H := Lib.hid h
  rw [show nxN 7 e = pk (e / 65536 + 1) 0 by unfold nxN; rw [if_neg (by simp)], show whN 7 e = e % 65536 by unfold whN; rw [if_neg (by simp)]]
  clear h
  go_enter Tryz.func158, Tryz.ntmps158
  go_wp2_with fail
  refine (wipe_any e _ H.out).mono ?_
  rintro _ _ ⟨rfl, rfl⟩
  go_wp2_with fail
  refine (mask_any e _ H.out).mono ?_
  rintro _ _ ⟨rfl, rfl⟩
  go_wp2
  refine bodyPost_ret (by simp [results, Tryz.results158, go_sem]; try rfl) rfl ?_
  exact ⟨rfl, Below.refl _ _⟩
theorem turned_6 (e : Int) (g c : Nat) (w : World) (h : U e) (hc : w.cell? ⟨g, 0, none⟩ = some (.func (.func 157) #[] #[])) (hg : g < w.heap.size) : Tells 159 #[.int .u64 e, .slice (some ⟨g, 0, none⟩) 1 c] w (.tuple #[.int .u64 (nxN 6 e), .int .u64 (whN 6 e)]) := by
  have H := Lib.hid h
  have HC := Lib.hid hc
  obtain ⟨X, hX⟩ : ∃ X, nxN 6 e = X := ⟨_, rfl⟩
  obtain ⟨Y, hY⟩ : ∃ Y, whN 6 e = Y := ⟨_, rfl⟩
  rw [hX, hY]
  have HX := Lib.hid hX
  have HY := Lib.hid hY
  clear h hX hY hc
  go_enter Tryz.func159, Tryz.ntmps159
  go_wp2
  go_loopw [11, 4, 5] (fun i a b wr => ∃ j : Nat, i = .int .i64 j ∧ j ≤ 1 ∧ a = .int .u64 (if j = 0 then e else X) ∧ b = .int .u64 (if j = 0 then 0 else Y) ∧ Hid (Below w.heap.size w wr)) (fun i _ _ _ => 1 - (intOf i).toNat)
  case atStart => exact ⟨0, rfl, by omega, rfl, rfl, Lib.hid (Below.refl _ _)⟩
  case round =>
    obtain ⟨j, rfl, hj, rfl, rfl, Z⟩ := hrel
    by_cases hlt : j < 1
    · obtain rfl : j = 0 := by omega
      have hc := (Z.out.cell (p := ⟨g, 0, none⟩) hg).trans HC.out
      simp only [if_true]
      go_wp2_with fail
      refine (Tells.of (nbump_any e _ H.out) (v' := .tuple #[.int .u64 X, .int .u64 Y]) (by rw [HX.out, HY.out])).mono ?_
      rintro _ w1 ⟨rfl, z⟩
      replace Z := Lib.hid (Z.out.trans (z.mono Z.out.size))
      clear z hc
      go_wp2_with fail
      go_roundw
      case rel => exact ⟨1, by go_num, by omega, rfl, rfl, Z⟩
      case measure => simp [intOf]
    · obtain rfl : j = 1 := by omega
      simp only [show ¬ (1 : Nat) = 0 by omega, if_false]
      go_wp2
      refine bodyPost_ret (by simp [results, Tryz.results159, go_sem]; try rfl) rfl ?_
      exact ⟨rfl, Z.out⟩
theorem turned_7 (e : Int) (g c : Nat) (w : World) (h : U e) (hc : w.cell? ⟨g, 0, none⟩ = some (.func (.func 158) #[] #[])) (hg : g < w.heap.size) : Tells 159 #[.int .u64 e, .slice (some ⟨g, 0, none⟩) 1 c] w (.tuple #[.int .u64 (nxN 7 e), .int .u64 (whN 7 e)]) := by
  have H := Lib.hid h
  have HC := Lib.hid hc
  obtain ⟨X, hX⟩ : ∃ X, nxN 7 e = X := ⟨_, rfl⟩
  obtain ⟨Y, hY⟩ : ∃ Y, whN 7 e = Y := ⟨_, rfl⟩
  rw [hX, hY]
  have HX := Lib.hid hX
  have HY := Lib.hid hY
  clear h hX hY hc
  go_enter Tryz.func159, Tryz.ntmps159
  go_wp2
  go_loopw [11, 4, 5] (fun i a b wr => ∃ j : Nat, i = .int .i64 j ∧ j ≤ 1 ∧ a = .int .u64 (if j = 0 then e else X) ∧ b = .int .u64 (if j = 0 then 0 else Y) ∧ Hid (Below w.heap.size w wr)) (fun i _ _ _ => 1 - (intOf i).toNat)
  case atStart => exact ⟨0, rfl, by omega, rfl, rfl, Lib.hid (Below.refl _ _)⟩
  case round =>
    obtain ⟨j, rfl, hj, rfl, rfl, Z⟩ := hrel
    by_cases hlt : j < 1
    · obtain rfl : j = 0 := by omega
      have hc := (Z.out.cell (p := ⟨g, 0, none⟩) hg).trans HC.out
      simp only [if_true]
      go_wp2_with fail
      refine (Tells.of (nwipe_any e _ H.out) (v' := .tuple #[.int .u64 X, .int .u64 Y]) (by rw [HX.out, HY.out])).mono ?_
      rintro _ w1 ⟨rfl, z⟩
      replace Z := Lib.hid (Z.out.trans (z.mono Z.out.size))
      clear z hc
      go_wp2_with fail
      go_roundw
      case rel => exact ⟨1, by go_num, by omega, rfl, rfl, Z⟩
      case measure => simp [intOf]
    · obtain rfl : j = 1 := by omega
      simp only [show ¬ (1 : Nat) = 0 by omega, if_false]
      go_wp2
      refine bodyPost_ret (by simp [results, Tryz.results159, go_sem]; try rfl) rfl ?_
      exact ⟨rfl, Z.out⟩
end Go.Proofs.YtlpkccpijloidaaGreat
namespace Go.Proofs.YtlpkccpijloidaaGreat
set_option linter.unusedSimpArgs false
set_option maxRecDepth 100000
open Go.RowKit Go.Deep
/-- A wake lies in block g: the layout, its cells, its call. -/
def Bo (w : World) (g : Nat) (W D J S : Int) (v : Value) (f : Fr) : Prop := w.heap[g]? = some (.cells #[.int .i64 W, .int .i64 D, .int .i64 J, .int .i64 S, v, .int .i64 f.op, .int .i64 f.pc, .int .i64 f.who, .int .u64 f.val, .int .u64 f.x, .int .u64 f.y, .int .i64 f.res] 117 (0, 0))
theorem Bo.lt {w : World} {g : Nat} {W D J S : Int} {v : Value} {f : Fr} (h : Bo w g W D J S v f) : g < w.heap.size := by
  rcases Nat.lt_or_ge g w.heap.size with hlt | hge
  · exact hlt
  · unfold Bo at h; rw [Array.getElem?_eq_none hge] at h; cases h
theorem Bo.below {w w' : World} {g B : Nat} {W D J S : Int} {v : Value} {f : Fr} (h : Bo w g W D J S v f) (hb : Below B w w') (hg : g < B) : Bo w' g W D J S v f := (hb.block g hg).trans h
theorem Bo.after {w w' : World} {g : Nat} {W D J S : Int} {v : Value} {f : Fr} (h : Bo w g W D J S v f) (hb : Below w.heap.size w w') : Bo w' g W D J S v f := h.below hb h.lt
theorem Bo.drew {w : World} {g : Nat} {W D J S : Int} {v : Value} {f : Fr} (h : Bo w g W D J S v f) : Bo w.drew g W D J S v f := h
theorem Bo.cells {w : World} {g : Nat} {W D J S : Int} {v : Value} {f : Fr} (h : Bo w g W D J S v f) : w.cell? ⟨g, 0, none⟩ = some (.int .i64 W) ∧ w.cell? ⟨g, 1, none⟩ = some (.int .i64 D) ∧ w.cell? ⟨g, 2, none⟩ = some (.int .i64 J) ∧ w.cell? ⟨g, 3, none⟩ = some (.int .i64 S) ∧ w.cell? ⟨g, 4, none⟩ = some v
    ∧ w.cell? ⟨g, 5, none⟩ = some (.int .i64 f.op) ∧ w.cell? ⟨g, 6, none⟩ = some (.int .i64 f.pc) ∧ w.cell? ⟨g, 7, none⟩ = some (.int .i64 f.who) ∧ w.cell? ⟨g, 8, none⟩ = some (.int .u64 f.val) ∧ w.cell? ⟨g, 9, none⟩ = some (.int .u64 f.x) ∧ w.cell? ⟨g, 10, none⟩ = some (.int .u64 f.y) ∧ w.cell? ⟨g, 11, none⟩ = some (.int .i64 f.res) := by
  unfold Bo at h
  refine ⟨?_, ?_, ?_, ?_, ?_, ?_, ?_, ?_, ?_, ?_, ?_, ?_⟩ <;> (rw [cell_of_row w g _ _ _ _ h]; rfl)
theorem Bo.free {w : World} {g : Nat} {W D J S : Int} {v : Value} {f : Fr} (h : Bo w g W D J S v f) (i : Nat) : w.frozen? ⟨g, i, none⟩ = false := by
  unfold Bo at h
  simp [World.frozen?, h]
theorem Bo.setPc {w : World} {g : Nat} {W D J S : Int} {v : Value} {f : Fr} (h : Bo w g W D J S v f) (z : Int) : Bo (w.setCell ⟨g, 6, none⟩ (.int .i64 z)) g W D J S v { f with pc := z } := by
  unfold Bo at h ⊢
  simp [World.setCell, Array.getElem?_modify, h]
theorem Bo.setX {w : World} {g : Nat} {W D J S : Int} {v : Value} {f : Fr} (h : Bo w g W D J S v f) (z : Int) : Bo (w.setCell ⟨g, 9, none⟩ (.int .u64 z)) g W D J S v { f with x := z } := by
  unfold Bo at h ⊢
  simp [World.setCell, Array.getElem?_modify, h]
theorem Bo.setY {w : World} {g : Nat} {W D J S : Int} {v : Value} {f : Fr} (h : Bo w g W D J S v f) (z : Int) : Bo (w.setCell ⟨g, 10, none⟩ (.int .u64 z)) g W D J S v { f with y := z } := by
  unfold Bo at h ⊢
  simp [World.setCell, Array.getElem?_modify, h]
theorem Bo.setVal {w : World} {g : Nat} {W D J S : Int} {v : Value} {f : Fr} (h : Bo w g W D J S v f) (z : Int) : Bo (w.setCell ⟨g, 8, none⟩ (.int .u64 z)) g W D J S v { f with val := z } := by
  unfold Bo at h ⊢
  simp [World.setCell, Array.getElem?_modify, h]
theorem Bo.setM {w : World} {g : Nat} {W D J S : Int} {v : Value} {f : Fr} (h : Bo w g W D J S v f) (z : Value) : Bo (w.setCell ⟨g, 4, none⟩ z) g W D J S z f := by
  unfold Bo at h ⊢
  simp [World.setCell, Array.getElem?_modify, h]
/-- A call, laid into such a box. -/
def po (w : World) (g : Nat) (f : Fr) : World := (((((((w.setCell ⟨g, 5, none⟩ (.int .i64 f.op)).setCell ⟨g, 6, none⟩ (.int .i64 f.pc)).setCell ⟨g, 7, none⟩ (.int .i64 f.who)).setCell ⟨g, 8, none⟩ (.int .u64 f.val)).setCell ⟨g, 9, none⟩ (.int .u64 f.x)).setCell ⟨g, 10, none⟩ (.int .u64 f.y)).setCell ⟨g, 11, none⟩ (.int .i64 f.res))
/-- All of a wake, laid into block g. -/
def ppo (w : World) (g : Nat) (W D J S : Int) (v : Value) (f : Fr) : World := ((((((((((((w.setCell ⟨g, 0, none⟩ (.int .i64 W)).setCell ⟨g, 1, none⟩ (.int .i64 D)).setCell ⟨g, 2, none⟩ (.int .i64 J)).setCell ⟨g, 3, none⟩ (.int .i64 S)).setCell ⟨g, 4, none⟩ (v)).setCell ⟨g, 5, none⟩ (.int .i64 f.op)).setCell ⟨g, 6, none⟩ (.int .i64 f.pc)).setCell ⟨g, 7, none⟩ (.int .i64 f.who)).setCell ⟨g, 8, none⟩ (.int .u64 f.val)).setCell ⟨g, 9, none⟩ (.int .u64 f.x)).setCell ⟨g, 10, none⟩ (.int .u64 f.y)).setCell ⟨g, 11, none⟩ (.int .i64 f.res))
theorem Bo.po {w : World} {g : Nat} {W D J S : Int} {v : Value} {f : Fr} (h : Bo w g W D J S v f) (f' : Fr) : Bo (po w g f') g W D J S v f' := by
  unfold Bo at h ⊢
  unfold YtlpkccpijloidaaGreat.po
  simp [World.setCell, Array.getElem?_modify, h]
theorem Bo.ppo {w : World} {g : Nat} {W D J S : Int} {v : Value} {f : Fr} (h : Bo w g W D J S v f) (W' D' J' S' : Int) (v' : Value) (f' : Fr) : Bo (ppo w g W' D' J' S' v' f') g W' D' J' S' v' f' := by
  unfold Bo at h ⊢
  unfold YtlpkccpijloidaaGreat.ppo
  simp [World.setCell, Array.getElem?_modify, h]
theorem below_po {n : Nat} {w w' : World} (h : Below n w w') {g : Nat} (k : n ≤ g) (f : Fr) : Below n w (po w' g f) :=
  ((((((h.setCell k _).setCell k _).setCell k _).setCell k _).setCell k _).setCell k _).setCell k _
theorem below_ppo {n : Nat} {w w' : World} (h : Below n w w') {g : Nat} (k : n ≤ g) (W D J S : Int) (v : Value) (f : Fr) : Below n w (ppo w' g W D J S v f) :=
  (((((((((((h.setCell k _).setCell k _).setCell k _).setCell k _).setCell k _).setCell k _).setCell k _).setCell k _).setCell k _).setCell k _).setCell k _).setCell k _
theorem Rx.po {lo g : Nat} {w : World} {A : Option Addr} {l : List Int} (h : Rx lo g w A l) (f : Fr) : Rx lo g (po w g f) A l :=
  ((((((h.set rfl _).set rfl _).set rfl _).set rfl _).set rfl _).set rfl _).set rfl _
theorem Rx.ppo {lo g : Nat} {w : World} {A : Option Addr} {l : List Int} (h : Rx lo g w A l) (W D J S : Int) (v : Value) (f : Fr) : Rx lo g (ppo w g W D J S v f) A l :=
  (((((((((((h.set rfl _).set rfl _).set rfl _).set rfl _).set rfl _).set rfl _).set rfl _).set rfl _).set rfl _).set rfl _).set rfl _).set rfl _
theorem Bo.new (w : World) : Bo (w.alloc (.cells #[.int .i64 0, .int .i64 0, .int .i64 0, .int .i64 0, .slice none 0 0, .int .i64 0, .int .i64 0, .int .i64 0, .int .u64 0, .int .u64 0, .int .u64 0, .int .i64 0] 117)) w.heap.size 0 0 0 0 (.slice none 0 0) f0 := heap_alloc_new _ _
theorem Bk.ne_o {k : Nat} {l : List Int} {w : World} {g : Nat} {W D J S : Int} {v : Value} {f : Fr} (h : Bk w k l) (hb : Bo w g W D J S v f) : k ≠ g := by
  rintro rfl
  unfold Bk at h
  unfold Bo at hb
  rw [h] at hb
  injection hb with hb
  injection hb with _ hb _
  cases hb
/-- What a step leaves: the box with the call, and cells; nothing below it has changed. -/
def Lo (lo : Nat) (w : World) (g : Nat) (f : Fr) (W D J S : Int) (l : List Int) (e : Ending) (w' : World) : Prop :=
  ∃ A c, e = .returned (.tuple #[]) ∧ Bo w' g W D J S (.slice A l.length c) f ∧ Rx lo g w' A l ∧ Below g w w'
theorem Lo.of {lo : Nat} {w : World} {g : Nat} {f f' : Fr} {W D J S : Int} {l l' : List Int} {P : Program} {F : FuncId} {args : Array Value} (h : Calls P F args w (Lo lo w g f W D J S l)) (e1 : f = f') (e2 : l = l') : Calls P F args w (Lo lo w g f' W D J S l') := by
  rw [← e1, ← e2]; exact h
set_option maxHeartbeats 4000000 in
theorem nend_any (lo g : Nat) (f : Fr) (W D J S : Int) (r u : Int) (A : Option Addr) (c : Nat) (l : List Int) (w : World) (hB : Bo w g W D J S (.slice A l.length c) f) (hA : Rx lo g w A l) :
    Calls Tryz.prog 161 #[.pointer (some ⟨g, 0, none⟩), .int .i64 r, .int .u64 u] w (Lo lo w g (ed f r u) W D J S l) := by
  have HB := Lib.hid hB
  have HA := Lib.hid hA
  clear hB hA
  obtain ⟨o, p, q, v, x, y, s⟩ := f
  have e := HB.out
  obtain ⟨a0, a1, a2, a3, a4, a5, a6, a7, a8, a9, a10, a11⟩ := e.cells
  have fz := e.free
  have hg := e.lt
  clear e
  go_enter Tryz.func161, Tryz.ntmps161
  go_wp2_with fail
  refine (end_any ⟨o, p, q, v, x, y, s⟩ r u _).mono ?_
  rintro _ w2 ⟨rfl, hb⟩
  have Z2 := Lib.hid hb
  have e := HB.out.after hb
  clear a0 a1 a2 a3 a4 a5 a6 a7 a8 a9 a10 a11 fz
  obtain ⟨a0, a1, a2, a3, a4, a5, a6, a7, a8, a9, a10, a11⟩ := e.cells
  have fz := e.free
  clear hb e
  go_wp2
  change bodyPost _ _ _ _ _ (po w2 g (ed ⟨o, p, q, v, x, y, s⟩ r u))
  refine bodyPost_ret (by simp [results, Tryz.results161, go_sem]; try rfl) rfl ?_
  exact ⟨A, c, rfl, (HB.out.after Z2.out).po _, (HA.out.after Z2.out).po _, below_po (Z2.out.mono (Nat.le_of_lt hg)) (Nat.le_refl _) _⟩
set_option maxHeartbeats 4000000 in
theorem ntload_any (lo g : Nat) (f : Fr) (W D J S : Int) (A : Option Addr) (c : Nat) (l : List Int) (w : World) (hB : Bo w g W D J S (.slice A l.length c) f) (hA : Rx lo g w A l) (hs : l.length ≤ 500) :
    Calls Tryz.prog 120 #[.pointer (some ⟨g, 0, none⟩)] w (Lo lo w g { f with x := at0 l 2, pc := 1 } W D J S l) := by
  have HB := Lib.hid hB
  have HA := Lib.hid hA
  have HS := Lib.hid hs
  clear hB hA hs
  obtain ⟨o, p, q, v, x, y, s⟩ := f
  have e := HB.out
  obtain ⟨a0, a1, a2, a3, a4, a5, a6, a7, a8, a9, a10, a11⟩ := e.cells
  have fz := e.free
  have hg := e.lt
  clear e
  go_enter Tryz.func120, Tryz.ntmps120
  go_wp2_with fail
  refine (load_any A l.length c l 2 _ HA.out.rd rfl HS.out).mono ?_
  rintro _ w2 ⟨rfl, hb⟩
  have Z2 := Lib.hid hb
  have e := HB.out.after hb
  clear a0 a1 a2 a3 a4 a5 a6 a7 a8 a9 a10 a11 fz
  obtain ⟨a0, a1, a2, a3, a4, a5, a6, a7, a8, a9, a10, a11⟩ := e.cells
  have fz := e.free
  clear hb e
  go_wp2
  refine bodyPost_ret (by simp [results, Tryz.results120, go_sem]; try rfl) rfl ?_
  exact ⟨A, c, rfl, ((HB.out.after Z2.out).setX _).setPc _, ((HA.out.after Z2.out).set rfl _).set rfl _, ((Z2.out.mono (Nat.le_of_lt hg)).setCell (Nat.le_refl _) _).setCell (Nat.le_refl _) _⟩
set_option maxHeartbeats 4000000 in
theorem nunpark_any (lo g : Nat) (f : Fr) (W D J S : Int) (r : Int) (A : Option Addr) (c : Nat) (l : List Int) (w : World) (hB : Bo w g W D J S (.slice A l.length c) f) (hA : Rx lo g w A l) (hlo : lo ≤ w.heap.size) (hs : l.length ≤ 500) :
    Calls Tryz.prog 162 #[.pointer (some ⟨g, 0, none⟩), .int .i64 r] w (Lo lo w g f W D J S (put l (ow W D J S r 2) 1)) := by
  have HB := Lib.hid hB
  have HA := Lib.hid hA
  have HS := Lib.hid hs
  clear hB hA hs
  obtain ⟨o, p, q, v, x, y, s⟩ := f
  have e := HB.out
  obtain ⟨a0, a1, a2, a3, a4, a5, a6, a7, a8, a9, a10, a11⟩ := e.cells
  have fz := e.free
  have hg := e.lt
  have ZC := Lib.hid (Below.refl w.heap.size w).drew
  have HK := Lib.hid (show ∀ x', Kx g 4 w x' → (fun w' => w'.cell? ⟨g, 0, none⟩ = some (.int .i64 W) ∧ w'.cell? ⟨g, 1, none⟩ = some (.int .i64 D) ∧ w'.cell? ⟨g, 2, none⟩ = some (.int .i64 J) ∧ w'.cell? ⟨g, 3, none⟩ = some (.int .i64 S) ∧ Kx g 4 w w') x' from fun x' hx =>
    ⟨(hx.cells 0 (by decide)).trans a0, (hx.cells 1 (by decide)).trans a1, (hx.cells 2 (by decide)).trans a2, (hx.cells 3 (by decide)).trans a3, hx⟩)
  have hHeld0 := HK.out _ (Kx.refl g 4 w)
  clear e
  go_enter Tryz.func162, Tryz.ntmps162
  go_wp2_with fail
  refine wp_region_held_drew (S := fun w' => w'.cell? ⟨g, 0, none⟩ = some (.int .i64 W) ∧ w'.cell? ⟨g, 1, none⟩ = some (.int .i64 D) ∧ w'.cell? ⟨g, 2, none⟩ = some (.int .i64 J) ∧ w'.cell? ⟨g, 3, none⟩ = some (.int .i64 S) ∧ Kx g 4 w w') (by kernel_rfl) (kx_drew HK.out (fun _ h => h.2.2.2.2) hHeld0) (fun hHeld => ?_)
  refine tkH 0 (v := ?vv1) rfl ?yv1 ?rv1
  case yv1 => (intro w hSw; (try dsimp only at hSw); go_simp; (try with_reducible rfl))
  (try simp only [Act.put, jA, jB, jC])
  refine tkH 1 (v := ?vv2) rfl ?yv2 ?rv2
  case yv2 => (intro w hSw; (try dsimp only at hSw); go_simp; (try with_reducible rfl))
  (try simp only [Act.put, jA, jB, jC])
  refine tkH 2 (v := ?vv3) rfl ?yv3 ?rv3
  case yv3 => (intro w hSw; (try dsimp only at hSw); go_simp; (try with_reducible rfl))
  (try simp only [Act.put, jA, jB, jC])
  refine tkH 3 (v := ?vv4) rfl ?yv4 ?rv4
  case yv4 => (intro w hSw; (try dsimp only at hSw); go_simp; (try with_reducible rfl))
  (try simp only [Act.put, jA, jB, jC])
  refine tkH 5 (v := ?vv5) rfl ?yv5 ?rv5
  case yv5 => (intro w hSw; (try dsimp only at hSw); go_simp; (try with_reducible rfl))
  (try simp only [Act.put, jA, jB, jC])
  refine tkH 6 (v := ?vv6) rfl ?yv6 ?rv6
  case yv6 => (intro w hSw; (try dsimp only at hSw); go_simp; (try with_reducible rfl))
  (try simp only [Act.put, jA, jB, jC])
  refine tkH 7 (v := ?vv7) rfl ?yv7 ?rv7
  case yv7 => (intro w hSw; (try dsimp only at hSw); go_simp; (try with_reducible rfl))
  (try simp only [Act.put, jA, jB, jC])
  refine tkH 8 (v := ?vv8) rfl ?yv8 ?rv8
  case yv8 => (intro w hSw; (try dsimp only at hSw); go_simp; (try with_reducible rfl))
  (try simp only [Act.put, jA, jB, jC])
  refine tkH 9 (v := ?vv9) rfl ?yv9 ?rv9
  case yv9 => (intro w hSw; (try dsimp only at hSw); go_simp; (try with_reducible rfl))
  (try simp only [Act.put, jA, jB, jC])
  refine wpAnyH_ready (rs := [4, 10]) (by kernel_rfl) (by simp) ?_
  refine (AllReadyH.cons rfl (fun K hK => ?_) (AllReadyH.cons rfl (fun K hK => ?_) AllReadyH.nil))
  · go_simp
    refine hK.out _ _ (hHeld) (fun hHeld2 => ?_)
    clear hK K hHeld
    have hHeld := hHeld2
    clear hHeld2
    (try simp only [Act.put, jA, jB, jC])
    refine wpAnyH_ready (rs := [10]) (by kernel_rfl) (by simp) ?_
    refine (AllReadyH.cons rfl (fun K hK => ?_) AllReadyH.nil)
    go_simp
    refine (park_any W D J S r _).mono ?_
    rintro e w1 ⟨rfl, hb⟩
    go_wp2_with fail
    replace ZC := Lib.hid (keep_call (w2 := w) hb ZC.out)
    have e := HB.out.after ZC.out; obtain ⟨b0, b1, b2, b3, b4, b5, b6, b7, b8, b9, b10, b11⟩ := e.cells; have fz := e.free; clear e
    refine hK.out _ _ (kx_call HK.out (fun _ h => h.2.2.2.2) hg hb hHeld) (fun hHeld2 => ?_)
    clear hK K hHeld
    have hHeld := hHeld2
    clear hHeld2
    (try simp only [Act.put, jA, jB, jC])
    refine wpAnyH_ready (rs := [11]) (by kernel_rfl) (by simp) ?_
    refine (AllReadyH.cons rfl (fun K hK => ?_) AllReadyH.nil)
    go_simp
    refine (store_new A l.length c l _ 1 _ (HA.out.after ZC.out).rd rfl HS.out).mono ?_
    rintro e w2 ⟨k, rfl, hk0, hk, hb⟩
    go_wp2_with fail
    have HLO := Lib.hid (Nat.le_trans hlo (Nat.le_trans ZC.out.size hk0))
    have HKK := Lib.hid hk
    replace ZC := Lib.hid (keep_call (w2 := w) hb ZC.out)
    have e := HB.out.after ZC.out; obtain ⟨b0, b1, b2, b3, b4, b5, b6, b7, b8, b9, b10, b11⟩ := e.cells; have fz := e.free; clear e
    clear hk hk0
    refine hK.out _ _ (kx_call HK.out (fun _ h => h.2.2.2.2) hg hb hHeld) (fun hHeld2 => ?_)
    clear hK K hHeld
    have hHeld := hHeld2
    clear hHeld2
    (try simp only [Act.put, jA, jB, jC])
    refine tkH 12 (v := ?vv10) rfl ?yv10 ?rv10
    case yv10 => (intro w hSw; (try dsimp only at hSw); go_simp; (try with_reducible rfl))
    (try simp only [Act.put, jA, jB, jC])
    refine tkH 13 (v := ?vv11) rfl ?yv11 ?rv11
    case yv11 => (intro w hSw; (try dsimp only at hSw); go_simp; (try with_reducible rfl))
    (try simp only [Act.put, jA, jB, jC])
    refine wpAnyH_ready (rs := [14]) (by kernel_rfl) (by simp) ?_
    refine (AllReadyH.cons rfl (fun K hK => ?_) AllReadyH.nil)
    go_simp
    refine hK.out _ _ (kx_set HK.out (fun _ h => h.2.2.2.2) _ hHeld) (fun hHeld2 => ?_)
    clear hK K hHeld
    have hHeld := hHeld2
    clear hHeld2
    (try simp only [Act.put, jA, jB, jC])
    refine wpAnyH_done (by kernel_rfl) ?_ _
    clear hHeld
    go_wp2
    refine bodyPost_ret (by simp [results, Tryz.results162, go_sem]; try rfl) rfl ?_
    have e := HB.out.after ZC.out
    refine ⟨some ⟨k, 0, none⟩, l.length, rfl, ?_, (HKK.out.rx (HKK.out.ne_o e) HLO.out).set rfl _, (ZC.out.mono (Nat.le_of_lt hg)).setCell (Nat.le_refl _) _⟩
    rw [len_put]
    exact e.setM _
  · go_simp
    refine (park_any W D J S r _).mono ?_
    rintro e w1 ⟨rfl, hb⟩
    go_wp2_with fail
    replace ZC := Lib.hid (keep_call (w2 := w) hb ZC.out)
    have e := HB.out.after ZC.out; obtain ⟨b0, b1, b2, b3, b4, b5, b6, b7, b8, b9, b10, b11⟩ := e.cells; have fz := e.free; clear e
    refine hK.out _ _ (kx_call HK.out (fun _ h => h.2.2.2.2) hg hb hHeld) (fun hHeld2 => ?_)
    clear hK K hHeld
    have hHeld := hHeld2
    clear hHeld2
    (try simp only [Act.put, jA, jB, jC])
    refine wpAnyH_ready (rs := [4]) (by kernel_rfl) (by simp) ?_
    refine (AllReadyH.cons rfl (fun K hK => ?_) AllReadyH.nil)
    go_simp
    refine hK.out _ _ (hHeld) (fun hHeld2 => ?_)
    clear hK K hHeld
    have hHeld := hHeld2
    clear hHeld2
    (try simp only [Act.put, jA, jB, jC])
    refine wpAnyH_ready (rs := [11]) (by kernel_rfl) (by simp) ?_
    refine (AllReadyH.cons rfl (fun K hK => ?_) AllReadyH.nil)
    go_simp
    refine (store_new A l.length c l _ 1 _ (HA.out.after ZC.out).rd rfl HS.out).mono ?_
    rintro e w2 ⟨k, rfl, hk0, hk, hb⟩
    go_wp2_with fail
    have HLO := Lib.hid (Nat.le_trans hlo (Nat.le_trans ZC.out.size hk0))
    have HKK := Lib.hid hk
    replace ZC := Lib.hid (keep_call (w2 := w) hb ZC.out)
    have e := HB.out.after ZC.out; obtain ⟨b0, b1, b2, b3, b4, b5, b6, b7, b8, b9, b10, b11⟩ := e.cells; have fz := e.free; clear e
    clear hk hk0
    refine hK.out _ _ (kx_call HK.out (fun _ h => h.2.2.2.2) hg hb hHeld) (fun hHeld2 => ?_)
    clear hK K hHeld
    have hHeld := hHeld2
    clear hHeld2
    (try simp only [Act.put, jA, jB, jC])
    refine tkH 12 (v := ?vv12) rfl ?yv12 ?rv12
    case yv12 => (intro w hSw; (try dsimp only at hSw); go_simp; (try with_reducible rfl))
    (try simp only [Act.put, jA, jB, jC])
    refine tkH 13 (v := ?vv13) rfl ?yv13 ?rv13
    case yv13 => (intro w hSw; (try dsimp only at hSw); go_simp; (try with_reducible rfl))
    (try simp only [Act.put, jA, jB, jC])
    refine wpAnyH_ready (rs := [14]) (by kernel_rfl) (by simp) ?_
    refine (AllReadyH.cons rfl (fun K hK => ?_) AllReadyH.nil)
    go_simp
    refine hK.out _ _ (kx_set HK.out (fun _ h => h.2.2.2.2) _ hHeld) (fun hHeld2 => ?_)
    clear hK K hHeld
    have hHeld := hHeld2
    clear hHeld2
    (try simp only [Act.put, jA, jB, jC])
    refine wpAnyH_done (by kernel_rfl) ?_ _
    clear hHeld
    go_wp2
    refine bodyPost_ret (by simp [results, Tryz.results162, go_sem]; try rfl) rfl ?_
    have e := HB.out.after ZC.out
    refine ⟨some ⟨k, 0, none⟩, l.length, rfl, ?_, (HKK.out.rx (HKK.out.ne_o e) HLO.out).set rfl _, (ZC.out.mono (Nat.le_of_lt hg)).setCell (Nat.le_refl _) _⟩
    rw [len_put]
    exact e.setM _
end Go.Proofs.YtlpkccpijloidaaGreat
