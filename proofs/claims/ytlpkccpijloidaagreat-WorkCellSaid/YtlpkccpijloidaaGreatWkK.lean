/- Package work's Step, where it may not step, and as a whole (layer 18). -/
import Derived.Test.YtlpkccpijloidaaGreatWkJ
import Derived.Deep.CutRange
import Derived.Deep.DeepCutAuto
namespace Go.Proofs.YtlpkccpijloidaaGreat
set_option linter.unusedSimpArgs false
set_option maxRecDepth 100000
open Go.RowKit Go.Deep
section
variable {W D J S me d : Int} {AT A SA : Option Addr} {ct c cs : Nat} {T : List Fo.Tsk} {x : WkS} {m : List Int} {w : World}
theorem fin_rd1 {lo g b : Nat} {w w' : World} {A : Option Addr} {l : List Int} (h : Rx lo g w A l) (hk : Kb b w.drew w') (hb : b < lo) : Rd w' A l := fun hp => by
  obtain ⟨ad, e, h1, _, hlt, hc⟩ := h hp
  exact ⟨ad, e, Nat.lt_of_lt_of_le hlt hk.size, fun j u hu => (World.cell?_of_block (by rw [block_add]; exact hk.others _ hlt (by omega))).trans (hc j u hu)⟩
set_option maxHeartbeats 8000000 in
theorem wstep_no (hm : mayW W D J S T m me x = false) (hT : Fo.Tk w.heap.size w AT T) (hA : Rd w A m) (hS : Fo.Ir w.heap.size w SA x.stk) (hsm : Fo.Sm T) (ok : m.length ≤ 500 ∧ x.stk.length ≤ 900) : Calls Tryz.prog 10 #[cf W D J S, .slice AT T.length ct, .slice A m.length c, .int .i64 me, wv x (.slice SA x.stk.length cs), .int .u64 d] w (RetWk w m.length m x []) := by
  obtain ⟨p, s, ⟨o, fp, q, v, fx, y, r⟩, sp, lk⟩ := x
  simp only at hS ok
  have HT := Lib.hid hT
  have HA := Lib.hid hA
  have HS := Lib.hid hS
  have HSM := Lib.hid hsm
  have HOK := Lib.hid ok
  have HM := Lib.hid hm
  clear hT hA hS hsm ok hm
  have Z := Lib.hid ((((Below.refl w.heap.size w).alloc (Nat.le_refl _) (.cells #[.int .i64 W, .int .i64 D, .int .i64 J, .int .i64 S] 23)).alloc (by simp) (.cells #[.int .i64 p, .slice SA s.length cs, .int .i64 o, .int .i64 fp, .int .i64 q, .int .u64 v, .int .u64 fx, .int .u64 y, .int .i64 r, .int .i64 sp, .int .i64 lk] 32)).alloc (by simp; omega) (.cells #[.int .i64 0, .slice none 0 0, .int .i64 0, .int .i64 0, .int .i64 0, .int .u64 0, .int .u64 0, .int .u64 0, .int .i64 0, .int .i64 0, .int .i64 0] 32))
  have BX := Lib.hid (((Bx.mk w W D J S 23).below (bel_alloc _ (.cells #[.int .i64 p, .slice SA s.length cs, .int .i64 o, .int .i64 fp, .int .i64 q, .int .u64 v, .int .u64 fx, .int .u64 y, .int .i64 r, .int .i64 sp, .int .i64 lk] 32))).below (bel_alloc _ (.cells #[.int .i64 0, .slice none 0 0, .int .i64 0, .int .i64 0, .int .i64 0, .int .u64 0, .int .u64 0, .int .u64 0, .int .i64 0, .int .i64 0, .int .i64 0] 32)))
  have BV := Lib.hid ((Wvb.new1 (w.alloc (.cells #[.int .i64 W, .int .i64 D, .int .i64 J, .int .i64 S] 23)) (g := w.heap.size + 1) ⟨p, s, ⟨o, fp, q, v, fx, y, r⟩, sp, lk⟩ (.slice SA s.length cs) (by simp)).alloc (.cells #[.int .i64 0, .slice none 0 0, .int .i64 0, .int .i64 0, .int .i64 0, .int .u64 0, .int .u64 0, .int .u64 0, .int .i64 0, .int .i64 0, .int .i64 0] 32))
  have BR := Lib.hid (Wvb.new1 ((w.alloc (.cells #[.int .i64 W, .int .i64 D, .int .i64 J, .int .i64 S] 23)).alloc (.cells #[.int .i64 p, .slice SA s.length cs, .int .i64 o, .int .i64 fp, .int .i64 q, .int .u64 v, .int .u64 fx, .int .u64 y, .int .i64 r, .int .i64 sp, .int .i64 lk] 32)) (g := w.heap.size + 1 + 1) ⟨0, [], ⟨0, 0, 0, 0, 0, 0, 0⟩, 0, 0⟩ (.slice none 0 0) (by simp))
  have hz : (((w.alloc (.cells #[.int .i64 W, .int .i64 D, .int .i64 J, .int .i64 S] 23)).alloc (.cells #[.int .i64 p, .slice SA s.length cs, .int .i64 o, .int .i64 fp, .int .i64 q, .int .u64 v, .int .u64 fx, .int .u64 y, .int .i64 r, .int .i64 sp, .int .i64 lk] 32)).alloc (.cells #[.int .i64 0, .slice none 0 0, .int .i64 0, .int .i64 0, .int .i64 0, .int .u64 0, .int .u64 0, .int .u64 0, .int .i64 0, .int .i64 0, .int .i64 0] 32)).heap.size = w.heap.size + 1 + 1 + 1 := by simp
  have HZ := Lib.hid hz
  clear hz
  obtain ⟨b0, b1, b2, b3, b4, b5, b6, b7, b8, b9, b10⟩ := BV.out.cells
  have fz := BV.out.free
  simp only at b0 b1 b2 b3 b4 b5 b6 b7 b8 b9 b10
  go_enter Tryz.func10, Tryz.ntmps10
  go_wp2_with fail
  refine (Fo.iclone_any SA s.length cs w.heap.size s _ (HS.out.below Z.out) Z.out.size rfl (by have := HOK.out.2; omega)).mono ?_
  rintro _ w1 ⟨S1, d1, rfl, ho, z1⟩
  have HO := Lib.hid ho
  have Z1 := Lib.hid (Z.out.trans (z1.mono Z.out.size))
  have BX1 := Lib.hid (BX.out.below z1)
  have BV1 := Lib.hid (BV.out.after z1)
  have BR1 := Lib.hid (BR.out.after z1)
  have hz1 := z1.size
  rw [HZ.out] at hz1
  clear ho z1 b0 b1 b2 b3 b4 b5 b6 b7 b8 b9 b10 fz
  obtain ⟨b0, b1, b2, b3, b4, b5, b6, b7, b8, b9, b10⟩ := BV1.out.cells
  have fz := BV1.out.free
  simp only at b0 b1 b2 b3 b4 b5 b6 b7 b8 b9 b10
  go_upto_region 2 with fail
  have Z2 := Lib.hid (Z1.out.setCell (p := ⟨w.heap.size + 1, 1, none⟩) (by simp) (.slice S1 s.length d1))
  have BX2 := Lib.hid (BX1.out.oth (k := w.heap.size + 1) (i := 1) (by omega) (.slice S1 s.length d1))
  have BV2 := Lib.hid (BV1.out.setS (.slice S1 s.length d1))
  have BR2 := Lib.hid (show Wvb (w1.setCell ⟨w.heap.size + 1, 1, none⟩ (.slice S1 s.length d1)) (w.heap.size + 1 + 1) ⟨0, [], ⟨0, 0, 0, 0, 0, 0, 0⟩, 0, 0⟩ (.slice none 0 0) from (Below.heap_setCell w1 ⟨w.heap.size + 1, 1, none⟩ _ (w.heap.size + 1 + 1) (by simp)).trans BR1.out)
  have HS3 := Lib.hid (HO.out.kept (w' := w1.setCell ⟨w.heap.size + 1, 1, none⟩ (.slice S1 s.length d1)) (fun k hk => Below.heap_setCell w1 _ _ k (by have := (World.ownsRow.lt HO.out k hk).1; rw [HZ.out] at this; show k ≠ w.heap.size + 1; omega)))
  have HS2 := Lib.hid HS3.out.ir
  rw [HZ.out] at HS3
  have hz2 : w.heap.size + 1 + 1 + 1 ≤ (w1.setCell ⟨w.heap.size + 1, 1, none⟩ (.slice S1 s.length d1)).heap.size := by simpa using hz1
  have HZ2 := Lib.hid hz2
  clear hz1 hz2 b0 b1 b2 b3 b4 b5 b6 b7 b8 b9 b10 fz HO BX1 BV1 BR1 Z1 HZ BX BV BR Z HS
  generalize w1.setCell ⟨w.heap.size + 1, 1, none⟩ (.slice S1 s.length d1) = w2 at *
  have hz2 := HZ2.out
  go_cut [15] from 15 to 27 (fun t wr => ∃ (g : Nat) (A1 : Option Addr) (c1 : Nat), t = .pointer (some ⟨g, 0, none⟩) ∧ Hid (Wsx ⟨w.heap.size, w.heap.size + 1 + 1 + 1, g, W, D, J, S, me, d, AT, T, ct⟩ ⟨p, s, ⟨o, fp, q, v, fx, y, r⟩, sp, lk⟩ m [] wr A1 c1 S1 d1 none 0) ∧ Hid (Below w2.heap.size w2 wr) ∧ Hid (w2.heap.size ≤ g) ∧ Hid (Rx w2.heap.size g wr A1 m))
  case first =>
    have HK := Lib.hid (show ∀ x', Below w2.heap.size w2 x' → (fun w' => w'.cell? ⟨w.heap.size, 0, none⟩ = some (.int .i64 W) ∧ w'.cell? ⟨w.heap.size, 1, none⟩ = some (.int .i64 D) ∧ w'.cell? ⟨w.heap.size, 2, none⟩ = some (.int .i64 J) ∧ w'.cell? ⟨w.heap.size, 3, none⟩ = some (.int .i64 S) ∧ w'.cell? ⟨w.heap.size + 1, 0, none⟩ = some (.int .i64 p) ∧ w'.cell? ⟨w.heap.size + 1, 1, none⟩ = some (.slice S1 s.length d1) ∧ w'.cell? ⟨w.heap.size + 1, 2, none⟩ = some (.int .i64 o) ∧ w'.cell? ⟨w.heap.size + 1, 3, none⟩ = some (.int .i64 fp) ∧ w'.cell? ⟨w.heap.size + 1, 4, none⟩ = some (.int .i64 q) ∧ w'.cell? ⟨w.heap.size + 1, 5, none⟩ = some (.int .u64 v) ∧ w'.cell? ⟨w.heap.size + 1, 6, none⟩ = some (.int .u64 fx) ∧ w'.cell? ⟨w.heap.size + 1, 7, none⟩ = some (.int .u64 y) ∧ w'.cell? ⟨w.heap.size + 1, 8, none⟩ = some (.int .i64 r) ∧ w'.cell? ⟨w.heap.size + 1, 9, none⟩ = some (.int .i64 sp) ∧ w'.cell? ⟨w.heap.size + 1, 10, none⟩ = some (.int .i64 lk) ∧ Below w2.heap.size w2 w') x' from fun x' hx => by
      obtain ⟨_, e0, e1, e2, e3⟩ := BX2.out.below hx
      obtain ⟨f0, f1, f2, f3, f4, f5, f6, f7, f8, f9, f10⟩ := (BV2.out.after hx).cells
      exact ⟨e0, e1, e2, e3, f0, f1, f2, f3, f4, f5, f6, f7, f8, f9, f10, hx⟩)
    have hHeld0 := HK.out _ (Below.refl _ _)
    have hn0 : w2.heap.size ≤ w2.heap.size := Nat.le_refl _
    have ZC := Lib.hid (Below.refl w2.heap.size w2).drew
    refine wp_region_held_drew (S := fun w' => w'.cell? ⟨w.heap.size, 0, none⟩ = some (.int .i64 W) ∧ w'.cell? ⟨w.heap.size, 1, none⟩ = some (.int .i64 D) ∧ w'.cell? ⟨w.heap.size, 2, none⟩ = some (.int .i64 J) ∧ w'.cell? ⟨w.heap.size, 3, none⟩ = some (.int .i64 S) ∧ w'.cell? ⟨w.heap.size + 1, 0, none⟩ = some (.int .i64 p) ∧ w'.cell? ⟨w.heap.size + 1, 1, none⟩ = some (.slice S1 s.length d1) ∧ w'.cell? ⟨w.heap.size + 1, 2, none⟩ = some (.int .i64 o) ∧ w'.cell? ⟨w.heap.size + 1, 3, none⟩ = some (.int .i64 fp) ∧ w'.cell? ⟨w.heap.size + 1, 4, none⟩ = some (.int .i64 q) ∧ w'.cell? ⟨w.heap.size + 1, 5, none⟩ = some (.int .u64 v) ∧ w'.cell? ⟨w.heap.size + 1, 6, none⟩ = some (.int .u64 fx) ∧ w'.cell? ⟨w.heap.size + 1, 7, none⟩ = some (.int .u64 y) ∧ w'.cell? ⟨w.heap.size + 1, 8, none⟩ = some (.int .i64 r) ∧ w'.cell? ⟨w.heap.size + 1, 9, none⟩ = some (.int .i64 sp) ∧ w'.cell? ⟨w.heap.size + 1, 10, none⟩ = some (.int .i64 lk) ∧ Below w2.heap.size w2 w') (by kernel_rfl) (hd_drew HK.out (fun _ h => h.2.2.2.2.2.2.2.2.2.2.2.2.2.2.2) hHeld0) (fun hHeld => ?_)
    refine tkH 0 (v := ?vs1) rfl ?ys1 ?rs1
    case ys1 => (intro w hSw; (try dsimp only at hSw); go_simp; (try with_reducible rfl))
    (try simp only [Act.put, jA, jB, jC])
    refine tkH 1 (v := ?vs2) rfl ?ys2 ?rs2
    case ys2 => (intro w hSw; (try dsimp only at hSw); go_simp; (try with_reducible rfl))
    (try simp only [Act.put, jA, jB, jC])
    refine tkH 2 (v := ?vs3) rfl ?ys3 ?rs3
    case ys3 => (intro w hSw; (try dsimp only at hSw); go_simp; (try with_reducible rfl))
    (try simp only [Act.put, jA, jB, jC])
    refine tkH 3 (v := ?vs4) rfl ?ys4 ?rs4
    case ys4 => (intro w hSw; (try dsimp only at hSw); go_simp; (try with_reducible rfl))
    (try simp only [Act.put, jA, jB, jC])
    refine tkH 5 (v := ?vs5) rfl ?ys5 ?rs5
    case ys5 => (intro w hSw; (try dsimp only at hSw); go_simp; (try with_reducible rfl))
    (try simp only [Act.put, jA, jB, jC])
    refine tkH 6 (v := ?vs6) rfl ?ys6 ?rs6
    case ys6 => (intro w hSw; (try dsimp only at hSw); go_simp; (try with_reducible rfl))
    (try simp only [Act.put, jA, jB, jC])
    refine wpAnyH_ready (rs := [4, 8]) (by kernel_rfl) (by simp) ?_
    refine (AllReadyH.cons rfl (fun K hK => ?_) (AllReadyH.cons rfl (fun K hK => ?_) AllReadyH.nil))
    · go_simp
      refine (clone_any A m.length c m _ (HA.out.below (Z2.out.trans (ZC.out.mono (by omega)))) rfl HOK.out.1).mono ?_
      rintro e w3 ⟨A1, c1, rfl, hr1, hb⟩
      go_wp2_with fail
      have HR1 := Lib.hid hr1
      replace ZC := Lib.hid (ZC.out.trans (hb.mono ZC.out.size))
      clear hr1
      refine hK.out _ _ (hd_call HK.out (fun _ h => h.2.2.2.2.2.2.2.2.2.2.2.2.2.2.2) hb hHeld hn0) (fun hHeld2 => ?_)
      clear hK K hHeld
      have hHeld := hHeld2
      clear hHeld2
      (try simp only [Act.put, jA, jB, jC])
      refine tkH 7 (v := ?vs7) rfl ?ys7 ?rs7
      case ys7 => (intro w hSw; (try dsimp only at hSw); go_simp; (try with_reducible rfl))
      (try simp only [Act.put, jA, jB, jC])
      refine wpAnyH_ready (rs := [8]) (by kernel_rfl) (by simp) ?_
      refine (AllReadyH.cons rfl (fun K hK => ?_) AllReadyH.nil)
      go_simp
      have BZ := Lib.hid (show Wkb (w3.alloc (.cells #[.int .i64 0, .slice none 0 0, .int .i64 0, .int .i64 0, .int .i64 0, .int .u64 0, .int .u64 0, .int .u64 0, .int .i64 0, .int .i64 0, .int .i64 0, .int .i64 0, .int .i64 0, .int .i64 0, .int .i64 0, .slice none 0 0, .slice none 0 0, .int .i64 0, .int .u64 0, .slice none 0 0] 56)) w3.heap.size ⟨0, [], f0, 0, 0⟩ (.slice none 0 0) 0 0 0 0 (.slice none 0 0) (.slice none 0 0) 0 0 (.slice none 0 0) from Wkb.zero w3)
      have ZW := ZC
      replace ZC := Lib.hid (ZC.out.alloc ZC.out.size (.cells #[.int .i64 0, .slice none 0 0, .int .i64 0, .int .i64 0, .int .i64 0, .int .u64 0, .int .u64 0, .int .u64 0, .int .i64 0, .int .i64 0, .int .i64 0, .int .i64 0, .int .i64 0, .int .i64 0, .int .i64 0, .slice none 0 0, .slice none 0 0, .int .i64 0, .int .u64 0, .slice none 0 0] 56))
      refine hK.out _ _ (HK.out _ ZC.out) (fun hHeld2 => ?_)
      clear hK K hHeld
      have hHeld := hHeld2
      clear hHeld2
      (try simp only [Act.put, jA, jB, jC])
      refine wpAnyH_ready (rs := [9]) (by kernel_rfl) (by simp) ?_
      refine (AllReadyH.cons rfl (fun K hK => ?_) AllReadyH.nil)
      refine step_store_wk BZ.out ⟨_, _, rfl, rfl, rfl⟩ rfl rfl (by simp [Value.oneCell']) ?_
      simp only [Act.put]
      refine hK.out _ _ (HK.out _ (ZC.out.trans ((Kb.row w3.heap.size _ _).low.mono ZW.out.size))) (fun hHeld2 => ?_)
      clear hK K hHeld
      have hHeld := hHeld2
      clear hHeld2
      (try simp only [Act.put, jA, jB, jC])
      refine wpAnyH_done (by kernel_rfl) ?_ _
      clear hHeld
      go_wp2_with fail
      go_meet
      have hk := Kb.row w3.heap.size (w3.alloc (.cells #[.int .i64 0, .slice none 0 0, .int .i64 0, .int .i64 0, .int .i64 0, .int .u64 0, .int .u64 0, .int .u64 0, .int .i64 0, .int .i64 0, .int .i64 0, .int .i64 0, .int .i64 0, .int .i64 0, .int .i64 0, .slice none 0 0, .slice none 0 0, .int .i64 0, .int .u64 0, .slice none 0 0] 56)) #[.int .i64 p, .slice S1 s.length d1, .int .i64 o, .int .i64 fp, .int .i64 q, .int .u64 v, .int .u64 fx, .int .u64 y, .int .i64 r, .int .i64 sp, .int .i64 lk, .int .i64 W, .int .i64 D, .int .i64 J, .int .i64 S, .slice AT T.length ct, .slice A1 m.length c1, .int .i64 me, .int .u64 d, .slice none 0 0]
      have hx : Rx 0 w3.heap.size (w3.alloc (.cells #[.int .i64 0, .slice none 0 0, .int .i64 0, .int .i64 0, .int .i64 0, .int .u64 0, .int .u64 0, .int .u64 0, .int .i64 0, .int .i64 0, .int .i64 0, .int .i64 0, .int .i64 0, .int .i64 0, .int .i64 0, .slice none 0 0, .slice none 0 0, .int .i64 0, .int .u64 0, .slice none 0 0] 56)) A1 m := (HR1.out.rx (Nat.zero_le _) (.inr (Nat.le_refl _))).after (bel_alloc w3 _)
      have hi : Iyy (w.heap.size + 1 + 1 + 1) w3.heap.size (w3.alloc (.cells #[.int .i64 0, .slice none 0 0, .int .i64 0, .int .i64 0, .int .i64 0, .int .u64 0, .int .u64 0, .int .u64 0, .int .i64 0, .int .i64 0, .int .i64 0, .int .i64 0, .int .i64 0, .int .i64 0, .int .i64 0, .slice none 0 0, .slice none 0 0, .int .i64 0, .int .u64 0, .slice none 0 0] 56)) S1 s := (Iow_iyy HS3.out (Nat.le_refl _) (.inr ZW.out.size)).after ZC.out
      refine ⟨w3.heap.size, A1, c1, rfl, Lib.hid ?_, Lib.hid (ZC.out.trans (hk.low.mono ZW.out.size)), Lib.hid ZW.out.size, Lib.hid (((show Rx w2.heap.size w3.heap.size w3 A1 m from HR1.out.rx (by simp) (.inr (Nat.le_refl _))).after (bel_alloc w3 _)).kb hk)⟩
      exact ⟨BZ.out.ppk ⟨p, s, ⟨o, fp, q, v, fx, y, r⟩, sp, lk⟩ (.slice S1 s.length d1) W D J S (.slice AT T.length ct) (.slice A1 m.length c1) me d (.slice none 0 0), hx.kb hk, hi.kb hk, Evx.Iow.nil _ _, HT.out.below (Z2.out.trans ((ZC.out.trans (hk.low.mono ZW.out.size)).mono (by omega))), Nat.le_trans (show w.heap.size ≤ w2.heap.size by omega) ZW.out.size, Nat.le_trans hz2 ZW.out.size, (fun _ e a he => by cases he), (fun _ e a he => by cases he)⟩
    · go_simp
      have BZ := Lib.hid (show Wkb (w2.drew.alloc (.cells #[.int .i64 0, .slice none 0 0, .int .i64 0, .int .i64 0, .int .i64 0, .int .u64 0, .int .u64 0, .int .u64 0, .int .i64 0, .int .i64 0, .int .i64 0, .int .i64 0, .int .i64 0, .int .i64 0, .int .i64 0, .slice none 0 0, .slice none 0 0, .int .i64 0, .int .u64 0, .slice none 0 0] 56)) w2.heap.size ⟨0, [], f0, 0, 0⟩ (.slice none 0 0) 0 0 0 0 (.slice none 0 0) (.slice none 0 0) 0 0 (.slice none 0 0) from Wkb.zero w2.drew)
      replace ZC := Lib.hid (ZC.out.alloc ZC.out.size (.cells #[.int .i64 0, .slice none 0 0, .int .i64 0, .int .i64 0, .int .i64 0, .int .u64 0, .int .u64 0, .int .u64 0, .int .i64 0, .int .i64 0, .int .i64 0, .int .i64 0, .int .i64 0, .int .i64 0, .int .i64 0, .slice none 0 0, .slice none 0 0, .int .i64 0, .int .u64 0, .slice none 0 0] 56))
      refine hK.out _ _ (HK.out _ ZC.out) (fun hHeld2 => ?_)
      clear hK K hHeld
      have hHeld := hHeld2
      clear hHeld2
      (try simp only [Act.put, jA, jB, jC])
      refine wpAnyH_ready (rs := [4]) (by kernel_rfl) (by simp) ?_
      refine (AllReadyH.cons rfl (fun K hK => ?_) AllReadyH.nil)
      go_simp
      refine (clone_any A m.length c m _ (HA.out.below (Z2.out.trans (ZC.out.mono (by omega)))) rfl HOK.out.1).mono ?_
      rintro e w3 ⟨A1, c1, rfl, hr1, hb⟩
      go_wp2_with fail
      have HR1 := Lib.hid hr1
      have BZ1 := Lib.hid (BZ.out.after hb)
      replace ZC := Lib.hid (ZC.out.trans (hb.mono ZC.out.size))
      clear hr1
      refine hK.out _ _ (hd_call HK.out (fun _ h => h.2.2.2.2.2.2.2.2.2.2.2.2.2.2.2) hb hHeld hn0) (fun hHeld2 => ?_)
      clear hK K hHeld
      have hHeld := hHeld2
      clear hHeld2
      (try simp only [Act.put, jA, jB, jC])
      refine tkH 7 (v := ?vs8) rfl ?ys8 ?rs8
      case ys8 => (intro w hSw; (try dsimp only at hSw); go_simp; (try with_reducible rfl))
      (try simp only [Act.put, jA, jB, jC])
      refine wpAnyH_ready (rs := [9]) (by kernel_rfl) (by simp) ?_
      refine (AllReadyH.cons rfl (fun K hK => ?_) AllReadyH.nil)
      refine step_store_wk BZ1.out ⟨_, _, rfl, rfl, rfl⟩ rfl rfl (by simp [Value.oneCell']) ?_
      simp only [Act.put]
      refine hK.out _ _ (HK.out _ (ZC.out.trans ((Kb.row w2.heap.size _ _).low.mono (Nat.le_refl _)))) (fun hHeld2 => ?_)
      clear hK K hHeld
      have hHeld := hHeld2
      clear hHeld2
      (try simp only [Act.put, jA, jB, jC])
      refine wpAnyH_done (by kernel_rfl) ?_ _
      clear hHeld
      go_wp2_with fail
      go_meet
      have hk := Kb.row w2.heap.size w3 #[.int .i64 p, .slice S1 s.length d1, .int .i64 o, .int .i64 fp, .int .i64 q, .int .u64 v, .int .u64 fx, .int .u64 y, .int .i64 r, .int .i64 sp, .int .i64 lk, .int .i64 W, .int .i64 D, .int .i64 J, .int .i64 S, .slice AT T.length ct, .slice A1 m.length c1, .int .i64 me, .int .u64 d, .slice none 0 0]
      have hx : Rx 0 w2.heap.size w3 A1 m := HR1.out.rx (Nat.zero_le _) (.inl (by simp))
      have hi : Iyy (w.heap.size + 1 + 1 + 1) w2.heap.size w3 S1 s := (Iow_iyy HS3.out (Nat.le_refl _) (.inr (Nat.le_refl _))).after ZC.out
      refine ⟨w2.heap.size, A1, c1, rfl, Lib.hid ?_, Lib.hid (ZC.out.trans (hk.low.mono (Nat.le_refl _))), Lib.hid (Nat.le_refl _), Lib.hid ((show Rx w2.heap.size w2.heap.size w3 A1 m from HR1.out.rx (by simp) (.inl (by simp))).kb hk)⟩
      exact ⟨BZ1.out.ppk ⟨p, s, ⟨o, fp, q, v, fx, y, r⟩, sp, lk⟩ (.slice S1 s.length d1) W D J S (.slice AT T.length ct) (.slice A1 m.length c1) me d (.slice none 0 0), hx.kb hk, hi.kb hk, Evx.Iow.nil _ _, HT.out.below (Z2.out.trans ((ZC.out.trans (hk.low.mono (Nat.le_refl _))).mono (by omega))), (show w.heap.size ≤ w2.heap.size by omega), hz2, (fun _ e a he => by cases he), (fun _ e a he => by cases he)⟩
  case rest =>
    obtain ⟨g, A1, c1, rfl, HW, HZ3, HL, HRM⟩ := hcut
    have hL := HL.out
    have Z3 := Lib.hid (Z2.out.trans (HZ3.out.mono (by omega)))
    obtain ⟨_, e0, e1, e2, e3⟩ := BX2.out.below HZ3.out
    obtain ⟨f0, f1, f2, f3, f4, f5, f6, f7, f8, f9, f10⟩ := (BV2.out.after HZ3.out).cells
    simp only at f0 f1 f2 f3 f4 f5 f6 f7 f8 f9 f10
    have HSW := Lib.hid (HS2.out.below HZ3.out)
    have BR3 := Lib.hid (BR2.out.after HZ3.out)
    go_wp2_with fail
    refine (Tells.of (wmay_any (n₀ := w2.heap.size) (x := ⟨p, s, ⟨o, fp, q, v, fx, y, r⟩, sp, lk⟩) (m := m) (SA := S1) (cs := d1) ((HT.out.below Z3.out).mono (by omega)) HSW.out HZ3.out.size HSM.out (by have := HOK.out.2; simp only; omega) rfl) (v' := .bool false) (by rw [HM.out])).mono ?_
    rintro _ w4 ⟨rfl, z4⟩
    have HW4 := Lib.hid (HW.out.after z4)
    have BR4 := Lib.hid (BR3.out.after z4)
    have Z4 := Lib.hid (Z3.out.trans (z4.mono (by have := HZ3.out.size; omega)))
    have ZQ := Lib.hid z4
    have hgz : g < w4.heap.size := HW4.out.bx.lt
    clear z4 e0 e1 e2 e3 f0 f1 f2 f3 f4 f5 f6 f7 f8 f9 f10 BX2 BV2 BR2 HS2 HSW BR3 Z2 Z3 HZ3 HW HL
    have HRM4 := HRM
    replace HRM := Lib.hid (HRM4.out.after ZQ.out)
    clear HRM4
    obtain ⟨a0, a1, a2, a3, a4, a5, a6, a7, a8, a9, a10, a11, a12, a13, a14, a15, a16, a17, a18, a19⟩ := HW4.out.bx.cells
    simp only at a0 a1 a2 a3 a4 a5 a6 a7 a8 a9 a10 a11 a12 a13 a14 a15 a16 a17 a18 a19
    have hne6 : g ≠ w.heap.size + 1 + 1 := by omega
    have HK := Lib.hid (show ∀ x' : World, x'.heap[g]? = w4.heap[g]? → (fun w' => w'.cell? ⟨g, 0, none⟩ = some (.int .i64 p) ∧ w'.cell? ⟨g, 1, none⟩ = some (.slice S1 s.length d1) ∧ w'.cell? ⟨g, 2, none⟩ = some (.int .i64 o) ∧ w'.cell? ⟨g, 3, none⟩ = some (.int .i64 fp) ∧ w'.cell? ⟨g, 4, none⟩ = some (.int .i64 q) ∧ w'.cell? ⟨g, 5, none⟩ = some (.int .u64 v) ∧ w'.cell? ⟨g, 6, none⟩ = some (.int .u64 fx) ∧ w'.cell? ⟨g, 7, none⟩ = some (.int .u64 y) ∧ w'.cell? ⟨g, 8, none⟩ = some (.int .i64 r) ∧ w'.cell? ⟨g, 9, none⟩ = some (.int .i64 sp) ∧ w'.cell? ⟨g, 10, none⟩ = some (.int .i64 lk) ∧ w'.cell? ⟨g, 16, none⟩ = some (.slice A1 m.length c1) ∧ w'.cell? ⟨g, 19, none⟩ = some (.slice none 0 0) ∧ w'.heap[g]? = w4.heap[g]?) x' from fun x' hx => ⟨(World.cell?_of_block (a := ⟨g, 0, none⟩) hx).trans a0, (World.cell?_of_block (a := ⟨g, 1, none⟩) hx).trans a1, (World.cell?_of_block (a := ⟨g, 2, none⟩) hx).trans a2, (World.cell?_of_block (a := ⟨g, 3, none⟩) hx).trans a3, (World.cell?_of_block (a := ⟨g, 4, none⟩) hx).trans a4, (World.cell?_of_block (a := ⟨g, 5, none⟩) hx).trans a5, (World.cell?_of_block (a := ⟨g, 6, none⟩) hx).trans a6, (World.cell?_of_block (a := ⟨g, 7, none⟩) hx).trans a7, (World.cell?_of_block (a := ⟨g, 8, none⟩) hx).trans a8, (World.cell?_of_block (a := ⟨g, 9, none⟩) hx).trans a9, (World.cell?_of_block (a := ⟨g, 10, none⟩) hx).trans a10, (World.cell?_of_block (a := ⟨g, 16, none⟩) hx).trans a16, (World.cell?_of_block (a := ⟨g, 19, none⟩) hx).trans a19, hx⟩)
    have hHeld0 := HK.out w4 rfl
    clear a0 a1 a2 a3 a4 a5 a6 a7 a8 a9 a10 a11 a12 a13 a14 a15 a16 a17 a18 a19
    go_upto_region 5 with fail
    refine wp_region_held_drew (S := fun w' => w'.cell? ⟨g, 0, none⟩ = some (.int .i64 p) ∧ w'.cell? ⟨g, 1, none⟩ = some (.slice S1 s.length d1) ∧ w'.cell? ⟨g, 2, none⟩ = some (.int .i64 o) ∧ w'.cell? ⟨g, 3, none⟩ = some (.int .i64 fp) ∧ w'.cell? ⟨g, 4, none⟩ = some (.int .i64 q) ∧ w'.cell? ⟨g, 5, none⟩ = some (.int .u64 v) ∧ w'.cell? ⟨g, 6, none⟩ = some (.int .u64 fx) ∧ w'.cell? ⟨g, 7, none⟩ = some (.int .u64 y) ∧ w'.cell? ⟨g, 8, none⟩ = some (.int .i64 r) ∧ w'.cell? ⟨g, 9, none⟩ = some (.int .i64 sp) ∧ w'.cell? ⟨g, 10, none⟩ = some (.int .i64 lk) ∧ w'.cell? ⟨g, 16, none⟩ = some (.slice A1 m.length c1) ∧ w'.cell? ⟨g, 19, none⟩ = some (.slice none 0 0) ∧ w'.heap[g]? = w4.heap[g]?) (by kernel_rfl) (HK.out _ rfl) (fun hHeld => ?_)
    refine tkH 0 (v := ?vz1) rfl ?yz1 ?rz1
    case yz1 => (intro w hSw; (try dsimp only at hSw); go_simp; (try with_reducible rfl))
    (try simp only [Act.put, jA, jB, jC])
    refine tkH 1 (v := ?vz2) rfl ?yz2 ?rz2
    case yz2 => (intro w hSw; (try dsimp only at hSw); go_simp; (try with_reducible rfl))
    (try simp only [Act.put, jA, jB, jC])
    refine tkH 2 (v := ?vz3) rfl ?yz3 ?rz3
    case yz3 => (intro w hSw; (try dsimp only at hSw); go_simp; (try with_reducible rfl))
    (try simp only [Act.put, jA, jB, jC])
    refine tkH 3 (v := ?vz4) rfl ?yz4 ?rz4
    case yz4 => (intro w hSw; (try dsimp only at hSw); go_simp; (try with_reducible rfl))
    (try simp only [Act.put, jA, jB, jC])
    refine tkH 4 (v := ?vz5) rfl ?yz5 ?rz5
    case yz5 => (intro w hSw; (try dsimp only at hSw); go_simp; (try with_reducible rfl))
    (try simp only [Act.put, jA, jB, jC])
    refine tkH 5 (v := ?vz6) rfl ?yz6 ?rz6
    case yz6 => (intro w hSw; (try dsimp only at hSw); go_simp; (try with_reducible rfl))
    (try simp only [Act.put, jA, jB, jC])
    refine tkH 6 (v := ?vz7) rfl ?yz7 ?rz7
    case yz7 => (intro w hSw; (try dsimp only at hSw); go_simp; (try with_reducible rfl))
    (try simp only [Act.put, jA, jB, jC])
    refine wpAnyH_ready (rs := [7]) (by kernel_rfl) (by simp) ?_
    refine (AllReadyH.cons rfl (fun K hK => ?_) AllReadyH.nil)
    refine step_store_w11 (w := w4.drew) BR4.out ⟨_, _, rfl, rfl, rfl⟩ rfl rfl (by simp [Value.oneCell']) ?_
    simp only [Act.put]
    refine hK.out _ _ (HK.out _ (setRow_other w4.drew _ g _ hne6)) (fun hHeld2 => ?_)
    clear hK K hHeld
    have hHeld := hHeld2
    clear hHeld2
    (try simp only [Act.put, jA, jB, jC])
    refine tkH 8 (v := ?vz8) rfl ?yz8 ?rz8
    case yz8 => (intro w hSw; (try dsimp only at hSw); go_simp; (try with_reducible rfl))
    (try simp only [Act.put, jA, jB, jC])
    refine wpAnyH_done (by kernel_rfl) ?_ _
    clear hHeld
    go_wp2
    have hrow : Wvb (w4.drew.setRow (w.heap.size + 1 + 1) #[.int .i64 p, .slice S1 s.length d1, .int .i64 o, .int .i64 fp, .int .i64 q, .int .u64 v, .int .u64 fx, .int .u64 y, .int .i64 r, .int .i64 sp, .int .i64 lk]) (w.heap.size + 1 + 1) ⟨p, s, ⟨o, fp, q, v, fx, y, r⟩, sp, lk⟩ (.slice S1 s.length d1) := setRow_heap _ _ _ _ _ _ BR4.out
    refine bodyPost_ret (results_w3 Tryz.results10 _ rfl hrow) rfl ?_
    have hk := Kb.row (w.heap.size + 1 + 1) w4.drew #[.int .i64 p, .slice S1 s.length d1, .int .i64 o, .int .i64 fp, .int .i64 q, .int .u64 v, .int .u64 fx, .int .u64 y, .int .i64 r, .int .i64 sp, .int .i64 lk]
    refine ⟨A1, c1, S1, d1, none, 0, rfl, ?_, ?_, ?_, Z4.out.drew.trans (hk.low.mono (by omega))⟩
    · exact fin_rd1 HRM.out hk (by omega)
    · exact fin_ir HW4.out.rs hk (by simp)
    · exact fin_er HW4.out.re hk BR4.out
/-- A worker's step, as on lists. -/
theorem wstep_n (hT : Fo.Tk w.heap.size w AT T) (hA : Rd w A m) (hS : Fo.Ir w.heap.size w SA x.stk) (hsm : Fo.Sm T) (ok : m.length ≤ 500 ∧ x.stk.length ≤ 900) (hu : UM m) (hf : UF x.f) (hsp : I x.spins) (hlk : I x.look) (hd : U d) (hme : I me) {n : Nat} (hn : m.length = n) {m' : List Int} {z : WkS} {l' : List Evn} (e : workS W D J S T m me x d = (m', z, l')) : Calls Tryz.prog 10 #[cf W D J S, .slice AT T.length ct, .slice A n c, .int .i64 me, wv x (.slice SA x.stk.length cs), .int .u64 d] w (RetWk w n m' z l') := by
  subst hn
  cases hm : mayW W D J S T m me x
  · rw [workS_no hm] at e
    cases e
    exact wstep_no hm hT hA hS hsm ok
  · unfold workS at e
    rw [if_pos hm] at e
    have hk := (mayW_iff.1 hm).1
    have hl := (may_lim (okw_iff.1 hk).1).1
    exact wstep_may hm hT hA hS hsm ok e (fun g => ⟨ok.1, hu, hf, hsm, ok.2, (by show I W; unfold I; omega), hme, hd, hsp, hlk, hl, hk⟩)
end
end Go.Proofs.YtlpkccpijloidaaGreat
