/- Package work's Step, as on lists (layer 18). -/
import Derived.Test.YtlpkccpijloidaaGreatWkI
import Derived.Deep.CutRange
import Derived.Deep.DeepCutAuto
namespace Go.Proofs.YtlpkccpijloidaaGreat
set_option linter.unusedSimpArgs false
set_option maxRecDepth 100000
open Go.RowKit Go.Deep
/-- All of a worker, laid into its box. -/
abbrev ppk (w : World) (g : Nat) (x : WkS) (sv : Value) (W D J S : Int) (tv mv : Value) (me d : Int) (hv : Value) : World := w.setRow g #[.int .i64 x.pc, sv, .int .i64 x.f.op, .int .i64 x.f.pc, .int .i64 x.f.who, .int .u64 x.f.val, .int .u64 x.f.x, .int .u64 x.f.y, .int .i64 x.f.res, .int .i64 x.spins, .int .i64 x.look, .int .i64 W, .int .i64 D, .int .i64 J, .int .i64 S, tv, mv, .int .i64 me, .int .u64 d, hv]
theorem Wkb.ppk {w : World} {g : Nat} {x0 : WkS} {sv0 tv0 mv0 hv0 : Value} {W0 D0 J0 S0 me0 d0 : Int} (h : Wkb w g x0 sv0 W0 D0 J0 S0 tv0 mv0 me0 d0 hv0) (x : WkS) (sv : Value) (W D J S : Int) (tv mv : Value) (me d : Int) (hv : Value) : Wkb (ppk w g x sv W D J S tv mv me d hv) g x sv W D J S tv mv me d hv :=
  setRow_heap w g _ _ _ _ h
theorem Kb.row (g : Nat) (w : World) (cs : Array Value) : Kb g w (w.setRow g cs) :=
  ⟨⟨rfl, rfl, rfl, by simp, fun b hb => setRow_other w g b cs (by omega)⟩, fun b _ h2 => setRow_other w g b cs h2⟩
theorem Tryz.size56 : (Tryz.prog.info? 56).map (·.size) = some 20 := by kernel_rfl
/-- A whole worker is stored into its box, as one step of a region that draws. -/
theorem step_store_wk {ops : Array Oper} {o : Oper} {a : Act} {w : World} {K : Act → World → Prop} {Q : Exit → Act → World → Prop} {E : Prop} {g : Nat} {x0 : WkS} {sv0 tv0 mv0 hv0 : Value} {W0 D0 J0 S0 me0 d0 : Int} (hb : Wkb w g x0 sv0 W0 D0 J0 S0 tv0 mv0 me0 d0 hv0) {c : Array Value}
    (ho : ∃ s y, o.op = .store 56 s y ∧ a.eval s = .pointer (some ⟨g, 0, none⟩) ∧ a.eval y = .agg c) (hg : o.guard = none) (hc : c.size = 20) (h1 : c.all (·.oneCell') = true)
    (hK : K (a.put o.dst undef) (w.setRow g c)) : if Region.wanted o (yielded ops a.tmps) = true then Oper.wp Tryz.prog o a w K Q else E := by
  obtain ⟨s, y, hop, hs, hy⟩ := ho
  have hw : Region.wanted o (yielded ops a.tmps) = true := by simp [Region.wanted, hg]
  rw [if_pos hw]
  exact wp_store_row 56 s y hop g c hs hy 56 _ hb (by rw [hc]; exact Tryz.size56) (by rw [hc]; rfl) h1 hK
theorem Wkb.zero (w : World) : Wkb (w.alloc (.cells #[.int .i64 0, .slice none 0 0, .int .i64 0, .int .i64 0, .int .i64 0, .int .u64 0, .int .u64 0, .int .u64 0, .int .i64 0, .int .i64 0, .int .i64 0, .int .i64 0, .int .i64 0, .int .i64 0, .int .i64 0, .slice none 0 0, .slice none 0 0, .int .i64 0, .int .u64 0, .slice none 0 0] 56)) w.heap.size ⟨0, [], f0, 0, 0⟩ (.slice none 0 0) 0 0 0 0 (.slice none 0 0) (.slice none 0 0) 0 0 (.slice none 0 0) := heap_alloc_new _ _
theorem Wvb_kd {g b : Nat} {w w' : World} {x : WkS} {sv : Value} (h : Wvb w b x sv) (hk : Kd g w w') (hne : b ≠ g) : Wvb w' b x sv := by
  refine (hk.others b h.lt hne fun c z q => ?_).trans h
  unfold Wvb at h
  rw [h] at q
  injection q with q
  injection q with _ q _
  cases q
theorem Tryz.size32 : (Tryz.prog.info? 32).map (·.size) = some 11 := by kernel_rfl
/-- A worker's state is stored into its box, as one step of a region that draws. -/
theorem step_store_w11 {ops : Array Oper} {o : Oper} {a : Act} {w : World} {K : Act → World → Prop} {Q : Exit → Act → World → Prop} {E : Prop} {g : Nat} {x0 : WkS} {sv0 : Value} (hb : Wvb w g x0 sv0) {c : Array Value}
    (ho : ∃ s y, o.op = .store 32 s y ∧ a.eval s = .pointer (some ⟨g, 0, none⟩) ∧ a.eval y = .agg c) (hg : o.guard = none) (hc : c.size = 11) (h1 : c.all (·.oneCell') = true)
    (hK : K (a.put o.dst undef) (w.setRow g c)) : if Region.wanted o (yielded ops a.tmps) = true then Oper.wp Tryz.prog o a w K Q else E := by
  obtain ⟨s, y, hop, hs, hy⟩ := ho
  have hw : Region.wanted o (yielded ops a.tmps) = true := by simp [Region.wanted, hg]
  rw [if_pos hw]
  exact wp_store_row 32 s y hop g c hs hy 32 _ hb (by rw [hc]; exact Tryz.size32) (by rw [hc]; rfl) h1 hK
theorem fin_rd {g b : Nat} {w w' : World} {A : Option Addr} {l : List Int} {x : WkS} {sv : Value} (h : Rx 0 g w A l) (hk : Kb b w.drew w') (hb : Wvb w b x sv) (hl : 10 < l.length) : Rd w' A l := fun hp => by
  obtain ⟨ad, e, _, _, hlt, hc⟩ := h hp
  have hne : ad.block ≠ b := by
    intro q
    have e0 := hc 0 _ (List.getElem?_eq_getElem (show 0 < l.length by omega))
    have e10 := hc 10 _ (List.getElem?_eq_getElem hl)
    obtain ⟨bl, off, sp⟩ := ad
    simp only at q
    subst q
    unfold Wvb at hb
    rcases Nat.eq_zero_or_pos off with h0 | h0
    · subst h0
      cases sp with
      | none => simp [World.cell?, Addr.add, hb] at e0
      | some z => simp [World.cell?, Addr.add, hb] at e0
    · have e11 : w.cell? ⟨bl, off + 10, none⟩ = some (.int .u64 l[10]) := e10
      rw [cell_of_row w bl (off + 10) _ _ _ hb, Array.getElem?_eq_none (by show 11 ≤ off + 10; omega)] at e11
      cases e11
  exact ⟨ad, e, Nat.lt_of_lt_of_le hlt hk.size, fun j u hu => (World.cell?_of_block (by rw [block_add]; exact hk.others _ hlt hne)).trans (hc j u hu)⟩
theorem fin_ir {lo g b : Nat} {w w' : World} {A : Option Addr} {l : List Fo.Itm} (h : Iyy lo g w A l) (hk : Kb b w.drew w') (hb : b < lo) : Fo.Ir w'.heap.size w' A l := fun hp => by
  obtain ⟨c, off, e, hne, hlt, hc⟩ := h hp
  have q := hk.others c hlt (by omega)
  refine ⟨c, off, e, Nat.lt_of_lt_of_le hlt hk.size, fun i x hx => ?_⟩
  obtain ⟨h1, h2, h3⟩ := hc i x hx
  exact ⟨(World.cell?_of_block (a := ⟨c, off + i * 3, none⟩) q).trans h1, (World.cell?_of_block (a := ⟨c, off + i * 3 + 1, none⟩) q).trans h2, (World.cell?_of_block (a := ⟨c, off + i * 3 + 2, none⟩) q).trans h3⟩
theorem fin_er {base b n c : Nat} {w w' : World} {A : Option Addr} {l : List Evn} {x : WkS} {sv : Value} (h : Evx.Iow w base A n c l) (hk : Kb b w.drew w') (hb : Wvb w b x sv) : Evx.Ir w'.heap.size w' A l := by
  refine Evx.Iow.ir (h.kept (w' := w') (fun k hk2 => hk.others k (World.ownsRow.lt h k hk2).2 ?_))
  rintro rfl
  rcases h.2 with ⟨q, _⟩ | ⟨g, cap, cur, q, _, q2, _⟩
  · rw [q] at hk2; simp [Value.ownBlock] at hk2
  · rw [q] at hk2
    simp [Value.ownBlock] at hk2
    subst hk2
    unfold Wvb at hb
    rw [hb] at q2
    injection q2 with q2
    injection q2 with _ q2 _
    cases q2
/-- What a worker's step hands back. -/
def RetWk (w : World) (n : Nat) (m : List Int) (y : WkS) (l : List Evn) (e : Ending) (w' : World) : Prop :=
  ∃ A c SA cs E ce, e = .returned (.tuple #[.slice A n c, wv y (.slice SA y.stk.length cs), .slice E l.length ce]) ∧ Rd w' A m ∧ Fo.Ir w'.heap.size w' SA y.stk ∧ Evx.Ir w'.heap.size w' E l ∧ Below w.heap.size w w'
theorem index_wk0 (va0 va1 va2 va3 va4 va5 va6 va7 va8 va9 va10 va11 va12 va13 va14 va15 : Value) (w : World) : (Instr.index 57 (.agg #[va0, va1, va2, va3, va4, va5, va6, va7, va8, va9, va10, va11, va12, va13, va14, va15]) (.int .i64 0)).run Tryz.prog w = .ok va0 w := by kernel_rfl
theorem index_wk1 (va0 va1 va2 va3 va4 va5 va6 va7 va8 va9 va10 va11 va12 va13 va14 va15 : Value) (w : World) : (Instr.index 57 (.agg #[va0, va1, va2, va3, va4, va5, va6, va7, va8, va9, va10, va11, va12, va13, va14, va15]) (.int .i64 1)).run Tryz.prog w = .ok va1 w := by kernel_rfl
theorem index_wk2 (va0 va1 va2 va3 va4 va5 va6 va7 va8 va9 va10 va11 va12 va13 va14 va15 : Value) (w : World) : (Instr.index 57 (.agg #[va0, va1, va2, va3, va4, va5, va6, va7, va8, va9, va10, va11, va12, va13, va14, va15]) (.int .i64 2)).run Tryz.prog w = .ok va2 w := by kernel_rfl
theorem index_wk3 (va0 va1 va2 va3 va4 va5 va6 va7 va8 va9 va10 va11 va12 va13 va14 va15 : Value) (w : World) : (Instr.index 57 (.agg #[va0, va1, va2, va3, va4, va5, va6, va7, va8, va9, va10, va11, va12, va13, va14, va15]) (.int .i64 3)).run Tryz.prog w = .ok va3 w := by kernel_rfl
theorem index_wk4 (va0 va1 va2 va3 va4 va5 va6 va7 va8 va9 va10 va11 va12 va13 va14 va15 : Value) (w : World) : (Instr.index 57 (.agg #[va0, va1, va2, va3, va4, va5, va6, va7, va8, va9, va10, va11, va12, va13, va14, va15]) (.int .i64 4)).run Tryz.prog w = .ok va4 w := by kernel_rfl
theorem index_wk5 (va0 va1 va2 va3 va4 va5 va6 va7 va8 va9 va10 va11 va12 va13 va14 va15 : Value) (w : World) : (Instr.index 57 (.agg #[va0, va1, va2, va3, va4, va5, va6, va7, va8, va9, va10, va11, va12, va13, va14, va15]) (.int .i64 5)).run Tryz.prog w = .ok va5 w := by kernel_rfl
theorem index_wk6 (va0 va1 va2 va3 va4 va5 va6 va7 va8 va9 va10 va11 va12 va13 va14 va15 : Value) (w : World) : (Instr.index 57 (.agg #[va0, va1, va2, va3, va4, va5, va6, va7, va8, va9, va10, va11, va12, va13, va14, va15]) (.int .i64 6)).run Tryz.prog w = .ok va6 w := by kernel_rfl
theorem index_wk7 (va0 va1 va2 va3 va4 va5 va6 va7 va8 va9 va10 va11 va12 va13 va14 va15 : Value) (w : World) : (Instr.index 57 (.agg #[va0, va1, va2, va3, va4, va5, va6, va7, va8, va9, va10, va11, va12, va13, va14, va15]) (.int .i64 7)).run Tryz.prog w = .ok va7 w := by kernel_rfl
theorem index_wk8 (va0 va1 va2 va3 va4 va5 va6 va7 va8 va9 va10 va11 va12 va13 va14 va15 : Value) (w : World) : (Instr.index 57 (.agg #[va0, va1, va2, va3, va4, va5, va6, va7, va8, va9, va10, va11, va12, va13, va14, va15]) (.int .i64 8)).run Tryz.prog w = .ok va8 w := by kernel_rfl
theorem index_wk9 (va0 va1 va2 va3 va4 va5 va6 va7 va8 va9 va10 va11 va12 va13 va14 va15 : Value) (w : World) : (Instr.index 57 (.agg #[va0, va1, va2, va3, va4, va5, va6, va7, va8, va9, va10, va11, va12, va13, va14, va15]) (.int .i64 9)).run Tryz.prog w = .ok va9 w := by kernel_rfl
theorem index_wk10 (va0 va1 va2 va3 va4 va5 va6 va7 va8 va9 va10 va11 va12 va13 va14 va15 : Value) (w : World) : (Instr.index 57 (.agg #[va0, va1, va2, va3, va4, va5, va6, va7, va8, va9, va10, va11, va12, va13, va14, va15]) (.int .i64 10)).run Tryz.prog w = .ok va10 w := by kernel_rfl
theorem index_wk11 (va0 va1 va2 va3 va4 va5 va6 va7 va8 va9 va10 va11 va12 va13 va14 va15 : Value) (w : World) : (Instr.index 57 (.agg #[va0, va1, va2, va3, va4, va5, va6, va7, va8, va9, va10, va11, va12, va13, va14, va15]) (.int .i64 11)).run Tryz.prog w = .ok va11 w := by kernel_rfl
theorem index_wk12 (va0 va1 va2 va3 va4 va5 va6 va7 va8 va9 va10 va11 va12 va13 va14 va15 : Value) (w : World) : (Instr.index 57 (.agg #[va0, va1, va2, va3, va4, va5, va6, va7, va8, va9, va10, va11, va12, va13, va14, va15]) (.int .i64 12)).run Tryz.prog w = .ok va12 w := by kernel_rfl
theorem index_wk13 (va0 va1 va2 va3 va4 va5 va6 va7 va8 va9 va10 va11 va12 va13 va14 va15 : Value) (w : World) : (Instr.index 57 (.agg #[va0, va1, va2, va3, va4, va5, va6, va7, va8, va9, va10, va11, va12, va13, va14, va15]) (.int .i64 13)).run Tryz.prog w = .ok va13 w := by kernel_rfl
theorem index_wk14 (va0 va1 va2 va3 va4 va5 va6 va7 va8 va9 va10 va11 va12 va13 va14 va15 : Value) (w : World) : (Instr.index 57 (.agg #[va0, va1, va2, va3, va4, va5, va6, va7, va8, va9, va10, va11, va12, va13, va14, va15]) (.int .i64 14)).run Tryz.prog w = .ok va14 w := by kernel_rfl
theorem index_wk15 (va0 va1 va2 va3 va4 va5 va6 va7 va8 va9 va10 va11 va12 va13 va14 va15 : Value) (w : World) : (Instr.index 57 (.agg #[va0, va1, va2, va3, va4, va5, va6, va7, va8, va9, va10, va11, va12, va13, va14, va15]) (.int .i64 15)).run Tryz.prog w = .ok va15 w := by kernel_rfl
attribute [local go_sem] index_wk0 index_wk1 index_wk2 index_wk3 index_wk4 index_wk5 index_wk6 index_wk7 index_wk8 index_wk9 index_wk10 index_wk11 index_wk12 index_wk13 index_wk14 index_wk15
section
variable {W D J S me d : Int} {AT A SA : Option Addr} {ct c cs : Nat} {T : List Fo.Tsk} {x : WkS} {m : List Int} {w : World}
set_option maxHeartbeats 8000000 in
theorem wstep_may (hm : mayW W D J S T m me x = true) (hT : Fo.Tk w.heap.size w AT T) (hA : Rd w A m) (hS : Fo.Ir w.heap.size w SA x.stk) (hsm : Fo.Sm T) (ok : m.length ≤ 500 ∧ x.stk.length ≤ 900) {R : List Int × WkS × List Evn} (hr : stepW W D J S T m me x d = R) (hok : ∀ g, Wok (⟨w.heap.size, w.heap.size + 1 + 1 + 1, g, W, D, J, S, me, d, AT, T, ct⟩ : Wc) x m) : Calls Tryz.prog 10 #[cf W D J S, .slice AT T.length ct, .slice A m.length c, .int .i64 me, wv x (.slice SA x.stk.length cs), .int .u64 d] w (RetWk w m.length R.1 R.2.1 R.2.2) := by
  obtain ⟨p, s, ⟨o, fp, q, v, fx, y, r⟩, sp, lk⟩ := x
  simp only at hS ok
  have HT := Lib.hid hT
  have HA := Lib.hid hA
  have HS := Lib.hid hS
  have HSM := Lib.hid hsm
  have HOK := Lib.hid ok
  have HM := Lib.hid hm
  have HLG := Lib.hid (okw_long (mayW_iff.1 hm).1)
  have HLEN := Lib.hid (show R.1.length = m.length by rw [← hr]; exact (stepW_ok hm).len)
  have HR := Lib.hid hr
  have HWK := Lib.hid hok
  clear hr hok
  clear hT hA hS hsm ok hm
  have Z := Lib.hid ((((Below.refl w.heap.size w).alloc (Nat.le_refl _) (.cells #[.int .i64 W, .int .i64 D, .int .i64 J, .int .i64 S] 23)).alloc (by simp) (.cells #[.int .i64 p, .slice SA s.length cs, .int .i64 o, .int .i64 fp, .int .i64 q, .int .u64 v, .int .u64 fx, .int .u64 y, .int .i64 r, .int .i64 sp, .int .i64 lk] 32)).alloc (by simp; omega) (.cells #[.int .i64 0, .slice none 0 0, .int .i64 0, .int .i64 0, .int .i64 0, .int .u64 0, .int .u64 0, .int .u64 0, .int .i64 0, .int .i64 0, .int .i64 0] 32))
  have BX := Lib.hid (((Bx.mk w W D J S 23).below (bel_alloc _ (.cells #[.int .i64 p, .slice SA s.length cs, .int .i64 o, .int .i64 fp, .int .i64 q, .int .u64 v, .int .u64 fx, .int .u64 y, .int .i64 r, .int .i64 sp, .int .i64 lk] 32))).below (bel_alloc _ (.cells #[.int .i64 0, .slice none 0 0, .int .i64 0, .int .i64 0, .int .i64 0, .int .u64 0, .int .u64 0, .int .u64 0, .int .i64 0, .int .i64 0, .int .i64 0] 32)))
  have BV := Lib.hid ((Wvb.new1 (w.alloc (.cells #[.int .i64 W, .int .i64 D, .int .i64 J, .int .i64 S] 23)) (g := w.heap.size + 1) ⟨p, s, ⟨o, fp, q, v, fx, y, r⟩, sp, lk⟩ (.slice SA s.length cs) (by simp)).alloc (.cells #[.int .i64 0, .slice none 0 0, .int .i64 0, .int .i64 0, .int .i64 0, .int .u64 0, .int .u64 0, .int .u64 0, .int .i64 0, .int .i64 0, .int .i64 0] 32))
  have BR := Lib.hid (Wvb.new1 ((w.alloc (.cells #[.int .i64 W, .int .i64 D, .int .i64 J, .int .i64 S] 23)).alloc (.cells #[.int .i64 p, .slice SA s.length cs, .int .i64 o, .int .i64 fp, .int .i64 q, .int .u64 v, .int .u64 fx, .int .u64 y, .int .i64 r, .int .i64 sp, .int .i64 lk] 32)) (g := w.heap.size + 1 + 1) ⟨0, [], ⟨0, 0, 0, 0, 0, 0, 0⟩, 0, 0⟩ (.slice none 0 0) (by simp))
  have hz : (((w.alloc (.cells #[.int .i64 W, .int .i64 D, .int .i64 J, .int .i64 S] 23)).alloc (.cells #[.int .i64 p, .slice SA s.length cs, .int .i64 o, .int .i64 fp, .int .i64 q, .int .u64 v, .int .u64 fx, .int .u64 y, .int .i64 r, .int .i64 sp, .int .i64 lk] 32)).alloc (.cells #[.int .i64 0, .slice none 0 0, .int .i64 0, .int .i64 0, .int .i64 0, .int .u64 0, .int .u64 0, .int .u64 0, .int .i64 0, .int .i64 0, .int .i64 0] 32)).heap.size = w.heap.size + 1 + 1 + 1 := by simp
  have HZ := Lib.hid hz
  clear hz
  obtain ⟨b0, b1, b2, b3, b4, b5, b6, b7, b8, b9, b10⟩ := BV.out.cells
  have fz := BV.out.free
  simp only at b0 b1 b2 b3 b4 b5 b6 b7 b8 b9 b10
  go_enter Tryz.func10, Tryz.ntmps10
  go_wp2_with fail
  refine (Fo.iclone_any SA s.length cs w.heap.size s _ (HS.out.below Z.out) Z.out.size rfl (by have := HOK.out.2; omega)).mono ?_
  rintro _ w1 ⟨S1, d1, rfl, ho, z1⟩
  have HO := Lib.hid ho
  have Z1 := Lib.hid (Z.out.trans (z1.mono Z.out.size))
  have BX1 := Lib.hid (BX.out.below z1)
  have BV1 := Lib.hid (BV.out.after z1)
  have BR1 := Lib.hid (BR.out.after z1)
  have hz1 := z1.size
  rw [HZ.out] at hz1
  clear ho z1 b0 b1 b2 b3 b4 b5 b6 b7 b8 b9 b10 fz
  obtain ⟨b0, b1, b2, b3, b4, b5, b6, b7, b8, b9, b10⟩ := BV1.out.cells
  have fz := BV1.out.free
  simp only at b0 b1 b2 b3 b4 b5 b6 b7 b8 b9 b10
  go_upto_region 2 with fail
  have Z2 := Lib.hid (Z1.out.setCell (p := ⟨w.heap.size + 1, 1, none⟩) (by simp) (.slice S1 s.length d1))
  have BX2 := Lib.hid (BX1.out.oth (k := w.heap.size + 1) (i := 1) (by omega) (.slice S1 s.length d1))
  have BV2 := Lib.hid (BV1.out.setS (.slice S1 s.length d1))
  have BR2 := Lib.hid (show Wvb (w1.setCell ⟨w.heap.size + 1, 1, none⟩ (.slice S1 s.length d1)) (w.heap.size + 1 + 1) ⟨0, [], ⟨0, 0, 0, 0, 0, 0, 0⟩, 0, 0⟩ (.slice none 0 0) from (Below.heap_setCell w1 ⟨w.heap.size + 1, 1, none⟩ _ (w.heap.size + 1 + 1) (by simp)).trans BR1.out)
  have HS3 := Lib.hid (HO.out.kept (w' := w1.setCell ⟨w.heap.size + 1, 1, none⟩ (.slice S1 s.length d1)) (fun k hk => Below.heap_setCell w1 _ _ k (by have := (World.ownsRow.lt HO.out k hk).1; rw [HZ.out] at this; show k ≠ w.heap.size + 1; omega)))
  have HS2 := Lib.hid HS3.out.ir
  rw [HZ.out] at HS3
  have hz2 : w.heap.size + 1 + 1 + 1 ≤ (w1.setCell ⟨w.heap.size + 1, 1, none⟩ (.slice S1 s.length d1)).heap.size := by simpa using hz1
  have HZ2 := Lib.hid hz2
  clear hz1 hz2 b0 b1 b2 b3 b4 b5 b6 b7 b8 b9 b10 fz HO BX1 BV1 BR1 Z1 HZ BX BV BR Z HS
  generalize w1.setCell ⟨w.heap.size + 1, 1, none⟩ (.slice S1 s.length d1) = w2 at *
  have hz2 := HZ2.out
  go_cut [15] from 15 to 27 (fun t wr => ∃ (g : Nat) (A1 : Option Addr) (c1 : Nat), t = .pointer (some ⟨g, 0, none⟩) ∧ Hid (Wsx ⟨w.heap.size, w.heap.size + 1 + 1 + 1, g, W, D, J, S, me, d, AT, T, ct⟩ ⟨p, s, ⟨o, fp, q, v, fx, y, r⟩, sp, lk⟩ m [] wr A1 c1 S1 d1 none 0) ∧ Hid (Below w2.heap.size w2 wr) ∧ Hid (w2.heap.size ≤ g))
  case first =>
    have HK := Lib.hid (show ∀ x', Below w2.heap.size w2 x' → (fun w' => w'.cell? ⟨w.heap.size, 0, none⟩ = some (.int .i64 W) ∧ w'.cell? ⟨w.heap.size, 1, none⟩ = some (.int .i64 D) ∧ w'.cell? ⟨w.heap.size, 2, none⟩ = some (.int .i64 J) ∧ w'.cell? ⟨w.heap.size, 3, none⟩ = some (.int .i64 S) ∧ w'.cell? ⟨w.heap.size + 1, 0, none⟩ = some (.int .i64 p) ∧ w'.cell? ⟨w.heap.size + 1, 1, none⟩ = some (.slice S1 s.length d1) ∧ w'.cell? ⟨w.heap.size + 1, 2, none⟩ = some (.int .i64 o) ∧ w'.cell? ⟨w.heap.size + 1, 3, none⟩ = some (.int .i64 fp) ∧ w'.cell? ⟨w.heap.size + 1, 4, none⟩ = some (.int .i64 q) ∧ w'.cell? ⟨w.heap.size + 1, 5, none⟩ = some (.int .u64 v) ∧ w'.cell? ⟨w.heap.size + 1, 6, none⟩ = some (.int .u64 fx) ∧ w'.cell? ⟨w.heap.size + 1, 7, none⟩ = some (.int .u64 y) ∧ w'.cell? ⟨w.heap.size + 1, 8, none⟩ = some (.int .i64 r) ∧ w'.cell? ⟨w.heap.size + 1, 9, none⟩ = some (.int .i64 sp) ∧ w'.cell? ⟨w.heap.size + 1, 10, none⟩ = some (.int .i64 lk) ∧ Below w2.heap.size w2 w') x' from fun x' hx => by
      obtain ⟨_, e0, e1, e2, e3⟩ := BX2.out.below hx
      obtain ⟨f0, f1, f2, f3, f4, f5, f6, f7, f8, f9, f10⟩ := (BV2.out.after hx).cells
      exact ⟨e0, e1, e2, e3, f0, f1, f2, f3, f4, f5, f6, f7, f8, f9, f10, hx⟩)
    have hHeld0 := HK.out _ (Below.refl _ _)
    have hn0 : w2.heap.size ≤ w2.heap.size := Nat.le_refl _
    have ZC := Lib.hid (Below.refl w2.heap.size w2).drew
    refine wp_region_held_drew (S := fun w' => w'.cell? ⟨w.heap.size, 0, none⟩ = some (.int .i64 W) ∧ w'.cell? ⟨w.heap.size, 1, none⟩ = some (.int .i64 D) ∧ w'.cell? ⟨w.heap.size, 2, none⟩ = some (.int .i64 J) ∧ w'.cell? ⟨w.heap.size, 3, none⟩ = some (.int .i64 S) ∧ w'.cell? ⟨w.heap.size + 1, 0, none⟩ = some (.int .i64 p) ∧ w'.cell? ⟨w.heap.size + 1, 1, none⟩ = some (.slice S1 s.length d1) ∧ w'.cell? ⟨w.heap.size + 1, 2, none⟩ = some (.int .i64 o) ∧ w'.cell? ⟨w.heap.size + 1, 3, none⟩ = some (.int .i64 fp) ∧ w'.cell? ⟨w.heap.size + 1, 4, none⟩ = some (.int .i64 q) ∧ w'.cell? ⟨w.heap.size + 1, 5, none⟩ = some (.int .u64 v) ∧ w'.cell? ⟨w.heap.size + 1, 6, none⟩ = some (.int .u64 fx) ∧ w'.cell? ⟨w.heap.size + 1, 7, none⟩ = some (.int .u64 y) ∧ w'.cell? ⟨w.heap.size + 1, 8, none⟩ = some (.int .i64 r) ∧ w'.cell? ⟨w.heap.size + 1, 9, none⟩ = some (.int .i64 sp) ∧ w'.cell? ⟨w.heap.size + 1, 10, none⟩ = some (.int .i64 lk) ∧ Below w2.heap.size w2 w') (by kernel_rfl) (hd_drew HK.out (fun _ h => h.2.2.2.2.2.2.2.2.2.2.2.2.2.2.2) hHeld0) (fun hHeld => ?_)
    refine tkH 0 (v := ?vs1) rfl ?ys1 ?rs1
    case ys1 => (intro w hSw; (try dsimp only at hSw); go_simp; (try with_reducible rfl))
    (try simp only [Act.put, jA, jB, jC])
    refine tkH 1 (v := ?vs2) rfl ?ys2 ?rs2
    case ys2 => (intro w hSw; (try dsimp only at hSw); go_simp; (try with_reducible rfl))
    (try simp only [Act.put, jA, jB, jC])
    refine tkH 2 (v := ?vs3) rfl ?ys3 ?rs3
    case ys3 => (intro w hSw; (try dsimp only at hSw); go_simp; (try with_reducible rfl))
    (try simp only [Act.put, jA, jB, jC])
    refine tkH 3 (v := ?vs4) rfl ?ys4 ?rs4
    case ys4 => (intro w hSw; (try dsimp only at hSw); go_simp; (try with_reducible rfl))
    (try simp only [Act.put, jA, jB, jC])
    refine tkH 5 (v := ?vs5) rfl ?ys5 ?rs5
    case ys5 => (intro w hSw; (try dsimp only at hSw); go_simp; (try with_reducible rfl))
    (try simp only [Act.put, jA, jB, jC])
    refine tkH 6 (v := ?vs6) rfl ?ys6 ?rs6
    case ys6 => (intro w hSw; (try dsimp only at hSw); go_simp; (try with_reducible rfl))
    (try simp only [Act.put, jA, jB, jC])
    refine wpAnyH_ready (rs := [4, 8]) (by kernel_rfl) (by simp) ?_
    refine (AllReadyH.cons rfl (fun K hK => ?_) (AllReadyH.cons rfl (fun K hK => ?_) AllReadyH.nil))
    · go_simp
      refine (clone_any A m.length c m _ (HA.out.below (Z2.out.trans (ZC.out.mono (by omega)))) rfl HOK.out.1).mono ?_
      rintro e w3 ⟨A1, c1, rfl, hr1, hb⟩
      go_wp2_with fail
      have HR1 := Lib.hid hr1
      replace ZC := Lib.hid (ZC.out.trans (hb.mono ZC.out.size))
      clear hr1
      refine hK.out _ _ (hd_call HK.out (fun _ h => h.2.2.2.2.2.2.2.2.2.2.2.2.2.2.2) hb hHeld hn0) (fun hHeld2 => ?_)
      clear hK K hHeld
      have hHeld := hHeld2
      clear hHeld2
      (try simp only [Act.put, jA, jB, jC])
      refine tkH 7 (v := ?vs7) rfl ?ys7 ?rs7
      case ys7 => (intro w hSw; (try dsimp only at hSw); go_simp; (try with_reducible rfl))
      (try simp only [Act.put, jA, jB, jC])
      refine wpAnyH_ready (rs := [8]) (by kernel_rfl) (by simp) ?_
      refine (AllReadyH.cons rfl (fun K hK => ?_) AllReadyH.nil)
      go_simp
      have BZ := Lib.hid (show Wkb (w3.alloc (.cells #[.int .i64 0, .slice none 0 0, .int .i64 0, .int .i64 0, .int .i64 0, .int .u64 0, .int .u64 0, .int .u64 0, .int .i64 0, .int .i64 0, .int .i64 0, .int .i64 0, .int .i64 0, .int .i64 0, .int .i64 0, .slice none 0 0, .slice none 0 0, .int .i64 0, .int .u64 0, .slice none 0 0] 56)) w3.heap.size ⟨0, [], f0, 0, 0⟩ (.slice none 0 0) 0 0 0 0 (.slice none 0 0) (.slice none 0 0) 0 0 (.slice none 0 0) from Wkb.zero w3)
      have ZW := ZC
      replace ZC := Lib.hid (ZC.out.alloc ZC.out.size (.cells #[.int .i64 0, .slice none 0 0, .int .i64 0, .int .i64 0, .int .i64 0, .int .u64 0, .int .u64 0, .int .u64 0, .int .i64 0, .int .i64 0, .int .i64 0, .int .i64 0, .int .i64 0, .int .i64 0, .int .i64 0, .slice none 0 0, .slice none 0 0, .int .i64 0, .int .u64 0, .slice none 0 0] 56))
      refine hK.out _ _ (HK.out _ ZC.out) (fun hHeld2 => ?_)
      clear hK K hHeld
      have hHeld := hHeld2
      clear hHeld2
      (try simp only [Act.put, jA, jB, jC])
      refine wpAnyH_ready (rs := [9]) (by kernel_rfl) (by simp) ?_
      refine (AllReadyH.cons rfl (fun K hK => ?_) AllReadyH.nil)
      refine step_store_wk BZ.out ⟨_, _, rfl, rfl, rfl⟩ rfl rfl (by simp [Value.oneCell']) ?_
      simp only [Act.put]
      refine hK.out _ _ (HK.out _ (ZC.out.trans ((Kb.row w3.heap.size _ _).low.mono ZW.out.size))) (fun hHeld2 => ?_)
      clear hK K hHeld
      have hHeld := hHeld2
      clear hHeld2
      (try simp only [Act.put, jA, jB, jC])
      refine wpAnyH_done (by kernel_rfl) ?_ _
      clear hHeld
      go_wp2_with fail
      go_meet
      have hk := Kb.row w3.heap.size (w3.alloc (.cells #[.int .i64 0, .slice none 0 0, .int .i64 0, .int .i64 0, .int .i64 0, .int .u64 0, .int .u64 0, .int .u64 0, .int .i64 0, .int .i64 0, .int .i64 0, .int .i64 0, .int .i64 0, .int .i64 0, .int .i64 0, .slice none 0 0, .slice none 0 0, .int .i64 0, .int .u64 0, .slice none 0 0] 56)) #[.int .i64 p, .slice S1 s.length d1, .int .i64 o, .int .i64 fp, .int .i64 q, .int .u64 v, .int .u64 fx, .int .u64 y, .int .i64 r, .int .i64 sp, .int .i64 lk, .int .i64 W, .int .i64 D, .int .i64 J, .int .i64 S, .slice AT T.length ct, .slice A1 m.length c1, .int .i64 me, .int .u64 d, .slice none 0 0]
      have hx : Rx 0 w3.heap.size (w3.alloc (.cells #[.int .i64 0, .slice none 0 0, .int .i64 0, .int .i64 0, .int .i64 0, .int .u64 0, .int .u64 0, .int .u64 0, .int .i64 0, .int .i64 0, .int .i64 0, .int .i64 0, .int .i64 0, .int .i64 0, .int .i64 0, .slice none 0 0, .slice none 0 0, .int .i64 0, .int .u64 0, .slice none 0 0] 56)) A1 m := (HR1.out.rx (Nat.zero_le _) (.inr (Nat.le_refl _))).after (bel_alloc w3 _)
      have hi : Iyy (w.heap.size + 1 + 1 + 1) w3.heap.size (w3.alloc (.cells #[.int .i64 0, .slice none 0 0, .int .i64 0, .int .i64 0, .int .i64 0, .int .u64 0, .int .u64 0, .int .u64 0, .int .i64 0, .int .i64 0, .int .i64 0, .int .i64 0, .int .i64 0, .int .i64 0, .int .i64 0, .slice none 0 0, .slice none 0 0, .int .i64 0, .int .u64 0, .slice none 0 0] 56)) S1 s := (Iow_iyy HS3.out (Nat.le_refl _) (.inr ZW.out.size)).after ZC.out
      refine ⟨w3.heap.size, A1, c1, rfl, Lib.hid ?_, Lib.hid (ZC.out.trans (hk.low.mono ZW.out.size)), Lib.hid ZW.out.size⟩
      exact ⟨BZ.out.ppk ⟨p, s, ⟨o, fp, q, v, fx, y, r⟩, sp, lk⟩ (.slice S1 s.length d1) W D J S (.slice AT T.length ct) (.slice A1 m.length c1) me d (.slice none 0 0), hx.kb hk, hi.kb hk, Evx.Iow.nil _ _, HT.out.below (Z2.out.trans ((ZC.out.trans (hk.low.mono ZW.out.size)).mono (by omega))), Nat.le_trans (show w.heap.size ≤ w2.heap.size by omega) ZW.out.size, Nat.le_trans hz2 ZW.out.size, (fun _ e a he => by cases he), (fun _ e a he => by cases he)⟩
    · go_simp
      have BZ := Lib.hid (show Wkb (w2.drew.alloc (.cells #[.int .i64 0, .slice none 0 0, .int .i64 0, .int .i64 0, .int .i64 0, .int .u64 0, .int .u64 0, .int .u64 0, .int .i64 0, .int .i64 0, .int .i64 0, .int .i64 0, .int .i64 0, .int .i64 0, .int .i64 0, .slice none 0 0, .slice none 0 0, .int .i64 0, .int .u64 0, .slice none 0 0] 56)) w2.heap.size ⟨0, [], f0, 0, 0⟩ (.slice none 0 0) 0 0 0 0 (.slice none 0 0) (.slice none 0 0) 0 0 (.slice none 0 0) from Wkb.zero w2.drew)
      replace ZC := Lib.hid (ZC.out.alloc ZC.out.size (.cells #[.int .i64 0, .slice none 0 0, .int .i64 0, .int .i64 0, .int .i64 0, .int .u64 0, .int .u64 0, .int .u64 0, .int .i64 0, .int .i64 0, .int .i64 0, .int .i64 0, .int .i64 0, .int .i64 0, .int .i64 0, .slice none 0 0, .slice none 0 0, .int .i64 0, .int .u64 0, .slice none 0 0] 56))
      refine hK.out _ _ (HK.out _ ZC.out) (fun hHeld2 => ?_)
      clear hK K hHeld
      have hHeld := hHeld2
      clear hHeld2
      (try simp only [Act.put, jA, jB, jC])
      refine wpAnyH_ready (rs := [4]) (by kernel_rfl) (by simp) ?_
      refine (AllReadyH.cons rfl (fun K hK => ?_) AllReadyH.nil)
      go_simp
      refine (clone_any A m.length c m _ (HA.out.below (Z2.out.trans (ZC.out.mono (by omega)))) rfl HOK.out.1).mono ?_
      rintro e w3 ⟨A1, c1, rfl, hr1, hb⟩
      go_wp2_with fail
      have HR1 := Lib.hid hr1
      have BZ1 := Lib.hid (BZ.out.after hb)
      replace ZC := Lib.hid (ZC.out.trans (hb.mono ZC.out.size))
      clear hr1
      refine hK.out _ _ (hd_call HK.out (fun _ h => h.2.2.2.2.2.2.2.2.2.2.2.2.2.2.2) hb hHeld hn0) (fun hHeld2 => ?_)
      clear hK K hHeld
      have hHeld := hHeld2
      clear hHeld2
      (try simp only [Act.put, jA, jB, jC])
      refine tkH 7 (v := ?vs8) rfl ?ys8 ?rs8
      case ys8 => (intro w hSw; (try dsimp only at hSw); go_simp; (try with_reducible rfl))
      (try simp only [Act.put, jA, jB, jC])
      refine wpAnyH_ready (rs := [9]) (by kernel_rfl) (by simp) ?_
      refine (AllReadyH.cons rfl (fun K hK => ?_) AllReadyH.nil)
      refine step_store_wk BZ1.out ⟨_, _, rfl, rfl, rfl⟩ rfl rfl (by simp [Value.oneCell']) ?_
      simp only [Act.put]
      refine hK.out _ _ (HK.out _ (ZC.out.trans ((Kb.row w2.heap.size _ _).low.mono (Nat.le_refl _)))) (fun hHeld2 => ?_)
      clear hK K hHeld
      have hHeld := hHeld2
      clear hHeld2
      (try simp only [Act.put, jA, jB, jC])
      refine wpAnyH_done (by kernel_rfl) ?_ _
      clear hHeld
      go_wp2_with fail
      go_meet
      have hk := Kb.row w2.heap.size w3 #[.int .i64 p, .slice S1 s.length d1, .int .i64 o, .int .i64 fp, .int .i64 q, .int .u64 v, .int .u64 fx, .int .u64 y, .int .i64 r, .int .i64 sp, .int .i64 lk, .int .i64 W, .int .i64 D, .int .i64 J, .int .i64 S, .slice AT T.length ct, .slice A1 m.length c1, .int .i64 me, .int .u64 d, .slice none 0 0]
      have hx : Rx 0 w2.heap.size w3 A1 m := HR1.out.rx (Nat.zero_le _) (.inl (by simp))
      have hi : Iyy (w.heap.size + 1 + 1 + 1) w2.heap.size w3 S1 s := (Iow_iyy HS3.out (Nat.le_refl _) (.inr (Nat.le_refl _))).after ZC.out
      refine ⟨w2.heap.size, A1, c1, rfl, Lib.hid ?_, Lib.hid (ZC.out.trans (hk.low.mono (Nat.le_refl _))), Lib.hid (Nat.le_refl _)⟩
      exact ⟨BZ1.out.ppk ⟨p, s, ⟨o, fp, q, v, fx, y, r⟩, sp, lk⟩ (.slice S1 s.length d1) W D J S (.slice AT T.length ct) (.slice A1 m.length c1) me d (.slice none 0 0), hx.kb hk, hi.kb hk, Evx.Iow.nil _ _, HT.out.below (Z2.out.trans ((ZC.out.trans (hk.low.mono (Nat.le_refl _))).mono (by omega))), (show w.heap.size ≤ w2.heap.size by omega), hz2, (fun _ e a he => by cases he), (fun _ e a he => by cases he)⟩
  case rest =>
    obtain ⟨g, A1, c1, rfl, HW, HZ3, HL⟩ := hcut
    have hL := HL.out
    have Z3 := Lib.hid (Z2.out.trans (HZ3.out.mono (by omega)))
    obtain ⟨_, e0, e1, e2, e3⟩ := BX2.out.below HZ3.out
    obtain ⟨f0, f1, f2, f3, f4, f5, f6, f7, f8, f9, f10⟩ := (BV2.out.after HZ3.out).cells
    simp only at f0 f1 f2 f3 f4 f5 f6 f7 f8 f9 f10
    have HSW := Lib.hid (HS2.out.below HZ3.out)
    have BR3 := Lib.hid (BR2.out.after HZ3.out)
    go_wp2_with fail
    refine (Tells.of (wmay_any (n₀ := w2.heap.size) (x := ⟨p, s, ⟨o, fp, q, v, fx, y, r⟩, sp, lk⟩) (m := m) (SA := S1) (cs := d1) ((HT.out.below Z3.out).mono (by omega)) HSW.out HZ3.out.size HSM.out (by have := HOK.out.2; simp only; omega) rfl) (v' := .bool true) (by rw [HM.out])).mono ?_
    rintro _ w4 ⟨rfl, z4⟩
    have HW4 := Lib.hid (HW.out.after z4)
    have BR4 := Lib.hid (BR3.out.after z4)
    have Z4 := Lib.hid (Z3.out.trans (z4.mono (by have := HZ3.out.size; omega)))
    have hgz : g < w4.heap.size := HW4.out.bx.lt
    clear z4 e0 e1 e2 e3 f0 f1 f2 f3 f4 f5 f6 f7 f8 f9 f10 BX2 BV2 BR2 HS2 HSW BR3 Z2 Z3 HZ3 HW HL
    go_upto_region 4 with fail
    go_cut [] from 34 to 39 (fun wr => Hid (Wst ⟨w.heap.size, w.heap.size + 1 + 1 + 1, g, W, D, J, S, me, d, AT, T, ct⟩ R.2.1 R.1 R.2.2 wr) ∧ Hid (Wvb wr (w.heap.size + 1 + 1) ⟨0, [], ⟨0, 0, 0, 0, 0, 0, 0⟩, 0, 0⟩ (.slice none 0 0)) ∧ Hid (Below w.heap.size w wr))
    case first =>
      have hpc := HM.out
      rw [mayW_iff] at hpc
      obtain ⟨_, _, hp0, hp15⟩ := hpc
      simp only at hp0 hp15
      have HK := Lib.hid (show ∀ x', Below g w4 x' → (fun w' => Below g w4 w') x' from fun x' hx => hx)
      have hHeld0 := HK.out _ (Below.refl _ _)
      have ZC := Lib.hid (Below.refl g w4).drew
      obtain ⟨a0, a1, a2, a3, a4, a5, a6, a7, a8, a9, a10, a11, a12, a13, a14, a15, a16, a17, a18, a19⟩ := HW4.out.bx.cells
      have fz := HW4.out.bx.free
      simp only at a0 a1 a2 a3 a4 a5 a6 a7 a8 a9 a10 a11 a12 a13 a14 a15 a16 a17 a18 a19
      replace HW4 := Lib.hid HW4.out.drew
      replace BR4 := Lib.hid (show Wvb w4.drew (w.heap.size + 1 + 1) ⟨0, [], ⟨0, 0, 0, 0, 0, 0, 0⟩, 0, 0⟩ (.slice none 0 0) from BR4.out)
      replace Z4 := Lib.hid Z4.out.drew
      rcases pc_cases (x := ⟨p, s, ⟨o, fp, q, v, fx, y, r⟩, sp, lk⟩) hp0 hp15 with e | e | e | e | e | e | e | e | e | e | e | e | e | e | e | e
      · simp only at e
        subst e
        clear hp0 hp15
        refine wp_region_held_drew (S := fun w' => Below g w4 w') (by kernel_rfl) (HK.out _ (Below.refl _ _).drew) (fun hHeld => ?_)
        refine tkH 1 (v := ?vr0_1) rfl ?yr0_1 ?rr0_1
        case yr0_1 => (intro w hSw; (try dsimp only at hSw); go_simp; (try with_reducible rfl))
        (try simp only [Act.put, jA, jB, jC])
        refine tkH 2 (v := ?vr0_2) rfl ?yr0_2 ?rr0_2
        case yr0_2 => (intro w hSw; (try dsimp only at hSw); go_simp; (try with_reducible rfl))
        (try simp only [Act.put, jA, jB, jC])
        refine wpAnyH_ready (rs := [0, 3]) (by kernel_rfl) (by simp) ?_
        refine (AllReadyH.cons rfl (fun K hK => ?_) (AllReadyH.cons rfl (fun K hK => ?_) AllReadyH.nil))
        · go_simp
          refine (wsteps_any (some ⟨g, 0, none⟩) _).mono ?_
          rintro e w5 ⟨rfl, hb⟩
          go_wp2_with fail
          have ZB := Lib.hid hb
          replace ZC := Lib.hid (ZC.out.trans (hb.mono (Nat.le_trans (Nat.le_of_lt hgz) ZC.out.size)))
          replace HW4 := Lib.hid (HW4.out.after hb)
          replace BR4 := Lib.hid (BR4.out.after hb)
          replace Z4 := Lib.hid (Z4.out.trans (hb.mono (by have := Z4.out.size; exact this)))
          obtain ⟨a0, a1, a2, a3, a4, a5, a6, a7, a8, a9, a10, a11, a12, a13, a14, a15, a16, a17, a18, a19⟩ := HW4.out.bx.cells
          have fz := HW4.out.bx.free
          simp only at a0 a1 a2 a3 a4 a5 a6 a7 a8 a9 a10 a11 a12 a13 a14 a15 a16 a17 a18 a19
          refine hK.out _ _ (HK.out _ ZC.out) (fun hHeld2 => ?_)
          clear hK K hHeld
          have hHeld := hHeld2
          clear hHeld2
          (try simp only [Act.put, jA, jB, jC])
          refine wpAnyH_ready (rs := [3]) (by kernel_rfl) (by simp) ?_
          refine (AllReadyH.cons rfl (fun K hK => ?_) AllReadyH.nil)
          go_simp
          refine hK.out _ _ (hHeld) (fun hHeld2 => ?_)
          clear hK K hHeld
          have hHeld := hHeld2
          clear hHeld2
          (try simp only [Act.put, jA, jB, jC])
          refine tkH 4 (v := ?vr0_3) rfl ?yr0_3 ?rr0_3
          case yr0_3 => (intro w hSw; (try dsimp only at hSw); go_simp; (try with_reducible rfl))
          (try simp only [Act.put, jA, jB, jC])
          refine wpAnyH_ready (rs := [5]) (by kernel_rfl) (by simp) ?_
          refine (AllReadyH.cons rfl (fun K hK => ?_) AllReadyH.nil)
          go_simp
          refine (wpop_any (⟨w.heap.size, w.heap.size + 1 + 1 + 1, g, W, D, J, S, me, d, AT, T, ct⟩ : Wc) rfl (HWK.out g) HW4.out.st).mono ?_
          rintro e w6 ⟨rfl, W6, Z6⟩
          go_wp2_with fail
          rw [HR.out] at W6
          refine hK.out _ _ (HK.out _ (ZC.out.trans Z6.low)) (fun hHeld2 => ?_)
          clear hK K hHeld
          have hHeld := hHeld2
          clear hHeld2
          (try simp only [Act.put, jA, jB, jC])
          refine wpAnyH_done (by kernel_rfl) ?_ _
          clear hHeld
          go_wp2_with fail
          go_meet
          exact ⟨Lib.hid W6, Lib.hid (Wvb_kd BR4.out Z6 (by have := hL; show w.heap.size + 1 + 1 ≠ g; omega)), Lib.hid (Z4.out.trans (Z6.low.mono (by show w.heap.size ≤ g; omega)))⟩
        · go_simp
          refine hK.out _ _ (hHeld) (fun hHeld2 => ?_)
          clear hK K hHeld
          have hHeld := hHeld2
          clear hHeld2
          (try simp only [Act.put, jA, jB, jC])
          refine wpAnyH_ready (rs := [0]) (by kernel_rfl) (by simp) ?_
          refine (AllReadyH.cons rfl (fun K hK => ?_) AllReadyH.nil)
          go_simp
          refine (wsteps_any (some ⟨g, 0, none⟩) _).mono ?_
          rintro e w5 ⟨rfl, hb⟩
          go_wp2_with fail
          have ZB := Lib.hid hb
          replace ZC := Lib.hid (ZC.out.trans (hb.mono (Nat.le_trans (Nat.le_of_lt hgz) ZC.out.size)))
          replace HW4 := Lib.hid (HW4.out.after hb)
          replace BR4 := Lib.hid (BR4.out.after hb)
          replace Z4 := Lib.hid (Z4.out.trans (hb.mono (by have := Z4.out.size; exact this)))
          refine hK.out _ _ (HK.out _ ZC.out) (fun hHeld2 => ?_)
          clear hK K hHeld
          have hHeld := hHeld2
          clear hHeld2
          (try simp only [Act.put, jA, jB, jC])
          refine tkH 4 (v := ?vr0_4) rfl ?yr0_4 ?rr0_4
          case yr0_4 => (intro w hSw; (try dsimp only at hSw); go_simp; (try with_reducible rfl))
          (try simp only [Act.put, jA, jB, jC])
          refine wpAnyH_ready (rs := [5]) (by kernel_rfl) (by simp) ?_
          refine (AllReadyH.cons rfl (fun K hK => ?_) AllReadyH.nil)
          go_simp
          refine (wpop_any (⟨w.heap.size, w.heap.size + 1 + 1 + 1, g, W, D, J, S, me, d, AT, T, ct⟩ : Wc) rfl (HWK.out g) HW4.out.st).mono ?_
          rintro e w6 ⟨rfl, W6, Z6⟩
          go_wp2_with fail
          rw [HR.out] at W6
          refine hK.out _ _ (HK.out _ (ZC.out.trans Z6.low)) (fun hHeld2 => ?_)
          clear hK K hHeld
          have hHeld := hHeld2
          clear hHeld2
          (try simp only [Act.put, jA, jB, jC])
          refine wpAnyH_done (by kernel_rfl) ?_ _
          clear hHeld
          go_wp2_with fail
          go_meet
          exact ⟨Lib.hid W6, Lib.hid (Wvb_kd BR4.out Z6 (by have := hL; show w.heap.size + 1 + 1 ≠ g; omega)), Lib.hid (Z4.out.trans (Z6.low.mono (by show w.heap.size ≤ g; omega)))⟩
      · simp only at e
        subst e
        clear hp0 hp15
        refine wp_region_held_drew (S := fun w' => Below g w4 w') (by kernel_rfl) (HK.out _ (Below.refl _ _).drew) (fun hHeld => ?_)
        refine tkH 1 (v := ?vr1_1) rfl ?yr1_1 ?rr1_1
        case yr1_1 => (intro w hSw; (try dsimp only at hSw); go_simp; (try with_reducible rfl))
        (try simp only [Act.put, jA, jB, jC])
        refine tkH 2 (v := ?vr1_2) rfl ?yr1_2 ?rr1_2
        case yr1_2 => (intro w hSw; (try dsimp only at hSw); go_simp; (try with_reducible rfl))
        (try simp only [Act.put, jA, jB, jC])
        refine wpAnyH_ready (rs := [0, 3]) (by kernel_rfl) (by simp) ?_
        refine (AllReadyH.cons rfl (fun K hK => ?_) (AllReadyH.cons rfl (fun K hK => ?_) AllReadyH.nil))
        · go_simp
          refine (wsteps_any (some ⟨g, 0, none⟩) _).mono ?_
          rintro e w5 ⟨rfl, hb⟩
          go_wp2_with fail
          have ZB := Lib.hid hb
          replace ZC := Lib.hid (ZC.out.trans (hb.mono (Nat.le_trans (Nat.le_of_lt hgz) ZC.out.size)))
          replace HW4 := Lib.hid (HW4.out.after hb)
          replace BR4 := Lib.hid (BR4.out.after hb)
          replace Z4 := Lib.hid (Z4.out.trans (hb.mono (by have := Z4.out.size; exact this)))
          obtain ⟨a0, a1, a2, a3, a4, a5, a6, a7, a8, a9, a10, a11, a12, a13, a14, a15, a16, a17, a18, a19⟩ := HW4.out.bx.cells
          have fz := HW4.out.bx.free
          simp only at a0 a1 a2 a3 a4 a5 a6 a7 a8 a9 a10 a11 a12 a13 a14 a15 a16 a17 a18 a19
          refine hK.out _ _ (HK.out _ ZC.out) (fun hHeld2 => ?_)
          clear hK K hHeld
          have hHeld := hHeld2
          clear hHeld2
          (try simp only [Act.put, jA, jB, jC])
          refine wpAnyH_ready (rs := [3]) (by kernel_rfl) (by simp) ?_
          refine (AllReadyH.cons rfl (fun K hK => ?_) AllReadyH.nil)
          go_simp
          refine hK.out _ _ (hHeld) (fun hHeld2 => ?_)
          clear hK K hHeld
          have hHeld := hHeld2
          clear hHeld2
          (try simp only [Act.put, jA, jB, jC])
          refine tkH 4 (v := ?vr1_3) rfl ?yr1_3 ?rr1_3
          case yr1_3 => (intro w hSw; (try dsimp only at hSw); go_simp; (try with_reducible rfl))
          (try simp only [Act.put, jA, jB, jC])
          refine wpAnyH_ready (rs := [5]) (by kernel_rfl) (by simp) ?_
          refine (AllReadyH.cons rfl (fun K hK => ?_) AllReadyH.nil)
          go_simp
          refine (wseek_any (⟨w.heap.size, w.heap.size + 1 + 1 + 1, g, W, D, J, S, me, d, AT, T, ct⟩ : Wc) rfl (HWK.out g) HW4.out.st).mono ?_
          rintro e w6 ⟨rfl, W6, Z6⟩
          go_wp2_with fail
          rw [HR.out] at W6
          refine hK.out _ _ (HK.out _ (ZC.out.trans Z6.low)) (fun hHeld2 => ?_)
          clear hK K hHeld
          have hHeld := hHeld2
          clear hHeld2
          (try simp only [Act.put, jA, jB, jC])
          refine wpAnyH_done (by kernel_rfl) ?_ _
          clear hHeld
          go_wp2_with fail
          go_meet
          exact ⟨Lib.hid W6, Lib.hid (Wvb_kd BR4.out Z6 (by have := hL; show w.heap.size + 1 + 1 ≠ g; omega)), Lib.hid (Z4.out.trans (Z6.low.mono (by show w.heap.size ≤ g; omega)))⟩
        · go_simp
          refine hK.out _ _ (hHeld) (fun hHeld2 => ?_)
          clear hK K hHeld
          have hHeld := hHeld2
          clear hHeld2
          (try simp only [Act.put, jA, jB, jC])
          refine wpAnyH_ready (rs := [0]) (by kernel_rfl) (by simp) ?_
          refine (AllReadyH.cons rfl (fun K hK => ?_) AllReadyH.nil)
          go_simp
          refine (wsteps_any (some ⟨g, 0, none⟩) _).mono ?_
          rintro e w5 ⟨rfl, hb⟩
          go_wp2_with fail
          have ZB := Lib.hid hb
          replace ZC := Lib.hid (ZC.out.trans (hb.mono (Nat.le_trans (Nat.le_of_lt hgz) ZC.out.size)))
          replace HW4 := Lib.hid (HW4.out.after hb)
          replace BR4 := Lib.hid (BR4.out.after hb)
          replace Z4 := Lib.hid (Z4.out.trans (hb.mono (by have := Z4.out.size; exact this)))
          refine hK.out _ _ (HK.out _ ZC.out) (fun hHeld2 => ?_)
          clear hK K hHeld
          have hHeld := hHeld2
          clear hHeld2
          (try simp only [Act.put, jA, jB, jC])
          refine tkH 4 (v := ?vr1_4) rfl ?yr1_4 ?rr1_4
          case yr1_4 => (intro w hSw; (try dsimp only at hSw); go_simp; (try with_reducible rfl))
          (try simp only [Act.put, jA, jB, jC])
          refine wpAnyH_ready (rs := [5]) (by kernel_rfl) (by simp) ?_
          refine (AllReadyH.cons rfl (fun K hK => ?_) AllReadyH.nil)
          go_simp
          refine (wseek_any (⟨w.heap.size, w.heap.size + 1 + 1 + 1, g, W, D, J, S, me, d, AT, T, ct⟩ : Wc) rfl (HWK.out g) HW4.out.st).mono ?_
          rintro e w6 ⟨rfl, W6, Z6⟩
          go_wp2_with fail
          rw [HR.out] at W6
          refine hK.out _ _ (HK.out _ (ZC.out.trans Z6.low)) (fun hHeld2 => ?_)
          clear hK K hHeld
          have hHeld := hHeld2
          clear hHeld2
          (try simp only [Act.put, jA, jB, jC])
          refine wpAnyH_done (by kernel_rfl) ?_ _
          clear hHeld
          go_wp2_with fail
          go_meet
          exact ⟨Lib.hid W6, Lib.hid (Wvb_kd BR4.out Z6 (by have := hL; show w.heap.size + 1 + 1 ≠ g; omega)), Lib.hid (Z4.out.trans (Z6.low.mono (by show w.heap.size ≤ g; omega)))⟩
      · simp only at e
        subst e
        clear hp0 hp15
        refine wp_region_held_drew (S := fun w' => Below g w4 w') (by kernel_rfl) (HK.out _ (Below.refl _ _).drew) (fun hHeld => ?_)
        refine tkH 1 (v := ?vr2_1) rfl ?yr2_1 ?rr2_1
        case yr2_1 => (intro w hSw; (try dsimp only at hSw); go_simp; (try with_reducible rfl))
        (try simp only [Act.put, jA, jB, jC])
        refine tkH 2 (v := ?vr2_2) rfl ?yr2_2 ?rr2_2
        case yr2_2 => (intro w hSw; (try dsimp only at hSw); go_simp; (try with_reducible rfl))
        (try simp only [Act.put, jA, jB, jC])
        refine wpAnyH_ready (rs := [0, 3]) (by kernel_rfl) (by simp) ?_
        refine (AllReadyH.cons rfl (fun K hK => ?_) (AllReadyH.cons rfl (fun K hK => ?_) AllReadyH.nil))
        · go_simp
          refine (wsteps_any (some ⟨g, 0, none⟩) _).mono ?_
          rintro e w5 ⟨rfl, hb⟩
          go_wp2_with fail
          have ZB := Lib.hid hb
          replace ZC := Lib.hid (ZC.out.trans (hb.mono (Nat.le_trans (Nat.le_of_lt hgz) ZC.out.size)))
          replace HW4 := Lib.hid (HW4.out.after hb)
          replace BR4 := Lib.hid (BR4.out.after hb)
          replace Z4 := Lib.hid (Z4.out.trans (hb.mono (by have := Z4.out.size; exact this)))
          obtain ⟨a0, a1, a2, a3, a4, a5, a6, a7, a8, a9, a10, a11, a12, a13, a14, a15, a16, a17, a18, a19⟩ := HW4.out.bx.cells
          have fz := HW4.out.bx.free
          simp only at a0 a1 a2 a3 a4 a5 a6 a7 a8 a9 a10 a11 a12 a13 a14 a15 a16 a17 a18 a19
          refine hK.out _ _ (HK.out _ ZC.out) (fun hHeld2 => ?_)
          clear hK K hHeld
          have hHeld := hHeld2
          clear hHeld2
          (try simp only [Act.put, jA, jB, jC])
          refine wpAnyH_ready (rs := [3]) (by kernel_rfl) (by simp) ?_
          refine (AllReadyH.cons rfl (fun K hK => ?_) AllReadyH.nil)
          go_simp
          refine hK.out _ _ (hHeld) (fun hHeld2 => ?_)
          clear hK K hHeld
          have hHeld := hHeld2
          clear hHeld2
          (try simp only [Act.put, jA, jB, jC])
          refine tkH 4 (v := ?vr2_3) rfl ?yr2_3 ?rr2_3
          case yr2_3 => (intro w hSw; (try dsimp only at hSw); go_simp; (try with_reducible rfl))
          (try simp only [Act.put, jA, jB, jC])
          refine wpAnyH_ready (rs := [5]) (by kernel_rfl) (by simp) ?_
          refine (AllReadyH.cons rfl (fun K hK => ?_) AllReadyH.nil)
          go_simp
          refine (whunt2_any (⟨w.heap.size, w.heap.size + 1 + 1 + 1, g, W, D, J, S, me, d, AT, T, ct⟩ : Wc) rfl (HWK.out g) HW4.out.st).mono ?_
          rintro e w6 ⟨rfl, W6, Z6⟩
          go_wp2_with fail
          rw [HR.out] at W6
          refine hK.out _ _ (HK.out _ (ZC.out.trans Z6.low)) (fun hHeld2 => ?_)
          clear hK K hHeld
          have hHeld := hHeld2
          clear hHeld2
          (try simp only [Act.put, jA, jB, jC])
          refine wpAnyH_done (by kernel_rfl) ?_ _
          clear hHeld
          go_wp2_with fail
          go_meet
          exact ⟨Lib.hid W6, Lib.hid (Wvb_kd BR4.out Z6 (by have := hL; show w.heap.size + 1 + 1 ≠ g; omega)), Lib.hid (Z4.out.trans (Z6.low.mono (by show w.heap.size ≤ g; omega)))⟩
        · go_simp
          refine hK.out _ _ (hHeld) (fun hHeld2 => ?_)
          clear hK K hHeld
          have hHeld := hHeld2
          clear hHeld2
          (try simp only [Act.put, jA, jB, jC])
          refine wpAnyH_ready (rs := [0]) (by kernel_rfl) (by simp) ?_
          refine (AllReadyH.cons rfl (fun K hK => ?_) AllReadyH.nil)
          go_simp
          refine (wsteps_any (some ⟨g, 0, none⟩) _).mono ?_
          rintro e w5 ⟨rfl, hb⟩
          go_wp2_with fail
          have ZB := Lib.hid hb
          replace ZC := Lib.hid (ZC.out.trans (hb.mono (Nat.le_trans (Nat.le_of_lt hgz) ZC.out.size)))
          replace HW4 := Lib.hid (HW4.out.after hb)
          replace BR4 := Lib.hid (BR4.out.after hb)
          replace Z4 := Lib.hid (Z4.out.trans (hb.mono (by have := Z4.out.size; exact this)))
          refine hK.out _ _ (HK.out _ ZC.out) (fun hHeld2 => ?_)
          clear hK K hHeld
          have hHeld := hHeld2
          clear hHeld2
          (try simp only [Act.put, jA, jB, jC])
          refine tkH 4 (v := ?vr2_4) rfl ?yr2_4 ?rr2_4
          case yr2_4 => (intro w hSw; (try dsimp only at hSw); go_simp; (try with_reducible rfl))
          (try simp only [Act.put, jA, jB, jC])
          refine wpAnyH_ready (rs := [5]) (by kernel_rfl) (by simp) ?_
          refine (AllReadyH.cons rfl (fun K hK => ?_) AllReadyH.nil)
          go_simp
          refine (whunt2_any (⟨w.heap.size, w.heap.size + 1 + 1 + 1, g, W, D, J, S, me, d, AT, T, ct⟩ : Wc) rfl (HWK.out g) HW4.out.st).mono ?_
          rintro e w6 ⟨rfl, W6, Z6⟩
          go_wp2_with fail
          rw [HR.out] at W6
          refine hK.out _ _ (HK.out _ (ZC.out.trans Z6.low)) (fun hHeld2 => ?_)
          clear hK K hHeld
          have hHeld := hHeld2
          clear hHeld2
          (try simp only [Act.put, jA, jB, jC])
          refine wpAnyH_done (by kernel_rfl) ?_ _
          clear hHeld
          go_wp2_with fail
          go_meet
          exact ⟨Lib.hid W6, Lib.hid (Wvb_kd BR4.out Z6 (by have := hL; show w.heap.size + 1 + 1 ≠ g; omega)), Lib.hid (Z4.out.trans (Z6.low.mono (by show w.heap.size ≤ g; omega)))⟩
      · simp only at e
        subst e
        clear hp0 hp15
        refine wp_region_held_drew (S := fun w' => Below g w4 w') (by kernel_rfl) (HK.out _ (Below.refl _ _).drew) (fun hHeld => ?_)
        refine tkH 1 (v := ?vr3_1) rfl ?yr3_1 ?rr3_1
        case yr3_1 => (intro w hSw; (try dsimp only at hSw); go_simp; (try with_reducible rfl))
        (try simp only [Act.put, jA, jB, jC])
        refine tkH 2 (v := ?vr3_2) rfl ?yr3_2 ?rr3_2
        case yr3_2 => (intro w hSw; (try dsimp only at hSw); go_simp; (try with_reducible rfl))
        (try simp only [Act.put, jA, jB, jC])
        refine wpAnyH_ready (rs := [0, 3]) (by kernel_rfl) (by simp) ?_
        refine (AllReadyH.cons rfl (fun K hK => ?_) (AllReadyH.cons rfl (fun K hK => ?_) AllReadyH.nil))
        · go_simp
          refine (wsteps_any (some ⟨g, 0, none⟩) _).mono ?_
          rintro e w5 ⟨rfl, hb⟩
          go_wp2_with fail
          have ZB := Lib.hid hb
          replace ZC := Lib.hid (ZC.out.trans (hb.mono (Nat.le_trans (Nat.le_of_lt hgz) ZC.out.size)))
          replace HW4 := Lib.hid (HW4.out.after hb)
          replace BR4 := Lib.hid (BR4.out.after hb)
          replace Z4 := Lib.hid (Z4.out.trans (hb.mono (by have := Z4.out.size; exact this)))
          obtain ⟨a0, a1, a2, a3, a4, a5, a6, a7, a8, a9, a10, a11, a12, a13, a14, a15, a16, a17, a18, a19⟩ := HW4.out.bx.cells
          have fz := HW4.out.bx.free
          simp only at a0 a1 a2 a3 a4 a5 a6 a7 a8 a9 a10 a11 a12 a13 a14 a15 a16 a17 a18 a19
          refine hK.out _ _ (HK.out _ ZC.out) (fun hHeld2 => ?_)
          clear hK K hHeld
          have hHeld := hHeld2
          clear hHeld2
          (try simp only [Act.put, jA, jB, jC])
          refine wpAnyH_ready (rs := [3]) (by kernel_rfl) (by simp) ?_
          refine (AllReadyH.cons rfl (fun K hK => ?_) AllReadyH.nil)
          go_simp
          refine hK.out _ _ (hHeld) (fun hHeld2 => ?_)
          clear hK K hHeld
          have hHeld := hHeld2
          clear hHeld2
          (try simp only [Act.put, jA, jB, jC])
          refine tkH 4 (v := ?vr3_3) rfl ?yr3_3 ?rr3_3
          case yr3_3 => (intro w hSw; (try dsimp only at hSw); go_simp; (try with_reducible rfl))
          (try simp only [Act.put, jA, jB, jC])
          refine wpAnyH_ready (rs := [5]) (by kernel_rfl) (by simp) ?_
          refine (AllReadyH.cons rfl (fun K hK => ?_) AllReadyH.nil)
          go_simp
          refine (whunt3_any (⟨w.heap.size, w.heap.size + 1 + 1 + 1, g, W, D, J, S, me, d, AT, T, ct⟩ : Wc) rfl (HWK.out g) HW4.out.st).mono ?_
          rintro e w6 ⟨rfl, W6, Z6⟩
          go_wp2_with fail
          rw [HR.out] at W6
          refine hK.out _ _ (HK.out _ (ZC.out.trans Z6.low)) (fun hHeld2 => ?_)
          clear hK K hHeld
          have hHeld := hHeld2
          clear hHeld2
          (try simp only [Act.put, jA, jB, jC])
          refine wpAnyH_done (by kernel_rfl) ?_ _
          clear hHeld
          go_wp2_with fail
          go_meet
          exact ⟨Lib.hid W6, Lib.hid (Wvb_kd BR4.out Z6 (by have := hL; show w.heap.size + 1 + 1 ≠ g; omega)), Lib.hid (Z4.out.trans (Z6.low.mono (by show w.heap.size ≤ g; omega)))⟩
        · go_simp
          refine hK.out _ _ (hHeld) (fun hHeld2 => ?_)
          clear hK K hHeld
          have hHeld := hHeld2
          clear hHeld2
          (try simp only [Act.put, jA, jB, jC])
          refine wpAnyH_ready (rs := [0]) (by kernel_rfl) (by simp) ?_
          refine (AllReadyH.cons rfl (fun K hK => ?_) AllReadyH.nil)
          go_simp
          refine (wsteps_any (some ⟨g, 0, none⟩) _).mono ?_
          rintro e w5 ⟨rfl, hb⟩
          go_wp2_with fail
          have ZB := Lib.hid hb
          replace ZC := Lib.hid (ZC.out.trans (hb.mono (Nat.le_trans (Nat.le_of_lt hgz) ZC.out.size)))
          replace HW4 := Lib.hid (HW4.out.after hb)
          replace BR4 := Lib.hid (BR4.out.after hb)
          replace Z4 := Lib.hid (Z4.out.trans (hb.mono (by have := Z4.out.size; exact this)))
          refine hK.out _ _ (HK.out _ ZC.out) (fun hHeld2 => ?_)
          clear hK K hHeld
          have hHeld := hHeld2
          clear hHeld2
          (try simp only [Act.put, jA, jB, jC])
          refine tkH 4 (v := ?vr3_4) rfl ?yr3_4 ?rr3_4
          case yr3_4 => (intro w hSw; (try dsimp only at hSw); go_simp; (try with_reducible rfl))
          (try simp only [Act.put, jA, jB, jC])
          refine wpAnyH_ready (rs := [5]) (by kernel_rfl) (by simp) ?_
          refine (AllReadyH.cons rfl (fun K hK => ?_) AllReadyH.nil)
          go_simp
          refine (whunt3_any (⟨w.heap.size, w.heap.size + 1 + 1 + 1, g, W, D, J, S, me, d, AT, T, ct⟩ : Wc) rfl (HWK.out g) HW4.out.st).mono ?_
          rintro e w6 ⟨rfl, W6, Z6⟩
          go_wp2_with fail
          rw [HR.out] at W6
          refine hK.out _ _ (HK.out _ (ZC.out.trans Z6.low)) (fun hHeld2 => ?_)
          clear hK K hHeld
          have hHeld := hHeld2
          clear hHeld2
          (try simp only [Act.put, jA, jB, jC])
          refine wpAnyH_done (by kernel_rfl) ?_ _
          clear hHeld
          go_wp2_with fail
          go_meet
          exact ⟨Lib.hid W6, Lib.hid (Wvb_kd BR4.out Z6 (by have := hL; show w.heap.size + 1 + 1 ≠ g; omega)), Lib.hid (Z4.out.trans (Z6.low.mono (by show w.heap.size ≤ g; omega)))⟩
      · simp only at e
        subst e
        clear hp0 hp15
        refine wp_region_held_drew (S := fun w' => Below g w4 w') (by kernel_rfl) (HK.out _ (Below.refl _ _).drew) (fun hHeld => ?_)
        refine tkH 1 (v := ?vr4_1) rfl ?yr4_1 ?rr4_1
        case yr4_1 => (intro w hSw; (try dsimp only at hSw); go_simp; (try with_reducible rfl))
        (try simp only [Act.put, jA, jB, jC])
        refine tkH 2 (v := ?vr4_2) rfl ?yr4_2 ?rr4_2
        case yr4_2 => (intro w hSw; (try dsimp only at hSw); go_simp; (try with_reducible rfl))
        (try simp only [Act.put, jA, jB, jC])
        refine wpAnyH_ready (rs := [0, 3]) (by kernel_rfl) (by simp) ?_
        refine (AllReadyH.cons rfl (fun K hK => ?_) (AllReadyH.cons rfl (fun K hK => ?_) AllReadyH.nil))
        · go_simp
          refine (wsteps_any (some ⟨g, 0, none⟩) _).mono ?_
          rintro e w5 ⟨rfl, hb⟩
          go_wp2_with fail
          have ZB := Lib.hid hb
          replace ZC := Lib.hid (ZC.out.trans (hb.mono (Nat.le_trans (Nat.le_of_lt hgz) ZC.out.size)))
          replace HW4 := Lib.hid (HW4.out.after hb)
          replace BR4 := Lib.hid (BR4.out.after hb)
          replace Z4 := Lib.hid (Z4.out.trans (hb.mono (by have := Z4.out.size; exact this)))
          obtain ⟨a0, a1, a2, a3, a4, a5, a6, a7, a8, a9, a10, a11, a12, a13, a14, a15, a16, a17, a18, a19⟩ := HW4.out.bx.cells
          have fz := HW4.out.bx.free
          simp only at a0 a1 a2 a3 a4 a5 a6 a7 a8 a9 a10 a11 a12 a13 a14 a15 a16 a17 a18 a19
          refine hK.out _ _ (HK.out _ ZC.out) (fun hHeld2 => ?_)
          clear hK K hHeld
          have hHeld := hHeld2
          clear hHeld2
          (try simp only [Act.put, jA, jB, jC])
          refine wpAnyH_ready (rs := [3]) (by kernel_rfl) (by simp) ?_
          refine (AllReadyH.cons rfl (fun K hK => ?_) AllReadyH.nil)
          go_simp
          refine hK.out _ _ (hHeld) (fun hHeld2 => ?_)
          clear hK K hHeld
          have hHeld := hHeld2
          clear hHeld2
          (try simp only [Act.put, jA, jB, jC])
          refine tkH 4 (v := ?vr4_3) rfl ?yr4_3 ?rr4_3
          case yr4_3 => (intro w hSw; (try dsimp only at hSw); go_simp; (try with_reducible rfl))
          (try simp only [Act.put, jA, jB, jC])
          refine wpAnyH_ready (rs := [5]) (by kernel_rfl) (by simp) ?_
          refine (AllReadyH.cons rfl (fun K hK => ?_) AllReadyH.nil)
          go_simp
          refine (wfound_any (⟨w.heap.size, w.heap.size + 1 + 1 + 1, g, W, D, J, S, me, d, AT, T, ct⟩ : Wc) rfl (HWK.out g) HW4.out.st).mono ?_
          rintro e w6 ⟨rfl, W6, Z6⟩
          go_wp2_with fail
          rw [HR.out] at W6
          refine hK.out _ _ (HK.out _ (ZC.out.trans Z6.low)) (fun hHeld2 => ?_)
          clear hK K hHeld
          have hHeld := hHeld2
          clear hHeld2
          (try simp only [Act.put, jA, jB, jC])
          refine wpAnyH_done (by kernel_rfl) ?_ _
          clear hHeld
          go_wp2_with fail
          go_meet
          exact ⟨Lib.hid W6, Lib.hid (Wvb_kd BR4.out Z6 (by have := hL; show w.heap.size + 1 + 1 ≠ g; omega)), Lib.hid (Z4.out.trans (Z6.low.mono (by show w.heap.size ≤ g; omega)))⟩
        · go_simp
          refine hK.out _ _ (hHeld) (fun hHeld2 => ?_)
          clear hK K hHeld
          have hHeld := hHeld2
          clear hHeld2
          (try simp only [Act.put, jA, jB, jC])
          refine wpAnyH_ready (rs := [0]) (by kernel_rfl) (by simp) ?_
          refine (AllReadyH.cons rfl (fun K hK => ?_) AllReadyH.nil)
          go_simp
          refine (wsteps_any (some ⟨g, 0, none⟩) _).mono ?_
          rintro e w5 ⟨rfl, hb⟩
          go_wp2_with fail
          have ZB := Lib.hid hb
          replace ZC := Lib.hid (ZC.out.trans (hb.mono (Nat.le_trans (Nat.le_of_lt hgz) ZC.out.size)))
          replace HW4 := Lib.hid (HW4.out.after hb)
          replace BR4 := Lib.hid (BR4.out.after hb)
          replace Z4 := Lib.hid (Z4.out.trans (hb.mono (by have := Z4.out.size; exact this)))
          refine hK.out _ _ (HK.out _ ZC.out) (fun hHeld2 => ?_)
          clear hK K hHeld
          have hHeld := hHeld2
          clear hHeld2
          (try simp only [Act.put, jA, jB, jC])
          refine tkH 4 (v := ?vr4_4) rfl ?yr4_4 ?rr4_4
          case yr4_4 => (intro w hSw; (try dsimp only at hSw); go_simp; (try with_reducible rfl))
          (try simp only [Act.put, jA, jB, jC])
          refine wpAnyH_ready (rs := [5]) (by kernel_rfl) (by simp) ?_
          refine (AllReadyH.cons rfl (fun K hK => ?_) AllReadyH.nil)
          go_simp
          refine (wfound_any (⟨w.heap.size, w.heap.size + 1 + 1 + 1, g, W, D, J, S, me, d, AT, T, ct⟩ : Wc) rfl (HWK.out g) HW4.out.st).mono ?_
          rintro e w6 ⟨rfl, W6, Z6⟩
          go_wp2_with fail
          rw [HR.out] at W6
          refine hK.out _ _ (HK.out _ (ZC.out.trans Z6.low)) (fun hHeld2 => ?_)
          clear hK K hHeld
          have hHeld := hHeld2
          clear hHeld2
          (try simp only [Act.put, jA, jB, jC])
          refine wpAnyH_done (by kernel_rfl) ?_ _
          clear hHeld
          go_wp2_with fail
          go_meet
          exact ⟨Lib.hid W6, Lib.hid (Wvb_kd BR4.out Z6 (by have := hL; show w.heap.size + 1 + 1 ≠ g; omega)), Lib.hid (Z4.out.trans (Z6.low.mono (by show w.heap.size ≤ g; omega)))⟩
      · simp only at e
        subst e
        clear hp0 hp15
        refine wp_region_held_drew (S := fun w' => Below g w4 w') (by kernel_rfl) (HK.out _ (Below.refl _ _).drew) (fun hHeld => ?_)
        refine tkH 1 (v := ?vr5_1) rfl ?yr5_1 ?rr5_1
        case yr5_1 => (intro w hSw; (try dsimp only at hSw); go_simp; (try with_reducible rfl))
        (try simp only [Act.put, jA, jB, jC])
        refine tkH 2 (v := ?vr5_2) rfl ?yr5_2 ?rr5_2
        case yr5_2 => (intro w hSw; (try dsimp only at hSw); go_simp; (try with_reducible rfl))
        (try simp only [Act.put, jA, jB, jC])
        refine wpAnyH_ready (rs := [0, 3]) (by kernel_rfl) (by simp) ?_
        refine (AllReadyH.cons rfl (fun K hK => ?_) (AllReadyH.cons rfl (fun K hK => ?_) AllReadyH.nil))
        · go_simp
          refine (wsteps_any (some ⟨g, 0, none⟩) _).mono ?_
          rintro e w5 ⟨rfl, hb⟩
          go_wp2_with fail
          have ZB := Lib.hid hb
          replace ZC := Lib.hid (ZC.out.trans (hb.mono (Nat.le_trans (Nat.le_of_lt hgz) ZC.out.size)))
          replace HW4 := Lib.hid (HW4.out.after hb)
          replace BR4 := Lib.hid (BR4.out.after hb)
          replace Z4 := Lib.hid (Z4.out.trans (hb.mono (by have := Z4.out.size; exact this)))
          obtain ⟨a0, a1, a2, a3, a4, a5, a6, a7, a8, a9, a10, a11, a12, a13, a14, a15, a16, a17, a18, a19⟩ := HW4.out.bx.cells
          have fz := HW4.out.bx.free
          simp only at a0 a1 a2 a3 a4 a5 a6 a7 a8 a9 a10 a11 a12 a13 a14 a15 a16 a17 a18 a19
          refine hK.out _ _ (HK.out _ ZC.out) (fun hHeld2 => ?_)
          clear hK K hHeld
          have hHeld := hHeld2
          clear hHeld2
          (try simp only [Act.put, jA, jB, jC])
          refine wpAnyH_ready (rs := [3]) (by kernel_rfl) (by simp) ?_
          refine (AllReadyH.cons rfl (fun K hK => ?_) AllReadyH.nil)
          go_simp
          refine hK.out _ _ (hHeld) (fun hHeld2 => ?_)
          clear hK K hHeld
          have hHeld := hHeld2
          clear hHeld2
          (try simp only [Act.put, jA, jB, jC])
          refine tkH 4 (v := ?vr5_3) rfl ?yr5_3 ?rr5_3
          case yr5_3 => (intro w hSw; (try dsimp only at hSw); go_simp; (try with_reducible rfl))
          (try simp only [Act.put, jA, jB, jC])
          refine wpAnyH_ready (rs := [5]) (by kernel_rfl) (by simp) ?_
          refine (AllReadyH.cons rfl (fun K hK => ?_) AllReadyH.nil)
          go_simp
          refine (wprep_any (⟨w.heap.size, w.heap.size + 1 + 1 + 1, g, W, D, J, S, me, d, AT, T, ct⟩ : Wc) rfl (HWK.out g) HW4.out.st).mono ?_
          rintro e w6 ⟨rfl, W6, Z6⟩
          go_wp2_with fail
          rw [HR.out] at W6
          refine hK.out _ _ (HK.out _ (ZC.out.trans Z6.low)) (fun hHeld2 => ?_)
          clear hK K hHeld
          have hHeld := hHeld2
          clear hHeld2
          (try simp only [Act.put, jA, jB, jC])
          refine wpAnyH_done (by kernel_rfl) ?_ _
          clear hHeld
          go_wp2_with fail
          go_meet
          exact ⟨Lib.hid W6, Lib.hid (Wvb_kd BR4.out Z6 (by have := hL; show w.heap.size + 1 + 1 ≠ g; omega)), Lib.hid (Z4.out.trans (Z6.low.mono (by show w.heap.size ≤ g; omega)))⟩
        · go_simp
          refine hK.out _ _ (hHeld) (fun hHeld2 => ?_)
          clear hK K hHeld
          have hHeld := hHeld2
          clear hHeld2
          (try simp only [Act.put, jA, jB, jC])
          refine wpAnyH_ready (rs := [0]) (by kernel_rfl) (by simp) ?_
          refine (AllReadyH.cons rfl (fun K hK => ?_) AllReadyH.nil)
          go_simp
          refine (wsteps_any (some ⟨g, 0, none⟩) _).mono ?_
          rintro e w5 ⟨rfl, hb⟩
          go_wp2_with fail
          have ZB := Lib.hid hb
          replace ZC := Lib.hid (ZC.out.trans (hb.mono (Nat.le_trans (Nat.le_of_lt hgz) ZC.out.size)))
          replace HW4 := Lib.hid (HW4.out.after hb)
          replace BR4 := Lib.hid (BR4.out.after hb)
          replace Z4 := Lib.hid (Z4.out.trans (hb.mono (by have := Z4.out.size; exact this)))
          refine hK.out _ _ (HK.out _ ZC.out) (fun hHeld2 => ?_)
          clear hK K hHeld
          have hHeld := hHeld2
          clear hHeld2
          (try simp only [Act.put, jA, jB, jC])
          refine tkH 4 (v := ?vr5_4) rfl ?yr5_4 ?rr5_4
          case yr5_4 => (intro w hSw; (try dsimp only at hSw); go_simp; (try with_reducible rfl))
          (try simp only [Act.put, jA, jB, jC])
          refine wpAnyH_ready (rs := [5]) (by kernel_rfl) (by simp) ?_
          refine (AllReadyH.cons rfl (fun K hK => ?_) AllReadyH.nil)
          go_simp
          refine (wprep_any (⟨w.heap.size, w.heap.size + 1 + 1 + 1, g, W, D, J, S, me, d, AT, T, ct⟩ : Wc) rfl (HWK.out g) HW4.out.st).mono ?_
          rintro e w6 ⟨rfl, W6, Z6⟩
          go_wp2_with fail
          rw [HR.out] at W6
          refine hK.out _ _ (HK.out _ (ZC.out.trans Z6.low)) (fun hHeld2 => ?_)
          clear hK K hHeld
          have hHeld := hHeld2
          clear hHeld2
          (try simp only [Act.put, jA, jB, jC])
          refine wpAnyH_done (by kernel_rfl) ?_ _
          clear hHeld
          go_wp2_with fail
          go_meet
          exact ⟨Lib.hid W6, Lib.hid (Wvb_kd BR4.out Z6 (by have := hL; show w.heap.size + 1 + 1 ≠ g; omega)), Lib.hid (Z4.out.trans (Z6.low.mono (by show w.heap.size ≤ g; omega)))⟩
      · simp only at e
        subst e
        clear hp0 hp15
        refine wp_region_held_drew (S := fun w' => Below g w4 w') (by kernel_rfl) (HK.out _ (Below.refl _ _).drew) (fun hHeld => ?_)
        refine tkH 1 (v := ?vr6_1) rfl ?yr6_1 ?rr6_1
        case yr6_1 => (intro w hSw; (try dsimp only at hSw); go_simp; (try with_reducible rfl))
        (try simp only [Act.put, jA, jB, jC])
        refine tkH 2 (v := ?vr6_2) rfl ?yr6_2 ?rr6_2
        case yr6_2 => (intro w hSw; (try dsimp only at hSw); go_simp; (try with_reducible rfl))
        (try simp only [Act.put, jA, jB, jC])
        refine wpAnyH_ready (rs := [0, 3]) (by kernel_rfl) (by simp) ?_
        refine (AllReadyH.cons rfl (fun K hK => ?_) (AllReadyH.cons rfl (fun K hK => ?_) AllReadyH.nil))
        · go_simp
          refine (wsteps_any (some ⟨g, 0, none⟩) _).mono ?_
          rintro e w5 ⟨rfl, hb⟩
          go_wp2_with fail
          have ZB := Lib.hid hb
          replace ZC := Lib.hid (ZC.out.trans (hb.mono (Nat.le_trans (Nat.le_of_lt hgz) ZC.out.size)))
          replace HW4 := Lib.hid (HW4.out.after hb)
          replace BR4 := Lib.hid (BR4.out.after hb)
          replace Z4 := Lib.hid (Z4.out.trans (hb.mono (by have := Z4.out.size; exact this)))
          obtain ⟨a0, a1, a2, a3, a4, a5, a6, a7, a8, a9, a10, a11, a12, a13, a14, a15, a16, a17, a18, a19⟩ := HW4.out.bx.cells
          have fz := HW4.out.bx.free
          simp only at a0 a1 a2 a3 a4 a5 a6 a7 a8 a9 a10 a11 a12 a13 a14 a15 a16 a17 a18 a19
          refine hK.out _ _ (HK.out _ ZC.out) (fun hHeld2 => ?_)
          clear hK K hHeld
          have hHeld := hHeld2
          clear hHeld2
          (try simp only [Act.put, jA, jB, jC])
          refine wpAnyH_ready (rs := [3]) (by kernel_rfl) (by simp) ?_
          refine (AllReadyH.cons rfl (fun K hK => ?_) AllReadyH.nil)
          go_simp
          refine hK.out _ _ (hHeld) (fun hHeld2 => ?_)
          clear hK K hHeld
          have hHeld := hHeld2
          clear hHeld2
          (try simp only [Act.put, jA, jB, jC])
          refine tkH 4 (v := ?vr6_3) rfl ?yr6_3 ?rr6_3
          case yr6_3 => (intro w hSw; (try dsimp only at hSw); go_simp; (try with_reducible rfl))
          (try simp only [Act.put, jA, jB, jC])
          refine wpAnyH_ready (rs := [5]) (by kernel_rfl) (by simp) ?_
          refine (AllReadyH.cons rfl (fun K hK => ?_) AllReadyH.nil)
          go_simp
          refine (wleave_any (⟨w.heap.size, w.heap.size + 1 + 1 + 1, g, W, D, J, S, me, d, AT, T, ct⟩ : Wc) rfl (HWK.out g) HW4.out.st).mono ?_
          rintro e w6 ⟨rfl, W6, Z6⟩
          go_wp2_with fail
          rw [HR.out] at W6
          refine hK.out _ _ (HK.out _ (ZC.out.trans Z6.low)) (fun hHeld2 => ?_)
          clear hK K hHeld
          have hHeld := hHeld2
          clear hHeld2
          (try simp only [Act.put, jA, jB, jC])
          refine wpAnyH_done (by kernel_rfl) ?_ _
          clear hHeld
          go_wp2_with fail
          go_meet
          exact ⟨Lib.hid W6, Lib.hid (Wvb_kd BR4.out Z6 (by have := hL; show w.heap.size + 1 + 1 ≠ g; omega)), Lib.hid (Z4.out.trans (Z6.low.mono (by show w.heap.size ≤ g; omega)))⟩
        · go_simp
          refine hK.out _ _ (hHeld) (fun hHeld2 => ?_)
          clear hK K hHeld
          have hHeld := hHeld2
          clear hHeld2
          (try simp only [Act.put, jA, jB, jC])
          refine wpAnyH_ready (rs := [0]) (by kernel_rfl) (by simp) ?_
          refine (AllReadyH.cons rfl (fun K hK => ?_) AllReadyH.nil)
          go_simp
          refine (wsteps_any (some ⟨g, 0, none⟩) _).mono ?_
          rintro e w5 ⟨rfl, hb⟩
          go_wp2_with fail
          have ZB := Lib.hid hb
          replace ZC := Lib.hid (ZC.out.trans (hb.mono (Nat.le_trans (Nat.le_of_lt hgz) ZC.out.size)))
          replace HW4 := Lib.hid (HW4.out.after hb)
          replace BR4 := Lib.hid (BR4.out.after hb)
          replace Z4 := Lib.hid (Z4.out.trans (hb.mono (by have := Z4.out.size; exact this)))
          refine hK.out _ _ (HK.out _ ZC.out) (fun hHeld2 => ?_)
          clear hK K hHeld
          have hHeld := hHeld2
          clear hHeld2
          (try simp only [Act.put, jA, jB, jC])
          refine tkH 4 (v := ?vr6_4) rfl ?yr6_4 ?rr6_4
          case yr6_4 => (intro w hSw; (try dsimp only at hSw); go_simp; (try with_reducible rfl))
          (try simp only [Act.put, jA, jB, jC])
          refine wpAnyH_ready (rs := [5]) (by kernel_rfl) (by simp) ?_
          refine (AllReadyH.cons rfl (fun K hK => ?_) AllReadyH.nil)
          go_simp
          refine (wleave_any (⟨w.heap.size, w.heap.size + 1 + 1 + 1, g, W, D, J, S, me, d, AT, T, ct⟩ : Wc) rfl (HWK.out g) HW4.out.st).mono ?_
          rintro e w6 ⟨rfl, W6, Z6⟩
          go_wp2_with fail
          rw [HR.out] at W6
          refine hK.out _ _ (HK.out _ (ZC.out.trans Z6.low)) (fun hHeld2 => ?_)
          clear hK K hHeld
          have hHeld := hHeld2
          clear hHeld2
          (try simp only [Act.put, jA, jB, jC])
          refine wpAnyH_done (by kernel_rfl) ?_ _
          clear hHeld
          go_wp2_with fail
          go_meet
          exact ⟨Lib.hid W6, Lib.hid (Wvb_kd BR4.out Z6 (by have := hL; show w.heap.size + 1 + 1 ≠ g; omega)), Lib.hid (Z4.out.trans (Z6.low.mono (by show w.heap.size ≤ g; omega)))⟩
      · simp only at e
        subst e
        clear hp0 hp15
        refine wp_region_held_drew (S := fun w' => Below g w4 w') (by kernel_rfl) (HK.out _ (Below.refl _ _).drew) (fun hHeld => ?_)
        refine tkH 1 (v := ?vr7_1) rfl ?yr7_1 ?rr7_1
        case yr7_1 => (intro w hSw; (try dsimp only at hSw); go_simp; (try with_reducible rfl))
        (try simp only [Act.put, jA, jB, jC])
        refine tkH 2 (v := ?vr7_2) rfl ?yr7_2 ?rr7_2
        case yr7_2 => (intro w hSw; (try dsimp only at hSw); go_simp; (try with_reducible rfl))
        (try simp only [Act.put, jA, jB, jC])
        refine wpAnyH_ready (rs := [0, 3]) (by kernel_rfl) (by simp) ?_
        refine (AllReadyH.cons rfl (fun K hK => ?_) (AllReadyH.cons rfl (fun K hK => ?_) AllReadyH.nil))
        · go_simp
          refine (wsteps_any (some ⟨g, 0, none⟩) _).mono ?_
          rintro e w5 ⟨rfl, hb⟩
          go_wp2_with fail
          have ZB := Lib.hid hb
          replace ZC := Lib.hid (ZC.out.trans (hb.mono (Nat.le_trans (Nat.le_of_lt hgz) ZC.out.size)))
          replace HW4 := Lib.hid (HW4.out.after hb)
          replace BR4 := Lib.hid (BR4.out.after hb)
          replace Z4 := Lib.hid (Z4.out.trans (hb.mono (by have := Z4.out.size; exact this)))
          obtain ⟨a0, a1, a2, a3, a4, a5, a6, a7, a8, a9, a10, a11, a12, a13, a14, a15, a16, a17, a18, a19⟩ := HW4.out.bx.cells
          have fz := HW4.out.bx.free
          simp only at a0 a1 a2 a3 a4 a5 a6 a7 a8 a9 a10 a11 a12 a13 a14 a15 a16 a17 a18 a19
          refine hK.out _ _ (HK.out _ ZC.out) (fun hHeld2 => ?_)
          clear hK K hHeld
          have hHeld := hHeld2
          clear hHeld2
          (try simp only [Act.put, jA, jB, jC])
          refine wpAnyH_ready (rs := [3]) (by kernel_rfl) (by simp) ?_
          refine (AllReadyH.cons rfl (fun K hK => ?_) AllReadyH.nil)
          go_simp
          refine hK.out _ _ (hHeld) (fun hHeld2 => ?_)
          clear hK K hHeld
          have hHeld := hHeld2
          clear hHeld2
          (try simp only [Act.put, jA, jB, jC])
          refine tkH 4 (v := ?vr7_3) rfl ?yr7_3 ?rr7_3
          case yr7_3 => (intro w hSw; (try dsimp only at hSw); go_simp; (try with_reducible rfl))
          (try simp only [Act.put, jA, jB, jC])
          refine wpAnyH_ready (rs := [5]) (by kernel_rfl) (by simp) ?_
          refine (AllReadyH.cons rfl (fun K hK => ?_) AllReadyH.nil)
          go_simp
          refine (wlook_any (⟨w.heap.size, w.heap.size + 1 + 1 + 1, g, W, D, J, S, me, d, AT, T, ct⟩ : Wc) rfl (HWK.out g) HW4.out.st).mono ?_
          rintro e w6 ⟨rfl, W6, Z6⟩
          go_wp2_with fail
          rw [HR.out] at W6
          refine hK.out _ _ (HK.out _ (ZC.out.trans Z6.low)) (fun hHeld2 => ?_)
          clear hK K hHeld
          have hHeld := hHeld2
          clear hHeld2
          (try simp only [Act.put, jA, jB, jC])
          refine wpAnyH_done (by kernel_rfl) ?_ _
          clear hHeld
          go_wp2_with fail
          go_meet
          exact ⟨Lib.hid W6, Lib.hid (Wvb_kd BR4.out Z6 (by have := hL; show w.heap.size + 1 + 1 ≠ g; omega)), Lib.hid (Z4.out.trans (Z6.low.mono (by show w.heap.size ≤ g; omega)))⟩
        · go_simp
          refine hK.out _ _ (hHeld) (fun hHeld2 => ?_)
          clear hK K hHeld
          have hHeld := hHeld2
          clear hHeld2
          (try simp only [Act.put, jA, jB, jC])
          refine wpAnyH_ready (rs := [0]) (by kernel_rfl) (by simp) ?_
          refine (AllReadyH.cons rfl (fun K hK => ?_) AllReadyH.nil)
          go_simp
          refine (wsteps_any (some ⟨g, 0, none⟩) _).mono ?_
          rintro e w5 ⟨rfl, hb⟩
          go_wp2_with fail
          have ZB := Lib.hid hb
          replace ZC := Lib.hid (ZC.out.trans (hb.mono (Nat.le_trans (Nat.le_of_lt hgz) ZC.out.size)))
          replace HW4 := Lib.hid (HW4.out.after hb)
          replace BR4 := Lib.hid (BR4.out.after hb)
          replace Z4 := Lib.hid (Z4.out.trans (hb.mono (by have := Z4.out.size; exact this)))
          refine hK.out _ _ (HK.out _ ZC.out) (fun hHeld2 => ?_)
          clear hK K hHeld
          have hHeld := hHeld2
          clear hHeld2
          (try simp only [Act.put, jA, jB, jC])
          refine tkH 4 (v := ?vr7_4) rfl ?yr7_4 ?rr7_4
          case yr7_4 => (intro w hSw; (try dsimp only at hSw); go_simp; (try with_reducible rfl))
          (try simp only [Act.put, jA, jB, jC])
          refine wpAnyH_ready (rs := [5]) (by kernel_rfl) (by simp) ?_
          refine (AllReadyH.cons rfl (fun K hK => ?_) AllReadyH.nil)
          go_simp
          refine (wlook_any (⟨w.heap.size, w.heap.size + 1 + 1 + 1, g, W, D, J, S, me, d, AT, T, ct⟩ : Wc) rfl (HWK.out g) HW4.out.st).mono ?_
          rintro e w6 ⟨rfl, W6, Z6⟩
          go_wp2_with fail
          rw [HR.out] at W6
          refine hK.out _ _ (HK.out _ (ZC.out.trans Z6.low)) (fun hHeld2 => ?_)
          clear hK K hHeld
          have hHeld := hHeld2
          clear hHeld2
          (try simp only [Act.put, jA, jB, jC])
          refine wpAnyH_done (by kernel_rfl) ?_ _
          clear hHeld
          go_wp2_with fail
          go_meet
          exact ⟨Lib.hid W6, Lib.hid (Wvb_kd BR4.out Z6 (by have := hL; show w.heap.size + 1 + 1 ≠ g; omega)), Lib.hid (Z4.out.trans (Z6.low.mono (by show w.heap.size ≤ g; omega)))⟩
      · simp only at e
        subst e
        clear hp0 hp15
        refine wp_region_held_drew (S := fun w' => Below g w4 w') (by kernel_rfl) (HK.out _ (Below.refl _ _).drew) (fun hHeld => ?_)
        refine tkH 1 (v := ?vr8_1) rfl ?yr8_1 ?rr8_1
        case yr8_1 => (intro w hSw; (try dsimp only at hSw); go_simp; (try with_reducible rfl))
        (try simp only [Act.put, jA, jB, jC])
        refine tkH 2 (v := ?vr8_2) rfl ?yr8_2 ?rr8_2
        case yr8_2 => (intro w hSw; (try dsimp only at hSw); go_simp; (try with_reducible rfl))
        (try simp only [Act.put, jA, jB, jC])
        refine wpAnyH_ready (rs := [0, 3]) (by kernel_rfl) (by simp) ?_
        refine (AllReadyH.cons rfl (fun K hK => ?_) (AllReadyH.cons rfl (fun K hK => ?_) AllReadyH.nil))
        · go_simp
          refine (wsteps_any (some ⟨g, 0, none⟩) _).mono ?_
          rintro e w5 ⟨rfl, hb⟩
          go_wp2_with fail
          have ZB := Lib.hid hb
          replace ZC := Lib.hid (ZC.out.trans (hb.mono (Nat.le_trans (Nat.le_of_lt hgz) ZC.out.size)))
          replace HW4 := Lib.hid (HW4.out.after hb)
          replace BR4 := Lib.hid (BR4.out.after hb)
          replace Z4 := Lib.hid (Z4.out.trans (hb.mono (by have := Z4.out.size; exact this)))
          obtain ⟨a0, a1, a2, a3, a4, a5, a6, a7, a8, a9, a10, a11, a12, a13, a14, a15, a16, a17, a18, a19⟩ := HW4.out.bx.cells
          have fz := HW4.out.bx.free
          simp only at a0 a1 a2 a3 a4 a5 a6 a7 a8 a9 a10 a11 a12 a13 a14 a15 a16 a17 a18 a19
          refine hK.out _ _ (HK.out _ ZC.out) (fun hHeld2 => ?_)
          clear hK K hHeld
          have hHeld := hHeld2
          clear hHeld2
          (try simp only [Act.put, jA, jB, jC])
          refine wpAnyH_ready (rs := [3]) (by kernel_rfl) (by simp) ?_
          refine (AllReadyH.cons rfl (fun K hK => ?_) AllReadyH.nil)
          go_simp
          refine hK.out _ _ (hHeld) (fun hHeld2 => ?_)
          clear hK K hHeld
          have hHeld := hHeld2
          clear hHeld2
          (try simp only [Act.put, jA, jB, jC])
          refine tkH 4 (v := ?vr8_3) rfl ?yr8_3 ?rr8_3
          case yr8_3 => (intro w hSw; (try dsimp only at hSw); go_simp; (try with_reducible rfl))
          (try simp only [Act.put, jA, jB, jC])
          refine wpAnyH_ready (rs := [5]) (by kernel_rfl) (by simp) ?_
          refine (AllReadyH.cons rfl (fun K hK => ?_) AllReadyH.nil)
          go_simp
          refine (wcommit_any (⟨w.heap.size, w.heap.size + 1 + 1 + 1, g, W, D, J, S, me, d, AT, T, ct⟩ : Wc) rfl (HWK.out g) HW4.out.st).mono ?_
          rintro e w6 ⟨rfl, W6, Z6⟩
          go_wp2_with fail
          rw [HR.out] at W6
          refine hK.out _ _ (HK.out _ (ZC.out.trans Z6.low)) (fun hHeld2 => ?_)
          clear hK K hHeld
          have hHeld := hHeld2
          clear hHeld2
          (try simp only [Act.put, jA, jB, jC])
          refine wpAnyH_done (by kernel_rfl) ?_ _
          clear hHeld
          go_wp2_with fail
          go_meet
          exact ⟨Lib.hid W6, Lib.hid (Wvb_kd BR4.out Z6 (by have := hL; show w.heap.size + 1 + 1 ≠ g; omega)), Lib.hid (Z4.out.trans (Z6.low.mono (by show w.heap.size ≤ g; omega)))⟩
        · go_simp
          refine hK.out _ _ (hHeld) (fun hHeld2 => ?_)
          clear hK K hHeld
          have hHeld := hHeld2
          clear hHeld2
          (try simp only [Act.put, jA, jB, jC])
          refine wpAnyH_ready (rs := [0]) (by kernel_rfl) (by simp) ?_
          refine (AllReadyH.cons rfl (fun K hK => ?_) AllReadyH.nil)
          go_simp
          refine (wsteps_any (some ⟨g, 0, none⟩) _).mono ?_
          rintro e w5 ⟨rfl, hb⟩
          go_wp2_with fail
          have ZB := Lib.hid hb
          replace ZC := Lib.hid (ZC.out.trans (hb.mono (Nat.le_trans (Nat.le_of_lt hgz) ZC.out.size)))
          replace HW4 := Lib.hid (HW4.out.after hb)
          replace BR4 := Lib.hid (BR4.out.after hb)
          replace Z4 := Lib.hid (Z4.out.trans (hb.mono (by have := Z4.out.size; exact this)))
          refine hK.out _ _ (HK.out _ ZC.out) (fun hHeld2 => ?_)
          clear hK K hHeld
          have hHeld := hHeld2
          clear hHeld2
          (try simp only [Act.put, jA, jB, jC])
          refine tkH 4 (v := ?vr8_4) rfl ?yr8_4 ?rr8_4
          case yr8_4 => (intro w hSw; (try dsimp only at hSw); go_simp; (try with_reducible rfl))
          (try simp only [Act.put, jA, jB, jC])
          refine wpAnyH_ready (rs := [5]) (by kernel_rfl) (by simp) ?_
          refine (AllReadyH.cons rfl (fun K hK => ?_) AllReadyH.nil)
          go_simp
          refine (wcommit_any (⟨w.heap.size, w.heap.size + 1 + 1 + 1, g, W, D, J, S, me, d, AT, T, ct⟩ : Wc) rfl (HWK.out g) HW4.out.st).mono ?_
          rintro e w6 ⟨rfl, W6, Z6⟩
          go_wp2_with fail
          rw [HR.out] at W6
          refine hK.out _ _ (HK.out _ (ZC.out.trans Z6.low)) (fun hHeld2 => ?_)
          clear hK K hHeld
          have hHeld := hHeld2
          clear hHeld2
          (try simp only [Act.put, jA, jB, jC])
          refine wpAnyH_done (by kernel_rfl) ?_ _
          clear hHeld
          go_wp2_with fail
          go_meet
          exact ⟨Lib.hid W6, Lib.hid (Wvb_kd BR4.out Z6 (by have := hL; show w.heap.size + 1 + 1 ≠ g; omega)), Lib.hid (Z4.out.trans (Z6.low.mono (by show w.heap.size ≤ g; omega)))⟩
      · simp only at e
        subst e
        clear hp0 hp15
        refine wp_region_held_drew (S := fun w' => Below g w4 w') (by kernel_rfl) (HK.out _ (Below.refl _ _).drew) (fun hHeld => ?_)
        refine tkH 1 (v := ?vr9_1) rfl ?yr9_1 ?rr9_1
        case yr9_1 => (intro w hSw; (try dsimp only at hSw); go_simp; (try with_reducible rfl))
        (try simp only [Act.put, jA, jB, jC])
        refine tkH 2 (v := ?vr9_2) rfl ?yr9_2 ?rr9_2
        case yr9_2 => (intro w hSw; (try dsimp only at hSw); go_simp; (try with_reducible rfl))
        (try simp only [Act.put, jA, jB, jC])
        refine wpAnyH_ready (rs := [0, 3]) (by kernel_rfl) (by simp) ?_
        refine (AllReadyH.cons rfl (fun K hK => ?_) (AllReadyH.cons rfl (fun K hK => ?_) AllReadyH.nil))
        · go_simp
          refine (wsteps_any (some ⟨g, 0, none⟩) _).mono ?_
          rintro e w5 ⟨rfl, hb⟩
          go_wp2_with fail
          have ZB := Lib.hid hb
          replace ZC := Lib.hid (ZC.out.trans (hb.mono (Nat.le_trans (Nat.le_of_lt hgz) ZC.out.size)))
          replace HW4 := Lib.hid (HW4.out.after hb)
          replace BR4 := Lib.hid (BR4.out.after hb)
          replace Z4 := Lib.hid (Z4.out.trans (hb.mono (by have := Z4.out.size; exact this)))
          obtain ⟨a0, a1, a2, a3, a4, a5, a6, a7, a8, a9, a10, a11, a12, a13, a14, a15, a16, a17, a18, a19⟩ := HW4.out.bx.cells
          have fz := HW4.out.bx.free
          simp only at a0 a1 a2 a3 a4 a5 a6 a7 a8 a9 a10 a11 a12 a13 a14 a15 a16 a17 a18 a19
          refine hK.out _ _ (HK.out _ ZC.out) (fun hHeld2 => ?_)
          clear hK K hHeld
          have hHeld := hHeld2
          clear hHeld2
          (try simp only [Act.put, jA, jB, jC])
          refine wpAnyH_ready (rs := [3]) (by kernel_rfl) (by simp) ?_
          refine (AllReadyH.cons rfl (fun K hK => ?_) AllReadyH.nil)
          go_simp
          refine hK.out _ _ (hHeld) (fun hHeld2 => ?_)
          clear hK K hHeld
          have hHeld := hHeld2
          clear hHeld2
          (try simp only [Act.put, jA, jB, jC])
          refine tkH 4 (v := ?vr9_3) rfl ?yr9_3 ?rr9_3
          case yr9_3 => (intro w hSw; (try dsimp only at hSw); go_simp; (try with_reducible rfl))
          (try simp only [Act.put, jA, jB, jC])
          refine wpAnyH_ready (rs := [5]) (by kernel_rfl) (by simp) ?_
          refine (AllReadyH.cons rfl (fun K hK => ?_) AllReadyH.nil)
          go_simp
          refine (wrun_any (⟨w.heap.size, w.heap.size + 1 + 1 + 1, g, W, D, J, S, me, d, AT, T, ct⟩ : Wc) rfl (HWK.out g) HW4.out.st).mono ?_
          rintro e w6 ⟨rfl, W6, Z6⟩
          go_wp2_with fail
          rw [HR.out] at W6
          refine hK.out _ _ (HK.out _ (ZC.out.trans Z6.low)) (fun hHeld2 => ?_)
          clear hK K hHeld
          have hHeld := hHeld2
          clear hHeld2
          (try simp only [Act.put, jA, jB, jC])
          refine wpAnyH_done (by kernel_rfl) ?_ _
          clear hHeld
          go_wp2_with fail
          go_meet
          exact ⟨Lib.hid W6, Lib.hid (Wvb_kd BR4.out Z6 (by have := hL; show w.heap.size + 1 + 1 ≠ g; omega)), Lib.hid (Z4.out.trans (Z6.low.mono (by show w.heap.size ≤ g; omega)))⟩
        · go_simp
          refine hK.out _ _ (hHeld) (fun hHeld2 => ?_)
          clear hK K hHeld
          have hHeld := hHeld2
          clear hHeld2
          (try simp only [Act.put, jA, jB, jC])
          refine wpAnyH_ready (rs := [0]) (by kernel_rfl) (by simp) ?_
          refine (AllReadyH.cons rfl (fun K hK => ?_) AllReadyH.nil)
          go_simp
          refine (wsteps_any (some ⟨g, 0, none⟩) _).mono ?_
          rintro e w5 ⟨rfl, hb⟩
          go_wp2_with fail
          have ZB := Lib.hid hb
          replace ZC := Lib.hid (ZC.out.trans (hb.mono (Nat.le_trans (Nat.le_of_lt hgz) ZC.out.size)))
          replace HW4 := Lib.hid (HW4.out.after hb)
          replace BR4 := Lib.hid (BR4.out.after hb)
          replace Z4 := Lib.hid (Z4.out.trans (hb.mono (by have := Z4.out.size; exact this)))
          refine hK.out _ _ (HK.out _ ZC.out) (fun hHeld2 => ?_)
          clear hK K hHeld
          have hHeld := hHeld2
          clear hHeld2
          (try simp only [Act.put, jA, jB, jC])
          refine tkH 4 (v := ?vr9_4) rfl ?yr9_4 ?rr9_4
          case yr9_4 => (intro w hSw; (try dsimp only at hSw); go_simp; (try with_reducible rfl))
          (try simp only [Act.put, jA, jB, jC])
          refine wpAnyH_ready (rs := [5]) (by kernel_rfl) (by simp) ?_
          refine (AllReadyH.cons rfl (fun K hK => ?_) AllReadyH.nil)
          go_simp
          refine (wrun_any (⟨w.heap.size, w.heap.size + 1 + 1 + 1, g, W, D, J, S, me, d, AT, T, ct⟩ : Wc) rfl (HWK.out g) HW4.out.st).mono ?_
          rintro e w6 ⟨rfl, W6, Z6⟩
          go_wp2_with fail
          rw [HR.out] at W6
          refine hK.out _ _ (HK.out _ (ZC.out.trans Z6.low)) (fun hHeld2 => ?_)
          clear hK K hHeld
          have hHeld := hHeld2
          clear hHeld2
          (try simp only [Act.put, jA, jB, jC])
          refine wpAnyH_done (by kernel_rfl) ?_ _
          clear hHeld
          go_wp2_with fail
          go_meet
          exact ⟨Lib.hid W6, Lib.hid (Wvb_kd BR4.out Z6 (by have := hL; show w.heap.size + 1 + 1 ≠ g; omega)), Lib.hid (Z4.out.trans (Z6.low.mono (by show w.heap.size ≤ g; omega)))⟩
      · simp only at e
        subst e
        clear hp0 hp15
        refine wp_region_held_drew (S := fun w' => Below g w4 w') (by kernel_rfl) (HK.out _ (Below.refl _ _).drew) (fun hHeld => ?_)
        refine tkH 1 (v := ?vr10_1) rfl ?yr10_1 ?rr10_1
        case yr10_1 => (intro w hSw; (try dsimp only at hSw); go_simp; (try with_reducible rfl))
        (try simp only [Act.put, jA, jB, jC])
        refine tkH 2 (v := ?vr10_2) rfl ?yr10_2 ?rr10_2
        case yr10_2 => (intro w hSw; (try dsimp only at hSw); go_simp; (try with_reducible rfl))
        (try simp only [Act.put, jA, jB, jC])
        refine wpAnyH_ready (rs := [0, 3]) (by kernel_rfl) (by simp) ?_
        refine (AllReadyH.cons rfl (fun K hK => ?_) (AllReadyH.cons rfl (fun K hK => ?_) AllReadyH.nil))
        · go_simp
          refine (wsteps_any (some ⟨g, 0, none⟩) _).mono ?_
          rintro e w5 ⟨rfl, hb⟩
          go_wp2_with fail
          have ZB := Lib.hid hb
          replace ZC := Lib.hid (ZC.out.trans (hb.mono (Nat.le_trans (Nat.le_of_lt hgz) ZC.out.size)))
          replace HW4 := Lib.hid (HW4.out.after hb)
          replace BR4 := Lib.hid (BR4.out.after hb)
          replace Z4 := Lib.hid (Z4.out.trans (hb.mono (by have := Z4.out.size; exact this)))
          obtain ⟨a0, a1, a2, a3, a4, a5, a6, a7, a8, a9, a10, a11, a12, a13, a14, a15, a16, a17, a18, a19⟩ := HW4.out.bx.cells
          have fz := HW4.out.bx.free
          simp only at a0 a1 a2 a3 a4 a5 a6 a7 a8 a9 a10 a11 a12 a13 a14 a15 a16 a17 a18 a19
          refine hK.out _ _ (HK.out _ ZC.out) (fun hHeld2 => ?_)
          clear hK K hHeld
          have hHeld := hHeld2
          clear hHeld2
          (try simp only [Act.put, jA, jB, jC])
          refine wpAnyH_ready (rs := [3]) (by kernel_rfl) (by simp) ?_
          refine (AllReadyH.cons rfl (fun K hK => ?_) AllReadyH.nil)
          go_simp
          refine hK.out _ _ (hHeld) (fun hHeld2 => ?_)
          clear hK K hHeld
          have hHeld := hHeld2
          clear hHeld2
          (try simp only [Act.put, jA, jB, jC])
          refine tkH 4 (v := ?vr10_3) rfl ?yr10_3 ?rr10_3
          case yr10_3 => (intro w hSw; (try dsimp only at hSw); go_simp; (try with_reducible rfl))
          (try simp only [Act.put, jA, jB, jC])
          refine wpAnyH_ready (rs := [5]) (by kernel_rfl) (by simp) ?_
          refine (AllReadyH.cons rfl (fun K hK => ?_) AllReadyH.nil)
          go_simp
          refine (wspawn_any (⟨w.heap.size, w.heap.size + 1 + 1 + 1, g, W, D, J, S, me, d, AT, T, ct⟩ : Wc) rfl (HWK.out g) HW4.out.st).mono ?_
          rintro e w6 ⟨rfl, W6, Z6⟩
          go_wp2_with fail
          rw [HR.out] at W6
          refine hK.out _ _ (HK.out _ (ZC.out.trans Z6.low)) (fun hHeld2 => ?_)
          clear hK K hHeld
          have hHeld := hHeld2
          clear hHeld2
          (try simp only [Act.put, jA, jB, jC])
          refine wpAnyH_done (by kernel_rfl) ?_ _
          clear hHeld
          go_wp2_with fail
          go_meet
          exact ⟨Lib.hid W6, Lib.hid (Wvb_kd BR4.out Z6 (by have := hL; show w.heap.size + 1 + 1 ≠ g; omega)), Lib.hid (Z4.out.trans (Z6.low.mono (by show w.heap.size ≤ g; omega)))⟩
        · go_simp
          refine hK.out _ _ (hHeld) (fun hHeld2 => ?_)
          clear hK K hHeld
          have hHeld := hHeld2
          clear hHeld2
          (try simp only [Act.put, jA, jB, jC])
          refine wpAnyH_ready (rs := [0]) (by kernel_rfl) (by simp) ?_
          refine (AllReadyH.cons rfl (fun K hK => ?_) AllReadyH.nil)
          go_simp
          refine (wsteps_any (some ⟨g, 0, none⟩) _).mono ?_
          rintro e w5 ⟨rfl, hb⟩
          go_wp2_with fail
          have ZB := Lib.hid hb
          replace ZC := Lib.hid (ZC.out.trans (hb.mono (Nat.le_trans (Nat.le_of_lt hgz) ZC.out.size)))
          replace HW4 := Lib.hid (HW4.out.after hb)
          replace BR4 := Lib.hid (BR4.out.after hb)
          replace Z4 := Lib.hid (Z4.out.trans (hb.mono (by have := Z4.out.size; exact this)))
          refine hK.out _ _ (HK.out _ ZC.out) (fun hHeld2 => ?_)
          clear hK K hHeld
          have hHeld := hHeld2
          clear hHeld2
          (try simp only [Act.put, jA, jB, jC])
          refine tkH 4 (v := ?vr10_4) rfl ?yr10_4 ?rr10_4
          case yr10_4 => (intro w hSw; (try dsimp only at hSw); go_simp; (try with_reducible rfl))
          (try simp only [Act.put, jA, jB, jC])
          refine wpAnyH_ready (rs := [5]) (by kernel_rfl) (by simp) ?_
          refine (AllReadyH.cons rfl (fun K hK => ?_) AllReadyH.nil)
          go_simp
          refine (wspawn_any (⟨w.heap.size, w.heap.size + 1 + 1 + 1, g, W, D, J, S, me, d, AT, T, ct⟩ : Wc) rfl (HWK.out g) HW4.out.st).mono ?_
          rintro e w6 ⟨rfl, W6, Z6⟩
          go_wp2_with fail
          rw [HR.out] at W6
          refine hK.out _ _ (HK.out _ (ZC.out.trans Z6.low)) (fun hHeld2 => ?_)
          clear hK K hHeld
          have hHeld := hHeld2
          clear hHeld2
          (try simp only [Act.put, jA, jB, jC])
          refine wpAnyH_done (by kernel_rfl) ?_ _
          clear hHeld
          go_wp2_with fail
          go_meet
          exact ⟨Lib.hid W6, Lib.hid (Wvb_kd BR4.out Z6 (by have := hL; show w.heap.size + 1 + 1 ≠ g; omega)), Lib.hid (Z4.out.trans (Z6.low.mono (by show w.heap.size ≤ g; omega)))⟩
      · simp only at e
        subst e
        clear hp0 hp15
        refine wp_region_held_drew (S := fun w' => Below g w4 w') (by kernel_rfl) (HK.out _ (Below.refl _ _).drew) (fun hHeld => ?_)
        refine tkH 1 (v := ?vr11_1) rfl ?yr11_1 ?rr11_1
        case yr11_1 => (intro w hSw; (try dsimp only at hSw); go_simp; (try with_reducible rfl))
        (try simp only [Act.put, jA, jB, jC])
        refine tkH 2 (v := ?vr11_2) rfl ?yr11_2 ?rr11_2
        case yr11_2 => (intro w hSw; (try dsimp only at hSw); go_simp; (try with_reducible rfl))
        (try simp only [Act.put, jA, jB, jC])
        refine wpAnyH_ready (rs := [0, 3]) (by kernel_rfl) (by simp) ?_
        refine (AllReadyH.cons rfl (fun K hK => ?_) (AllReadyH.cons rfl (fun K hK => ?_) AllReadyH.nil))
        · go_simp
          refine (wsteps_any (some ⟨g, 0, none⟩) _).mono ?_
          rintro e w5 ⟨rfl, hb⟩
          go_wp2_with fail
          have ZB := Lib.hid hb
          replace ZC := Lib.hid (ZC.out.trans (hb.mono (Nat.le_trans (Nat.le_of_lt hgz) ZC.out.size)))
          replace HW4 := Lib.hid (HW4.out.after hb)
          replace BR4 := Lib.hid (BR4.out.after hb)
          replace Z4 := Lib.hid (Z4.out.trans (hb.mono (by have := Z4.out.size; exact this)))
          obtain ⟨a0, a1, a2, a3, a4, a5, a6, a7, a8, a9, a10, a11, a12, a13, a14, a15, a16, a17, a18, a19⟩ := HW4.out.bx.cells
          have fz := HW4.out.bx.free
          simp only at a0 a1 a2 a3 a4 a5 a6 a7 a8 a9 a10 a11 a12 a13 a14 a15 a16 a17 a18 a19
          refine hK.out _ _ (HK.out _ ZC.out) (fun hHeld2 => ?_)
          clear hK K hHeld
          have hHeld := hHeld2
          clear hHeld2
          (try simp only [Act.put, jA, jB, jC])
          refine wpAnyH_ready (rs := [3]) (by kernel_rfl) (by simp) ?_
          refine (AllReadyH.cons rfl (fun K hK => ?_) AllReadyH.nil)
          go_simp
          refine hK.out _ _ (hHeld) (fun hHeld2 => ?_)
          clear hK K hHeld
          have hHeld := hHeld2
          clear hHeld2
          (try simp only [Act.put, jA, jB, jC])
          refine tkH 4 (v := ?vr11_3) rfl ?yr11_3 ?rr11_3
          case yr11_3 => (intro w hSw; (try dsimp only at hSw); go_simp; (try with_reducible rfl))
          (try simp only [Act.put, jA, jB, jC])
          refine wpAnyH_ready (rs := [5]) (by kernel_rfl) (by simp) ?_
          refine (AllReadyH.cons rfl (fun K hK => ?_) AllReadyH.nil)
          go_simp
          refine (wpush_any (⟨w.heap.size, w.heap.size + 1 + 1 + 1, g, W, D, J, S, me, d, AT, T, ct⟩ : Wc) rfl (HWK.out g) HW4.out.st).mono ?_
          rintro e w6 ⟨rfl, W6, Z6⟩
          go_wp2_with fail
          rw [HR.out] at W6
          refine hK.out _ _ (HK.out _ (ZC.out.trans Z6.low)) (fun hHeld2 => ?_)
          clear hK K hHeld
          have hHeld := hHeld2
          clear hHeld2
          (try simp only [Act.put, jA, jB, jC])
          refine wpAnyH_done (by kernel_rfl) ?_ _
          clear hHeld
          go_wp2_with fail
          go_meet
          exact ⟨Lib.hid W6, Lib.hid (Wvb_kd BR4.out Z6 (by have := hL; show w.heap.size + 1 + 1 ≠ g; omega)), Lib.hid (Z4.out.trans (Z6.low.mono (by show w.heap.size ≤ g; omega)))⟩
        · go_simp
          refine hK.out _ _ (hHeld) (fun hHeld2 => ?_)
          clear hK K hHeld
          have hHeld := hHeld2
          clear hHeld2
          (try simp only [Act.put, jA, jB, jC])
          refine wpAnyH_ready (rs := [0]) (by kernel_rfl) (by simp) ?_
          refine (AllReadyH.cons rfl (fun K hK => ?_) AllReadyH.nil)
          go_simp
          refine (wsteps_any (some ⟨g, 0, none⟩) _).mono ?_
          rintro e w5 ⟨rfl, hb⟩
          go_wp2_with fail
          have ZB := Lib.hid hb
          replace ZC := Lib.hid (ZC.out.trans (hb.mono (Nat.le_trans (Nat.le_of_lt hgz) ZC.out.size)))
          replace HW4 := Lib.hid (HW4.out.after hb)
          replace BR4 := Lib.hid (BR4.out.after hb)
          replace Z4 := Lib.hid (Z4.out.trans (hb.mono (by have := Z4.out.size; exact this)))
          refine hK.out _ _ (HK.out _ ZC.out) (fun hHeld2 => ?_)
          clear hK K hHeld
          have hHeld := hHeld2
          clear hHeld2
          (try simp only [Act.put, jA, jB, jC])
          refine tkH 4 (v := ?vr11_4) rfl ?yr11_4 ?rr11_4
          case yr11_4 => (intro w hSw; (try dsimp only at hSw); go_simp; (try with_reducible rfl))
          (try simp only [Act.put, jA, jB, jC])
          refine wpAnyH_ready (rs := [5]) (by kernel_rfl) (by simp) ?_
          refine (AllReadyH.cons rfl (fun K hK => ?_) AllReadyH.nil)
          go_simp
          refine (wpush_any (⟨w.heap.size, w.heap.size + 1 + 1 + 1, g, W, D, J, S, me, d, AT, T, ct⟩ : Wc) rfl (HWK.out g) HW4.out.st).mono ?_
          rintro e w6 ⟨rfl, W6, Z6⟩
          go_wp2_with fail
          rw [HR.out] at W6
          refine hK.out _ _ (HK.out _ (ZC.out.trans Z6.low)) (fun hHeld2 => ?_)
          clear hK K hHeld
          have hHeld := hHeld2
          clear hHeld2
          (try simp only [Act.put, jA, jB, jC])
          refine wpAnyH_done (by kernel_rfl) ?_ _
          clear hHeld
          go_wp2_with fail
          go_meet
          exact ⟨Lib.hid W6, Lib.hid (Wvb_kd BR4.out Z6 (by have := hL; show w.heap.size + 1 + 1 ≠ g; omega)), Lib.hid (Z4.out.trans (Z6.low.mono (by show w.heap.size ≤ g; omega)))⟩
      · simp only at e
        subst e
        clear hp0 hp15
        refine wp_region_held_drew (S := fun w' => Below g w4 w') (by kernel_rfl) (HK.out _ (Below.refl _ _).drew) (fun hHeld => ?_)
        refine tkH 1 (v := ?vr12_1) rfl ?yr12_1 ?rr12_1
        case yr12_1 => (intro w hSw; (try dsimp only at hSw); go_simp; (try with_reducible rfl))
        (try simp only [Act.put, jA, jB, jC])
        refine tkH 2 (v := ?vr12_2) rfl ?yr12_2 ?rr12_2
        case yr12_2 => (intro w hSw; (try dsimp only at hSw); go_simp; (try with_reducible rfl))
        (try simp only [Act.put, jA, jB, jC])
        refine wpAnyH_ready (rs := [0, 3]) (by kernel_rfl) (by simp) ?_
        refine (AllReadyH.cons rfl (fun K hK => ?_) (AllReadyH.cons rfl (fun K hK => ?_) AllReadyH.nil))
        · go_simp
          refine (wsteps_any (some ⟨g, 0, none⟩) _).mono ?_
          rintro e w5 ⟨rfl, hb⟩
          go_wp2_with fail
          have ZB := Lib.hid hb
          replace ZC := Lib.hid (ZC.out.trans (hb.mono (Nat.le_trans (Nat.le_of_lt hgz) ZC.out.size)))
          replace HW4 := Lib.hid (HW4.out.after hb)
          replace BR4 := Lib.hid (BR4.out.after hb)
          replace Z4 := Lib.hid (Z4.out.trans (hb.mono (by have := Z4.out.size; exact this)))
          obtain ⟨a0, a1, a2, a3, a4, a5, a6, a7, a8, a9, a10, a11, a12, a13, a14, a15, a16, a17, a18, a19⟩ := HW4.out.bx.cells
          have fz := HW4.out.bx.free
          simp only at a0 a1 a2 a3 a4 a5 a6 a7 a8 a9 a10 a11 a12 a13 a14 a15 a16 a17 a18 a19
          refine hK.out _ _ (HK.out _ ZC.out) (fun hHeld2 => ?_)
          clear hK K hHeld
          have hHeld := hHeld2
          clear hHeld2
          (try simp only [Act.put, jA, jB, jC])
          refine wpAnyH_ready (rs := [3]) (by kernel_rfl) (by simp) ?_
          refine (AllReadyH.cons rfl (fun K hK => ?_) AllReadyH.nil)
          go_simp
          refine hK.out _ _ (hHeld) (fun hHeld2 => ?_)
          clear hK K hHeld
          have hHeld := hHeld2
          clear hHeld2
          (try simp only [Act.put, jA, jB, jC])
          refine tkH 4 (v := ?vr12_3) rfl ?yr12_3 ?rr12_3
          case yr12_3 => (intro w hSw; (try dsimp only at hSw); go_simp; (try with_reducible rfl))
          (try simp only [Act.put, jA, jB, jC])
          refine wpAnyH_ready (rs := [5]) (by kernel_rfl) (by simp) ?_
          refine (AllReadyH.cons rfl (fun K hK => ?_) AllReadyH.nil)
          go_simp
          refine (wover_any (⟨w.heap.size, w.heap.size + 1 + 1 + 1, g, W, D, J, S, me, d, AT, T, ct⟩ : Wc) rfl (HWK.out g) HW4.out.st).mono ?_
          rintro e w6 ⟨rfl, W6, Z6⟩
          go_wp2_with fail
          rw [HR.out] at W6
          refine hK.out _ _ (HK.out _ (ZC.out.trans Z6.low)) (fun hHeld2 => ?_)
          clear hK K hHeld
          have hHeld := hHeld2
          clear hHeld2
          (try simp only [Act.put, jA, jB, jC])
          refine wpAnyH_done (by kernel_rfl) ?_ _
          clear hHeld
          go_wp2_with fail
          go_meet
          exact ⟨Lib.hid W6, Lib.hid (Wvb_kd BR4.out Z6 (by have := hL; show w.heap.size + 1 + 1 ≠ g; omega)), Lib.hid (Z4.out.trans (Z6.low.mono (by show w.heap.size ≤ g; omega)))⟩
        · go_simp
          refine hK.out _ _ (hHeld) (fun hHeld2 => ?_)
          clear hK K hHeld
          have hHeld := hHeld2
          clear hHeld2
          (try simp only [Act.put, jA, jB, jC])
          refine wpAnyH_ready (rs := [0]) (by kernel_rfl) (by simp) ?_
          refine (AllReadyH.cons rfl (fun K hK => ?_) AllReadyH.nil)
          go_simp
          refine (wsteps_any (some ⟨g, 0, none⟩) _).mono ?_
          rintro e w5 ⟨rfl, hb⟩
          go_wp2_with fail
          have ZB := Lib.hid hb
          replace ZC := Lib.hid (ZC.out.trans (hb.mono (Nat.le_trans (Nat.le_of_lt hgz) ZC.out.size)))
          replace HW4 := Lib.hid (HW4.out.after hb)
          replace BR4 := Lib.hid (BR4.out.after hb)
          replace Z4 := Lib.hid (Z4.out.trans (hb.mono (by have := Z4.out.size; exact this)))
          refine hK.out _ _ (HK.out _ ZC.out) (fun hHeld2 => ?_)
          clear hK K hHeld
          have hHeld := hHeld2
          clear hHeld2
          (try simp only [Act.put, jA, jB, jC])
          refine tkH 4 (v := ?vr12_4) rfl ?yr12_4 ?rr12_4
          case yr12_4 => (intro w hSw; (try dsimp only at hSw); go_simp; (try with_reducible rfl))
          (try simp only [Act.put, jA, jB, jC])
          refine wpAnyH_ready (rs := [5]) (by kernel_rfl) (by simp) ?_
          refine (AllReadyH.cons rfl (fun K hK => ?_) AllReadyH.nil)
          go_simp
          refine (wover_any (⟨w.heap.size, w.heap.size + 1 + 1 + 1, g, W, D, J, S, me, d, AT, T, ct⟩ : Wc) rfl (HWK.out g) HW4.out.st).mono ?_
          rintro e w6 ⟨rfl, W6, Z6⟩
          go_wp2_with fail
          rw [HR.out] at W6
          refine hK.out _ _ (HK.out _ (ZC.out.trans Z6.low)) (fun hHeld2 => ?_)
          clear hK K hHeld
          have hHeld := hHeld2
          clear hHeld2
          (try simp only [Act.put, jA, jB, jC])
          refine wpAnyH_done (by kernel_rfl) ?_ _
          clear hHeld
          go_wp2_with fail
          go_meet
          exact ⟨Lib.hid W6, Lib.hid (Wvb_kd BR4.out Z6 (by have := hL; show w.heap.size + 1 + 1 ≠ g; omega)), Lib.hid (Z4.out.trans (Z6.low.mono (by show w.heap.size ≤ g; omega)))⟩
      · simp only at e
        subst e
        clear hp0 hp15
        refine wp_region_held_drew (S := fun w' => Below g w4 w') (by kernel_rfl) (HK.out _ (Below.refl _ _).drew) (fun hHeld => ?_)
        refine tkH 1 (v := ?vr13_1) rfl ?yr13_1 ?rr13_1
        case yr13_1 => (intro w hSw; (try dsimp only at hSw); go_simp; (try with_reducible rfl))
        (try simp only [Act.put, jA, jB, jC])
        refine tkH 2 (v := ?vr13_2) rfl ?yr13_2 ?rr13_2
        case yr13_2 => (intro w hSw; (try dsimp only at hSw); go_simp; (try with_reducible rfl))
        (try simp only [Act.put, jA, jB, jC])
        refine wpAnyH_ready (rs := [0, 3]) (by kernel_rfl) (by simp) ?_
        refine (AllReadyH.cons rfl (fun K hK => ?_) (AllReadyH.cons rfl (fun K hK => ?_) AllReadyH.nil))
        · go_simp
          refine (wsteps_any (some ⟨g, 0, none⟩) _).mono ?_
          rintro e w5 ⟨rfl, hb⟩
          go_wp2_with fail
          have ZB := Lib.hid hb
          replace ZC := Lib.hid (ZC.out.trans (hb.mono (Nat.le_trans (Nat.le_of_lt hgz) ZC.out.size)))
          replace HW4 := Lib.hid (HW4.out.after hb)
          replace BR4 := Lib.hid (BR4.out.after hb)
          replace Z4 := Lib.hid (Z4.out.trans (hb.mono (by have := Z4.out.size; exact this)))
          obtain ⟨a0, a1, a2, a3, a4, a5, a6, a7, a8, a9, a10, a11, a12, a13, a14, a15, a16, a17, a18, a19⟩ := HW4.out.bx.cells
          have fz := HW4.out.bx.free
          simp only at a0 a1 a2 a3 a4 a5 a6 a7 a8 a9 a10 a11 a12 a13 a14 a15 a16 a17 a18 a19
          refine hK.out _ _ (HK.out _ ZC.out) (fun hHeld2 => ?_)
          clear hK K hHeld
          have hHeld := hHeld2
          clear hHeld2
          (try simp only [Act.put, jA, jB, jC])
          refine wpAnyH_ready (rs := [3]) (by kernel_rfl) (by simp) ?_
          refine (AllReadyH.cons rfl (fun K hK => ?_) AllReadyH.nil)
          go_simp
          refine hK.out _ _ (hHeld) (fun hHeld2 => ?_)
          clear hK K hHeld
          have hHeld := hHeld2
          clear hHeld2
          (try simp only [Act.put, jA, jB, jC])
          refine tkH 4 (v := ?vr13_3) rfl ?yr13_3 ?rr13_3
          case yr13_3 => (intro w hSw; (try dsimp only at hSw); go_simp; (try with_reducible rfl))
          (try simp only [Act.put, jA, jB, jC])
          refine wpAnyH_ready (rs := [5]) (by kernel_rfl) (by simp) ?_
          refine (AllReadyH.cons rfl (fun K hK => ?_) AllReadyH.nil)
          go_simp
          refine (wsee_any (⟨w.heap.size, w.heap.size + 1 + 1 + 1, g, W, D, J, S, me, d, AT, T, ct⟩ : Wc) rfl (HWK.out g) HW4.out.st).mono ?_
          rintro e w6 ⟨rfl, W6, Z6⟩
          go_wp2_with fail
          rw [HR.out] at W6
          refine hK.out _ _ (HK.out _ (ZC.out.trans Z6.low)) (fun hHeld2 => ?_)
          clear hK K hHeld
          have hHeld := hHeld2
          clear hHeld2
          (try simp only [Act.put, jA, jB, jC])
          refine wpAnyH_done (by kernel_rfl) ?_ _
          clear hHeld
          go_wp2_with fail
          go_meet
          exact ⟨Lib.hid W6, Lib.hid (Wvb_kd BR4.out Z6 (by have := hL; show w.heap.size + 1 + 1 ≠ g; omega)), Lib.hid (Z4.out.trans (Z6.low.mono (by show w.heap.size ≤ g; omega)))⟩
        · go_simp
          refine hK.out _ _ (hHeld) (fun hHeld2 => ?_)
          clear hK K hHeld
          have hHeld := hHeld2
          clear hHeld2
          (try simp only [Act.put, jA, jB, jC])
          refine wpAnyH_ready (rs := [0]) (by kernel_rfl) (by simp) ?_
          refine (AllReadyH.cons rfl (fun K hK => ?_) AllReadyH.nil)
          go_simp
          refine (wsteps_any (some ⟨g, 0, none⟩) _).mono ?_
          rintro e w5 ⟨rfl, hb⟩
          go_wp2_with fail
          have ZB := Lib.hid hb
          replace ZC := Lib.hid (ZC.out.trans (hb.mono (Nat.le_trans (Nat.le_of_lt hgz) ZC.out.size)))
          replace HW4 := Lib.hid (HW4.out.after hb)
          replace BR4 := Lib.hid (BR4.out.after hb)
          replace Z4 := Lib.hid (Z4.out.trans (hb.mono (by have := Z4.out.size; exact this)))
          refine hK.out _ _ (HK.out _ ZC.out) (fun hHeld2 => ?_)
          clear hK K hHeld
          have hHeld := hHeld2
          clear hHeld2
          (try simp only [Act.put, jA, jB, jC])
          refine tkH 4 (v := ?vr13_4) rfl ?yr13_4 ?rr13_4
          case yr13_4 => (intro w hSw; (try dsimp only at hSw); go_simp; (try with_reducible rfl))
          (try simp only [Act.put, jA, jB, jC])
          refine wpAnyH_ready (rs := [5]) (by kernel_rfl) (by simp) ?_
          refine (AllReadyH.cons rfl (fun K hK => ?_) AllReadyH.nil)
          go_simp
          refine (wsee_any (⟨w.heap.size, w.heap.size + 1 + 1 + 1, g, W, D, J, S, me, d, AT, T, ct⟩ : Wc) rfl (HWK.out g) HW4.out.st).mono ?_
          rintro e w6 ⟨rfl, W6, Z6⟩
          go_wp2_with fail
          rw [HR.out] at W6
          refine hK.out _ _ (HK.out _ (ZC.out.trans Z6.low)) (fun hHeld2 => ?_)
          clear hK K hHeld
          have hHeld := hHeld2
          clear hHeld2
          (try simp only [Act.put, jA, jB, jC])
          refine wpAnyH_done (by kernel_rfl) ?_ _
          clear hHeld
          go_wp2_with fail
          go_meet
          exact ⟨Lib.hid W6, Lib.hid (Wvb_kd BR4.out Z6 (by have := hL; show w.heap.size + 1 + 1 ≠ g; omega)), Lib.hid (Z4.out.trans (Z6.low.mono (by show w.heap.size ≤ g; omega)))⟩
      · simp only at e
        subst e
        clear hp0 hp15
        refine wp_region_held_drew (S := fun w' => Below g w4 w') (by kernel_rfl) (HK.out _ (Below.refl _ _).drew) (fun hHeld => ?_)
        refine tkH 1 (v := ?vr14_1) rfl ?yr14_1 ?rr14_1
        case yr14_1 => (intro w hSw; (try dsimp only at hSw); go_simp; (try with_reducible rfl))
        (try simp only [Act.put, jA, jB, jC])
        refine tkH 2 (v := ?vr14_2) rfl ?yr14_2 ?rr14_2
        case yr14_2 => (intro w hSw; (try dsimp only at hSw); go_simp; (try with_reducible rfl))
        (try simp only [Act.put, jA, jB, jC])
        refine wpAnyH_ready (rs := [0, 3]) (by kernel_rfl) (by simp) ?_
        refine (AllReadyH.cons rfl (fun K hK => ?_) (AllReadyH.cons rfl (fun K hK => ?_) AllReadyH.nil))
        · go_simp
          refine (wsteps_any (some ⟨g, 0, none⟩) _).mono ?_
          rintro e w5 ⟨rfl, hb⟩
          go_wp2_with fail
          have ZB := Lib.hid hb
          replace ZC := Lib.hid (ZC.out.trans (hb.mono (Nat.le_trans (Nat.le_of_lt hgz) ZC.out.size)))
          replace HW4 := Lib.hid (HW4.out.after hb)
          replace BR4 := Lib.hid (BR4.out.after hb)
          replace Z4 := Lib.hid (Z4.out.trans (hb.mono (by have := Z4.out.size; exact this)))
          obtain ⟨a0, a1, a2, a3, a4, a5, a6, a7, a8, a9, a10, a11, a12, a13, a14, a15, a16, a17, a18, a19⟩ := HW4.out.bx.cells
          have fz := HW4.out.bx.free
          simp only at a0 a1 a2 a3 a4 a5 a6 a7 a8 a9 a10 a11 a12 a13 a14 a15 a16 a17 a18 a19
          refine hK.out _ _ (HK.out _ ZC.out) (fun hHeld2 => ?_)
          clear hK K hHeld
          have hHeld := hHeld2
          clear hHeld2
          (try simp only [Act.put, jA, jB, jC])
          refine wpAnyH_ready (rs := [3]) (by kernel_rfl) (by simp) ?_
          refine (AllReadyH.cons rfl (fun K hK => ?_) AllReadyH.nil)
          go_simp
          refine hK.out _ _ (hHeld) (fun hHeld2 => ?_)
          clear hK K hHeld
          have hHeld := hHeld2
          clear hHeld2
          (try simp only [Act.put, jA, jB, jC])
          refine tkH 4 (v := ?vr14_3) rfl ?yr14_3 ?rr14_3
          case yr14_3 => (intro w hSw; (try dsimp only at hSw); go_simp; (try with_reducible rfl))
          (try simp only [Act.put, jA, jB, jC])
          refine wpAnyH_ready (rs := [5]) (by kernel_rfl) (by simp) ?_
          refine (AllReadyH.cons rfl (fun K hK => ?_) AllReadyH.nil)
          go_simp
          refine (wstepwake_any (⟨w.heap.size, w.heap.size + 1 + 1 + 1, g, W, D, J, S, me, d, AT, T, ct⟩ : Wc) rfl (HWK.out g) HW4.out.st).mono ?_
          rintro e w6 ⟨rfl, W6, Z6⟩
          go_wp2_with fail
          rw [HR.out] at W6
          refine hK.out _ _ (HK.out _ (ZC.out.trans Z6.low)) (fun hHeld2 => ?_)
          clear hK K hHeld
          have hHeld := hHeld2
          clear hHeld2
          (try simp only [Act.put, jA, jB, jC])
          refine wpAnyH_done (by kernel_rfl) ?_ _
          clear hHeld
          go_wp2_with fail
          go_meet
          exact ⟨Lib.hid W6, Lib.hid (Wvb_kd BR4.out Z6 (by have := hL; show w.heap.size + 1 + 1 ≠ g; omega)), Lib.hid (Z4.out.trans (Z6.low.mono (by show w.heap.size ≤ g; omega)))⟩
        · go_simp
          refine hK.out _ _ (hHeld) (fun hHeld2 => ?_)
          clear hK K hHeld
          have hHeld := hHeld2
          clear hHeld2
          (try simp only [Act.put, jA, jB, jC])
          refine wpAnyH_ready (rs := [0]) (by kernel_rfl) (by simp) ?_
          refine (AllReadyH.cons rfl (fun K hK => ?_) AllReadyH.nil)
          go_simp
          refine (wsteps_any (some ⟨g, 0, none⟩) _).mono ?_
          rintro e w5 ⟨rfl, hb⟩
          go_wp2_with fail
          have ZB := Lib.hid hb
          replace ZC := Lib.hid (ZC.out.trans (hb.mono (Nat.le_trans (Nat.le_of_lt hgz) ZC.out.size)))
          replace HW4 := Lib.hid (HW4.out.after hb)
          replace BR4 := Lib.hid (BR4.out.after hb)
          replace Z4 := Lib.hid (Z4.out.trans (hb.mono (by have := Z4.out.size; exact this)))
          refine hK.out _ _ (HK.out _ ZC.out) (fun hHeld2 => ?_)
          clear hK K hHeld
          have hHeld := hHeld2
          clear hHeld2
          (try simp only [Act.put, jA, jB, jC])
          refine tkH 4 (v := ?vr14_4) rfl ?yr14_4 ?rr14_4
          case yr14_4 => (intro w hSw; (try dsimp only at hSw); go_simp; (try with_reducible rfl))
          (try simp only [Act.put, jA, jB, jC])
          refine wpAnyH_ready (rs := [5]) (by kernel_rfl) (by simp) ?_
          refine (AllReadyH.cons rfl (fun K hK => ?_) AllReadyH.nil)
          go_simp
          refine (wstepwake_any (⟨w.heap.size, w.heap.size + 1 + 1 + 1, g, W, D, J, S, me, d, AT, T, ct⟩ : Wc) rfl (HWK.out g) HW4.out.st).mono ?_
          rintro e w6 ⟨rfl, W6, Z6⟩
          go_wp2_with fail
          rw [HR.out] at W6
          refine hK.out _ _ (HK.out _ (ZC.out.trans Z6.low)) (fun hHeld2 => ?_)
          clear hK K hHeld
          have hHeld := hHeld2
          clear hHeld2
          (try simp only [Act.put, jA, jB, jC])
          refine wpAnyH_done (by kernel_rfl) ?_ _
          clear hHeld
          go_wp2_with fail
          go_meet
          exact ⟨Lib.hid W6, Lib.hid (Wvb_kd BR4.out Z6 (by have := hL; show w.heap.size + 1 + 1 ≠ g; omega)), Lib.hid (Z4.out.trans (Z6.low.mono (by show w.heap.size ≤ g; omega)))⟩
      · simp only at e
        subst e
        clear hp0 hp15
        refine wp_region_held_drew (S := fun w' => Below g w4 w') (by kernel_rfl) (HK.out _ (Below.refl _ _).drew) (fun hHeld => ?_)
        refine tkH 1 (v := ?vr15_1) rfl ?yr15_1 ?rr15_1
        case yr15_1 => (intro w hSw; (try dsimp only at hSw); go_simp; (try with_reducible rfl))
        (try simp only [Act.put, jA, jB, jC])
        refine tkH 2 (v := ?vr15_2) rfl ?yr15_2 ?rr15_2
        case yr15_2 => (intro w hSw; (try dsimp only at hSw); go_simp; (try with_reducible rfl))
        (try simp only [Act.put, jA, jB, jC])
        refine wpAnyH_ready (rs := [0, 3]) (by kernel_rfl) (by simp) ?_
        refine (AllReadyH.cons rfl (fun K hK => ?_) (AllReadyH.cons rfl (fun K hK => ?_) AllReadyH.nil))
        · go_simp
          refine (wsteps_any (some ⟨g, 0, none⟩) _).mono ?_
          rintro e w5 ⟨rfl, hb⟩
          go_wp2_with fail
          have ZB := Lib.hid hb
          replace ZC := Lib.hid (ZC.out.trans (hb.mono (Nat.le_trans (Nat.le_of_lt hgz) ZC.out.size)))
          replace HW4 := Lib.hid (HW4.out.after hb)
          replace BR4 := Lib.hid (BR4.out.after hb)
          replace Z4 := Lib.hid (Z4.out.trans (hb.mono (by have := Z4.out.size; exact this)))
          obtain ⟨a0, a1, a2, a3, a4, a5, a6, a7, a8, a9, a10, a11, a12, a13, a14, a15, a16, a17, a18, a19⟩ := HW4.out.bx.cells
          have fz := HW4.out.bx.free
          simp only at a0 a1 a2 a3 a4 a5 a6 a7 a8 a9 a10 a11 a12 a13 a14 a15 a16 a17 a18 a19
          refine hK.out _ _ (HK.out _ ZC.out) (fun hHeld2 => ?_)
          clear hK K hHeld
          have hHeld := hHeld2
          clear hHeld2
          (try simp only [Act.put, jA, jB, jC])
          refine wpAnyH_ready (rs := [3]) (by kernel_rfl) (by simp) ?_
          refine (AllReadyH.cons rfl (fun K hK => ?_) AllReadyH.nil)
          go_simp
          refine hK.out _ _ (hHeld) (fun hHeld2 => ?_)
          clear hK K hHeld
          have hHeld := hHeld2
          clear hHeld2
          (try simp only [Act.put, jA, jB, jC])
          refine tkH 4 (v := ?vr15_3) rfl ?yr15_3 ?rr15_3
          case yr15_3 => (intro w hSw; (try dsimp only at hSw); go_simp; (try with_reducible rfl))
          (try simp only [Act.put, jA, jB, jC])
          refine wpAnyH_ready (rs := [5]) (by kernel_rfl) (by simp) ?_
          refine (AllReadyH.cons rfl (fun K hK => ?_) AllReadyH.nil)
          go_simp
          refine (wfinish_any (⟨w.heap.size, w.heap.size + 1 + 1 + 1, g, W, D, J, S, me, d, AT, T, ct⟩ : Wc) rfl (HWK.out g) HW4.out.st).mono ?_
          rintro e w6 ⟨rfl, W6, Z6⟩
          go_wp2_with fail
          rw [HR.out] at W6
          refine hK.out _ _ (HK.out _ (ZC.out.trans Z6.low)) (fun hHeld2 => ?_)
          clear hK K hHeld
          have hHeld := hHeld2
          clear hHeld2
          (try simp only [Act.put, jA, jB, jC])
          refine wpAnyH_done (by kernel_rfl) ?_ _
          clear hHeld
          go_wp2_with fail
          go_meet
          exact ⟨Lib.hid W6, Lib.hid (Wvb_kd BR4.out Z6 (by have := hL; show w.heap.size + 1 + 1 ≠ g; omega)), Lib.hid (Z4.out.trans (Z6.low.mono (by show w.heap.size ≤ g; omega)))⟩
        · go_simp
          refine hK.out _ _ (hHeld) (fun hHeld2 => ?_)
          clear hK K hHeld
          have hHeld := hHeld2
          clear hHeld2
          (try simp only [Act.put, jA, jB, jC])
          refine wpAnyH_ready (rs := [0]) (by kernel_rfl) (by simp) ?_
          refine (AllReadyH.cons rfl (fun K hK => ?_) AllReadyH.nil)
          go_simp
          refine (wsteps_any (some ⟨g, 0, none⟩) _).mono ?_
          rintro e w5 ⟨rfl, hb⟩
          go_wp2_with fail
          have ZB := Lib.hid hb
          replace ZC := Lib.hid (ZC.out.trans (hb.mono (Nat.le_trans (Nat.le_of_lt hgz) ZC.out.size)))
          replace HW4 := Lib.hid (HW4.out.after hb)
          replace BR4 := Lib.hid (BR4.out.after hb)
          replace Z4 := Lib.hid (Z4.out.trans (hb.mono (by have := Z4.out.size; exact this)))
          refine hK.out _ _ (HK.out _ ZC.out) (fun hHeld2 => ?_)
          clear hK K hHeld
          have hHeld := hHeld2
          clear hHeld2
          (try simp only [Act.put, jA, jB, jC])
          refine tkH 4 (v := ?vr15_4) rfl ?yr15_4 ?rr15_4
          case yr15_4 => (intro w hSw; (try dsimp only at hSw); go_simp; (try with_reducible rfl))
          (try simp only [Act.put, jA, jB, jC])
          refine wpAnyH_ready (rs := [5]) (by kernel_rfl) (by simp) ?_
          refine (AllReadyH.cons rfl (fun K hK => ?_) AllReadyH.nil)
          go_simp
          refine (wfinish_any (⟨w.heap.size, w.heap.size + 1 + 1 + 1, g, W, D, J, S, me, d, AT, T, ct⟩ : Wc) rfl (HWK.out g) HW4.out.st).mono ?_
          rintro e w6 ⟨rfl, W6, Z6⟩
          go_wp2_with fail
          rw [HR.out] at W6
          refine hK.out _ _ (HK.out _ (ZC.out.trans Z6.low)) (fun hHeld2 => ?_)
          clear hK K hHeld
          have hHeld := hHeld2
          clear hHeld2
          (try simp only [Act.put, jA, jB, jC])
          refine wpAnyH_done (by kernel_rfl) ?_ _
          clear hHeld
          go_wp2_with fail
          go_meet
          exact ⟨Lib.hid W6, Lib.hid (Wvb_kd BR4.out Z6 (by have := hL; show w.heap.size + 1 + 1 ≠ g; omega)), Lib.hid (Z4.out.trans (Z6.low.mono (by show w.heap.size ≤ g; omega)))⟩
    case rest =>
      obtain ⟨HW6, HB6, HZ6⟩ := hcut
      obtain ⟨m6, ⟨pc, stk, ⟨fo, fpc, fq, fv6, fx6, fy6, fr6⟩, sp6, lk6⟩, l6⟩ := R
      obtain ⟨A6, c6, SA6, cs6, E6, ce6, V6⟩ := HW6.out
      have VV := Lib.hid V6
      obtain ⟨a0, a1, a2, a3, a4, a5, a6, a7, a8, a9, a10, a11, a12, a13, a14, a15, a16, a17, a18, a19⟩ := V6.bx.cells
      have hlt6 := V6.bx.lt
      clear V6 HW6
      simp only at a0 a1 a2 a3 a4 a5 a6 a7 a8 a9 a10 a11 a12 a13 a14 a15 a16 a17 a18 a19 hlt6
      simp only at HLEN
      have hne6 : g ≠ w.heap.size + 1 + 1 := by omega
      have HK := Lib.hid (show ∀ x' : World, x'.heap[g]? = wc.heap[g]? → (fun w' => w'.cell? ⟨g, 0, none⟩ = some (.int .i64 pc) ∧ w'.cell? ⟨g, 1, none⟩ = some (.slice SA6 stk.length cs6) ∧ w'.cell? ⟨g, 2, none⟩ = some (.int .i64 fo) ∧ w'.cell? ⟨g, 3, none⟩ = some (.int .i64 fpc) ∧ w'.cell? ⟨g, 4, none⟩ = some (.int .i64 fq) ∧ w'.cell? ⟨g, 5, none⟩ = some (.int .u64 fv6) ∧ w'.cell? ⟨g, 6, none⟩ = some (.int .u64 fx6) ∧ w'.cell? ⟨g, 7, none⟩ = some (.int .u64 fy6) ∧ w'.cell? ⟨g, 8, none⟩ = some (.int .i64 fr6) ∧ w'.cell? ⟨g, 9, none⟩ = some (.int .i64 sp6) ∧ w'.cell? ⟨g, 10, none⟩ = some (.int .i64 lk6) ∧ w'.cell? ⟨g, 16, none⟩ = some (.slice A6 m6.length c6) ∧ w'.cell? ⟨g, 19, none⟩ = some (.slice E6 l6.length ce6) ∧ w'.heap[g]? = wc.heap[g]?) x' from fun x' hx => ⟨(World.cell?_of_block (a := ⟨g, 0, none⟩) hx).trans a0, (World.cell?_of_block (a := ⟨g, 1, none⟩) hx).trans a1, (World.cell?_of_block (a := ⟨g, 2, none⟩) hx).trans a2, (World.cell?_of_block (a := ⟨g, 3, none⟩) hx).trans a3, (World.cell?_of_block (a := ⟨g, 4, none⟩) hx).trans a4, (World.cell?_of_block (a := ⟨g, 5, none⟩) hx).trans a5, (World.cell?_of_block (a := ⟨g, 6, none⟩) hx).trans a6, (World.cell?_of_block (a := ⟨g, 7, none⟩) hx).trans a7, (World.cell?_of_block (a := ⟨g, 8, none⟩) hx).trans a8, (World.cell?_of_block (a := ⟨g, 9, none⟩) hx).trans a9, (World.cell?_of_block (a := ⟨g, 10, none⟩) hx).trans a10, (World.cell?_of_block (a := ⟨g, 16, none⟩) hx).trans a16, (World.cell?_of_block (a := ⟨g, 19, none⟩) hx).trans a19, hx⟩)
      have hHeld0 := HK.out wc rfl
      clear a0 a1 a2 a3 a4 a5 a6 a7 a8 a9 a10 a11 a12 a13 a14 a15 a16 a17 a18 a19
      go_upto_region 5 with fail
      refine wp_region_held_drew (S := fun w' => w'.cell? ⟨g, 0, none⟩ = some (.int .i64 pc) ∧ w'.cell? ⟨g, 1, none⟩ = some (.slice SA6 stk.length cs6) ∧ w'.cell? ⟨g, 2, none⟩ = some (.int .i64 fo) ∧ w'.cell? ⟨g, 3, none⟩ = some (.int .i64 fpc) ∧ w'.cell? ⟨g, 4, none⟩ = some (.int .i64 fq) ∧ w'.cell? ⟨g, 5, none⟩ = some (.int .u64 fv6) ∧ w'.cell? ⟨g, 6, none⟩ = some (.int .u64 fx6) ∧ w'.cell? ⟨g, 7, none⟩ = some (.int .u64 fy6) ∧ w'.cell? ⟨g, 8, none⟩ = some (.int .i64 fr6) ∧ w'.cell? ⟨g, 9, none⟩ = some (.int .i64 sp6) ∧ w'.cell? ⟨g, 10, none⟩ = some (.int .i64 lk6) ∧ w'.cell? ⟨g, 16, none⟩ = some (.slice A6 m6.length c6) ∧ w'.cell? ⟨g, 19, none⟩ = some (.slice E6 l6.length ce6) ∧ w'.heap[g]? = wc.heap[g]?) (by kernel_rfl) (HK.out _ rfl) (fun hHeld => ?_)
      refine tkH 0 (v := ?vz1) rfl ?yz1 ?rz1
      case yz1 => (intro w hSw; (try dsimp only at hSw); go_simp; (try with_reducible rfl))
      (try simp only [Act.put, jA, jB, jC])
      refine tkH 1 (v := ?vz2) rfl ?yz2 ?rz2
      case yz2 => (intro w hSw; (try dsimp only at hSw); go_simp; (try with_reducible rfl))
      (try simp only [Act.put, jA, jB, jC])
      refine tkH 2 (v := ?vz3) rfl ?yz3 ?rz3
      case yz3 => (intro w hSw; (try dsimp only at hSw); go_simp; (try with_reducible rfl))
      (try simp only [Act.put, jA, jB, jC])
      refine tkH 3 (v := ?vz4) rfl ?yz4 ?rz4
      case yz4 => (intro w hSw; (try dsimp only at hSw); go_simp; (try with_reducible rfl))
      (try simp only [Act.put, jA, jB, jC])
      refine tkH 4 (v := ?vz5) rfl ?yz5 ?rz5
      case yz5 => (intro w hSw; (try dsimp only at hSw); go_simp; (try with_reducible rfl))
      (try simp only [Act.put, jA, jB, jC])
      refine tkH 5 (v := ?vz6) rfl ?yz6 ?rz6
      case yz6 => (intro w hSw; (try dsimp only at hSw); go_simp; (try with_reducible rfl))
      (try simp only [Act.put, jA, jB, jC])
      refine tkH 6 (v := ?vz7) rfl ?yz7 ?rz7
      case yz7 => (intro w hSw; (try dsimp only at hSw); go_simp; (try with_reducible rfl))
      (try simp only [Act.put, jA, jB, jC])
      refine wpAnyH_ready (rs := [7]) (by kernel_rfl) (by simp) ?_
      refine (AllReadyH.cons rfl (fun K hK => ?_) AllReadyH.nil)
      refine step_store_w11 (w := wc.drew) HB6.out ⟨_, _, rfl, rfl, rfl⟩ rfl rfl (by simp [Value.oneCell']) ?_
      simp only [Act.put]
      refine hK.out _ _ (HK.out _ (setRow_other wc.drew _ g _ hne6)) (fun hHeld2 => ?_)
      clear hK K hHeld
      have hHeld := hHeld2
      clear hHeld2
      (try simp only [Act.put, jA, jB, jC])
      refine tkH 8 (v := ?vz8) rfl ?yz8 ?rz8
      case yz8 => (intro w hSw; (try dsimp only at hSw); go_simp; (try with_reducible rfl))
      (try simp only [Act.put, jA, jB, jC])
      refine wpAnyH_done (by kernel_rfl) ?_ _
      clear hHeld
      go_wp2
      have hrow : Wvb (wc.drew.setRow (w.heap.size + 1 + 1) #[.int .i64 pc, .slice SA6 stk.length cs6, .int .i64 fo, .int .i64 fpc, .int .i64 fq, .int .u64 fv6, .int .u64 fx6, .int .u64 fy6, .int .i64 fr6, .int .i64 sp6, .int .i64 lk6]) (w.heap.size + 1 + 1) ⟨pc, stk, ⟨fo, fpc, fq, fv6, fx6, fy6, fr6⟩, sp6, lk6⟩ (.slice SA6 stk.length cs6) := setRow_heap _ _ _ _ _ _ HB6.out
      refine bodyPost_ret (results_w3 Tryz.results10 _ rfl hrow) rfl ?_
      have hk := Kb.row (w.heap.size + 1 + 1) wc.drew #[.int .i64 pc, .slice SA6 stk.length cs6, .int .i64 fo, .int .i64 fpc, .int .i64 fq, .int .u64 fv6, .int .u64 fx6, .int .u64 fy6, .int .i64 fr6, .int .i64 sp6, .int .i64 lk6]
      refine ⟨A6, c6, SA6, cs6, E6, ce6, by rw [HLEN.out]; rfl, ?_, ?_, ?_, HZ6.out.drew.trans (hk.low.mono (by omega))⟩
      · exact fin_rd VV.out.rm hk (HB6.out) (by rw [HLEN.out]; exact HLG.out)
      · exact fin_ir VV.out.rs hk (by simp)
      · exact fin_er VV.out.re hk HB6.out
end
end Go.Proofs.YtlpkccpijloidaaGreat
