/- Contracts of stretches, and of the function that it hands on. -/
import Derived.Test.YtnabomdadhgeeaaDrR
import Derived.Test.YtnabomdadhgeeaaDrH
namespace Go.Proofs.Ytnabomdadhgeeaa
open Go.RowKit Go.Deep Go.Shelf
attribute [local go_sem] Oper.semAt_some

theorem str_in (n : Nat) (A : Option Addr) (k c : Nat) (m q f : Int) (w : World) :
    CallsIn Fence.wide n Try.prog 25 #[.slice A k c, .int .i64 m, .int .i64 q, .int .i64 f] w fun e w' =>
      e = .returned (.func (.func 26) #[] #[.pointer (some ⟨w.heap.size + 1, 0, none⟩), .pointer (some ⟨w.heap.size + 1 + 1, 0, none⟩), .pointer (some ⟨w.heap.size, 0, none⟩), .pointer (some ⟨w.heap.size + 1 + 1 + 1, 0, none⟩)]) ∧
      w' = (((w.alloc (.cells #[.slice A k c] 26)).alloc (.cells #[.int .i64 m] 3)).alloc (.cells #[.int .i64 q] 3)).alloc (.cells #[.int .i64 f] 3) := by
  refine callsIn_of_wp Try.func25 rfl trivial ?_ rfl
  simp only [Try.ntmps25, List.size_toArray, List.length_cons, List.length_nil, Nat.reduceAdd, Nat.reduceSub, Array.replicate_succ, Array.replicate_zero, List.push_toArray, List.append_toArray, List.nil_append, List.cons_append]
  gi_wp2
  go_ret
  exact ⟨rfl, rfl⟩
/-- A row of numbers, known whole. -/
def Bk (w : World) (g : Nat) (l : List Int) : Prop := w.heap[g]? = some (.cells (l.map (Value.int .i64)).toArray 3 (0, 0))
theorem Bk.lt {w : World} {g : Nat} {l : List Int} (h : Bk w g l) : g < w.heap.size := (Array.getElem?_eq_some_iff.1 h).1
theorem Bk.cell {w : World} {g : Nat} {l : List Int} (h : Bk w g l) (k : Nat) (u : Int) (hu : l[k]? = some u) : w.cell? ⟨g, k, none⟩ = some (.int .i64 u) := by
  have := cell_of_row w g k _ 3 (0, 0) h
  rw [this]; simp [hu]
theorem Bk.frozen {w : World} {g : Nat} {l : List Int} (h : Bk w g l) (i : Nat) : w.frozen? ⟨g, i, none⟩ = false := by
  unfold Bk at h
  simp [World.frozen?, h]
theorem Bk.set {w : World} {g : Nat} {l : List Int} (h : Bk w g l) (k : Nat) (u : Int) : Bk (w.setCell ⟨g, k, none⟩ (.int .i64 u)) g (l.set k u) := by
  unfold Bk at h ⊢
  simp [World.setCell, Array.getElem?_modify, h, List.map_set]
/-- What the function that stretches hands on has, behind j picks: its boxes, and the row at g. -/
structure Str (B g bw bs bl bf m q f c : Nat) (A : Option Addr) (L : List Pk) (j : Nat) (W : World) : Prop where
  cw : Boxed W bw 3 (.int .i64 m)
  cs : Boxed W bs 3 (.int .i64 q)
  cl : Boxed W bl 26 (.slice A L.length c)
  cf : Boxed W bf 3 (.int .i64 f)
  row : Bk W g (lv L m q j)
  pr : Pr B W A L
  lw : bw < B
  ls : bs < B
  ll : bl < B
  lf : bf < B
  lg : B ≤ g
  lz : B ≤ W.heap.size
theorem Str.below {B g bw bs bl bf m q f c j : Nat} {A : Option Addr} {L : List Pk} {W W' : World} (h : Str B g bw bs bl bf m q f c A L j W) (hb : Below W.heap.size W W') : Str B g bw bs bl bf m q f c A L j W' :=
  ⟨(hb.block _ h.cw.lt).trans h.cw, (hb.block _ h.cs.lt).trans h.cs, (hb.block _ h.cl.lt).trans h.cl, (hb.block _ h.cf.lt).trans h.cf, (hb.block _ h.row.lt).trans h.row, h.pr.below (hb.mono h.lz), h.lw, h.ls, h.ll, h.lf, h.lg, Nat.le_trans h.lz hb.size⟩
theorem boxed_set {W : World} {B : Nat} {t : TypeId} {v u : Value} {a : Addr} (h : Boxed W B t v) (ha : a.block ≠ B) : Boxed (W.setCell a u) B t v := (Below.heap_setCell W a u B (fun e => ha e.symm)).trans h
theorem Str.set {B g bw bs bl bf m q f c j t : Nat} {A : Option Addr} {L : List Pk} {W : World} (h : Str B g bw bs bl bf m q f c A L j W) (ht : ta L m q j = t) : Str B g bw bs bl bf m q f c A L (j + 1) (W.setCell ⟨g, t, none⟩ (.int .i64 j)) := by
  obtain ⟨h1, h2, h3, h4, h5, h6, l1, l2, l3, l4, l5, l6⟩ := h
  refine ⟨boxed_set h1 (by simp; omega), boxed_set h2 (by simp; omega), boxed_set h3 (by simp; omega), boxed_set h4 (by simp; omega), ?_, h6.below ((Below.refl B W).setCell (p := ⟨g, t, none⟩) l5 _), l1, l2, l3, l4, l5, by simpa using l6⟩
  rw [← lv_set ht]
  exact h5.set t j
theorem Str.same {B g bw bs bl bf m q f c j : Nat} {A : Option Addr} {L : List Pk} {W : World} (h : Str B g bw bs bl bf m q f c A L j W) (ht : ta L m q j = -1) : Str B g bw bs bl bf m q f c A L (j + 1) W := by
  obtain ⟨h1, h2, h3, h4, h5, h6, l1, l2, l3, l4, l5, l6⟩ := h
  exact ⟨h1, h2, h3, h4, by rw [← lv_same ht]; exact h5, h6, l1, l2, l3, l4, l5, l6⟩
/-- What is yielded, for the c-th time, and what the row holds then. -/
def sEnc (N g c : Nat) : Array Value := #[.int .i64 c, .slice (some ⟨g, 0, none⟩) N N]
def sRdy (L : List Pk) (m q f g c : Nat) (W : World) : Prop := Bk W g (lv L m q (c + f))

set_option maxRecDepth 100000 in
set_option maxHeartbeats 4000000 in
theorem str1_in (n : Nat) (hn : 1 ≤ n) (l bw bs bl bf m q f c : Nat) (A : Option Addr) (L : List Pk) (hm : m ≤ 20) (hq : q ≤ 20) (hf : 1 ≤ f) (hfm : f ≤ 9223372036854775807) (hL : L.length ≤ 1000) (J : Nat → World → Prop) (Jx : World → Prop) (W : World)
    (hJ : ∀ c, Abd W.heap.size (J c)) (hY : YieldsS (n - 1) l (sEnc (m + q)) (L.length + 1 - f) (sRdy L m q f) J Jx)
    (cw : Boxed W bw 3 (.int .i64 m)) (cs : Boxed W bs 3 (.int .i64 q)) (cl : Boxed W bl 26 (.slice A L.length c)) (cf : Boxed W bf 3 (.int .i64 f)) (hP : Pr W.heap.size W A L) (h0 : J 0 W) :
    CallsIn Fence.wide n Try.prog 26 #[.func (.yield l) #[] #[], .pointer (some ⟨bw, 0, none⟩), .pointer (some ⟨bs, 0, none⟩), .pointer (some ⟨bl, 0, none⟩), .pointer (some ⟨bf, 0, none⟩)] W fun e W' => (∃ v, e = .returned v) ∧ (J (L.length + 1 - f) W' ∨ Jx W') := by
  have k1 := (cw.alloc (.cells #[.int .i64 (-1)] 3)).cell
  have k2 := (cs.alloc (.cells #[.int .i64 (-1)] 3)).cell
  have k1' := cw.cell
  have k2' := cs.cell
  have hmq : ((m + q : Nat) : Int) = (m : Int) + q := by omega
  have CR := repeat_any W.heap.size (m + q) (W.alloc (.cells #[.int .i64 (-1)] 3)) (by omega) (Boxed.new W 3 (.int .i64 (-1))).cell
  rw [hmq] at CR
  have HR := Lib.hid CR
  have CW := Lib.hid cw
  have CS := Lib.hid cs
  have CL := Lib.hid cl
  have CF := Lib.hid cf
  have HP := Lib.hid hP
  have HJ := Lib.hid hJ
  have HY := Lib.hid hY
  have H0 := Lib.hid h0
  clear cw cs cl cf hP hJ hY h0 CR
  refine callsIn_of_wp Try.func26 rfl trivial ?_ rfl
  simp only [Try.ntmps26, List.size_toArray, List.length_cons, List.length_nil, Nat.reduceAdd, Nat.reduceSub, Array.replicate_succ, Array.replicate_zero, List.push_toArray, List.append_toArray, List.nil_append, List.cons_append]
  gi_wp2_with fail
  refine ⟨trivial, ?_⟩
  refine (callsIn_wide.2 HR.out).mono ?_
  rintro _ w1 ⟨rfl, hg1, z1⟩
  have hz1 := z1.size
  simp only [World.size_alloc] at hg1 z1 hz1 ⊢
  have zb : Below W.heap.size W w1 := ((Below.refl W.heap.size W).alloc (Nat.le_refl _) _).trans (z1.mono (by omega))
  have hrow : Bk w1 (W.heap.size + 1) (lv L m q 0) := by
    unfold Bk
    rw [hg1, lv_zero]
    simp [fl]
  have hS : Str W.heap.size (W.heap.size + 1) bw bs bl bf m q f c A L 0 w1 :=
    ⟨(zb.block _ CW.out.lt).trans CW.out, (zb.block _ CS.out.lt).trans CS.out, (zb.block _ CL.out.lt).trans CL.out, (zb.block _ CF.out.lt).trans CF.out, hrow, HP.out.below zb, CW.out.lt, CS.out.lt, CL.out.lt, CF.out.lt, by omega, zb.size⟩
  have HS := Lib.hid hS
  have H1 := Lib.hid (HJ.out 0 _ _ H0.out zb)
  have k3 := hS.cl.cell
  clear hS hrow zb z1 hg1 hz1 HR H0 HP CW CS CL CF k1 k2 k1' k2' hmq
  generalize hgg : W.heap.size + 1 = g at *
  gi_wp2
  gi_loopw [18] (fun p wr => ∃ j : Nat, p = .int .i64 j ∧ j ≤ L.length ∧ Str W.heap.size g bw bs bl bf m q f c A L j wr ∧ J (j + 1 - f) wr) (fun p _ => L.length - (intOf p).toNat)
  case atStart => exact ⟨0, rfl, Nat.zero_le _, HS.out, by rw [show 0 + 1 - f = 0 by omega]; exact H1.out⟩
  case round =>
    clear k3 HS H1
    obtain ⟨j, rfl, hj, hS, hJ⟩ := hrel
    have HS := Lib.hid hS
    have J1 := Lib.hid hJ
    clear hJ
    by_cases hlt : j < L.length
    · obtain ⟨b, off, rfl, hal, c0, c1, c2⟩ := hS.pr.at hlt
      have hta := ta_at (m := m) (q := q) hlt
      have k1 := hS.cw.cell
      have k2 := hS.cs.cell
      have k4 := hS.cf.cell
      have b1 := hS.cw.lt
      have b2 := hS.cs.lt
      have b4 := hS.cf.lt
      have bz := hS.lz
      have bb : b < wr.heap.size := by omega
      generalize L[j] = x at *
      obtain ⟨x1, x2, x3⟩ := x
      have HT := Lib.hid hta
      have ZA := Lib.hid ((Below.refl wr.heap.size wr).alloc (Nat.le_refl _) (.cells #[.int .i64 x1, .int .i64 x2, .int .u64 x3] 25))
      have CT := Lib.hid (turn_any (x1, x2, x3) m q (wr.alloc (.cells #[.int .i64 x1, .int .i64 x2, .int .u64 x3] 25)) (by omega) (by omega))
      clear hS hta
      gi_wp2_with fail
      refine ⟨trivial, ?_⟩
      rcases tn_range (x := (x1, x2, x3)) (m := m) (q := q) with ht | ht
      · refine (callsIn_wide.2 (Tells.of CT.out (v' := .int .i64 (-1)) (by rw [ht]))).mono ?_
        rintro _ w2 ⟨rfl, z2⟩
        have Z := ZA.out.trans (z2.mono ZA.out.size)
        have K2 := Lib.hid (HS.out.below Z)
        have hta : ta L m q j = -1 := HT.out.trans ht
        have S3 := Lib.hid (K2.out.same hta)
        have J3 := Lib.hid (HJ.out _ _ _ J1.out (Z.mono bz))
        have k5 := S3.out.cf.cell
        have hg3 := S3.out.row
        by_cases hfj : f ≤ j + 1
        · have hd : decide ((0 : Int) ≤ (j : Int) - (f : Int) + 1) = true := decide_eq_true (by omega)
          have hcf : j + 1 - f + f = j + 1 := by omega
          have e1 : ((j + 1 - f : Nat) : Int) = (j : Int) - (f : Int) + 1 := by omega
          have e2 : j + 1 - f + 1 = j + 1 + 1 - f := by omega
          obtain ⟨fn, tmps, assign, body, hy, hR⟩ := HY.out g (j + 1 - f) _ J3.out (by omega) (by unfold sRdy; rw [hcf]; exact S3.out.row)
          rw [e2] at hR
          unfold sEnc at hy
          rw [e1] at hy
          have E := Lib.hid hfj
          clear hcf e1 e2 hfj hg3 K2 z2 Z hta ht k1 k2 k4 c0 c1 c2
          gi_wp2
          refine hR.mono ?_
          rintro e W3 (⟨rfl, rfl, hJ4⟩ | ⟨rfl, hJx⟩)
          · have J4 := Lib.hid hJ4
            clear hJ4 hy hR
            gi_wp2
            go_roundw
            case rel => exact ⟨j + 1, by go_num, by omega, S3.out, J4.out⟩
            case measure => simp only [intOf]; omega
          · have J4 := Lib.hid hJx
            clear hJx hy hR
            gi_wp2
            refine bodyPost_ret (results_none rfl _ _ _) rfl ?_
            exact ⟨⟨_, rfl⟩, .inr J4.out⟩
        · have hd : decide ((0 : Int) ≤ (j : Int) - (f : Int) + 1) = false := decide_eq_false (by omega)
          have e2 := Lib.hid (show j + 1 + 1 - f = j + 1 - f by omega)
          clear hg3 K2 z2 Z hta ht k1 k2 k4 c0 c1 c2
          gi_wp2
          refine ⟨(fun f h => by cases h), ?_⟩
          gi_wp2
          go_roundw
          case rel => exact ⟨j + 1, by go_num, by omega, S3.out, by rw [e2.out]; exact J3.out⟩
          case measure => simp only [intOf]; omega
      · obtain ⟨t, et⟩ : ∃ t : Nat, tn (x1, x2, x3) m q = (t : Int) := ⟨(tn (x1, x2, x3) m q).toNat, by omega⟩
        rw [et] at ht
        refine (callsIn_wide.2 (Tells.of CT.out (v' := .int .i64 (t : Int)) (by rw [et]))).mono ?_
        rintro _ w2 ⟨rfl, z2⟩
        have Z := ZA.out.trans (z2.mono ZA.out.size)
        have K2 := Lib.hid (HS.out.below Z)
        have hta : ta L m q j = t := HT.out.trans et
        have ht1 : t < m + q := by omega
        have htn : ((t : Int) != -1) = true := by simp
        have r1 := K2.out.row.cell t _ (lv_at L m q j t ht1)
        have r2 := K2.out.row.frozen t
        have r3 := K2.out.cf.cell
        have hgb : ¬ g = bf := by have := K2.out.lf; have := K2.out.lg; omega
        have hgb' : ¬ bf = g := by have := K2.out.lf; have := K2.out.lg; omega
        have S3 := Lib.hid (K2.out.set hta)
        have J3 := Lib.hid (HJ.out _ _ _ (HJ.out _ _ _ J1.out (Z.mono bz)) ((Below.refl W.heap.size w2).setCell (p := ⟨g, t, none⟩) K2.out.lg (.int .i64 (j : Int))))
        have k5 := S3.out.cf.cell
        have hg3 := S3.out.row
        by_cases hfj : f ≤ j + 1
        · have hd : decide ((0 : Int) ≤ (j : Int) - (f : Int) + 1) = true := decide_eq_true (by omega)
          have hcf : j + 1 - f + f = j + 1 := by omega
          have e1 : ((j + 1 - f : Nat) : Int) = (j : Int) - (f : Int) + 1 := by omega
          have e2 : j + 1 - f + 1 = j + 1 + 1 - f := by omega
          obtain ⟨fn, tmps, assign, body, hy, hR⟩ := HY.out g (j + 1 - f) _ J3.out (by omega) (by unfold sRdy; rw [hcf]; exact S3.out.row)
          rw [e2] at hR
          unfold sEnc at hy
          rw [e1] at hy
          have E := Lib.hid hfj
          clear hcf e1 e2 hfj hg3 K2 z2 Z hta et k1 k2 k4 c0 c1 c2
          gi_wp2
          refine hR.mono ?_
          rintro e W3 (⟨rfl, rfl, hJ4⟩ | ⟨rfl, hJx⟩)
          · have J4 := Lib.hid hJ4
            clear hJ4 hy hR
            gi_wp2
            go_roundw
            case rel => exact ⟨j + 1, by go_num, by omega, S3.out, J4.out⟩
            case measure => simp only [intOf]; omega
          · have J4 := Lib.hid hJx
            clear hJx hy hR
            gi_wp2
            refine bodyPost_ret (results_none rfl _ _ _) rfl ?_
            exact ⟨⟨_, rfl⟩, .inr J4.out⟩
        · have hd : decide ((0 : Int) ≤ (j : Int) - (f : Int) + 1) = false := decide_eq_false (by omega)
          have e2 := Lib.hid (show j + 1 + 1 - f = j + 1 - f by omega)
          clear hg3 K2 z2 Z hta et k1 k2 k4 c0 c1 c2
          gi_wp2
          refine ⟨(fun f h => by cases h), ?_⟩
          gi_wp2
          go_roundw
          case rel => exact ⟨j + 1, by go_num, by omega, S3.out, by rw [e2.out]; exact J3.out⟩
          case measure => simp only [intOf]; omega
    · have E := Lib.hid (show j = L.length by omega)
      clear hS
      gi_wp2
      go_end0
      exact ⟨⟨_, rfl⟩, .inl (by have := J1.out; rw [E.out] at this; exact this)⟩
end Go.Proofs.Ytnabomdadhgeeaa
