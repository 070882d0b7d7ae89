/- The document's own Play: a contract. -/
import Derived.Test.YtppllanmgdhabaaIkUZ
import Derived.BigQuiet
namespace Go.Proofs.Ytppllanmgdhabaa
open Go.RowKit Go.Deep Go.Shelf
set_option maxRecDepth 100000 in
theorem make_ints (N : Nat) (w : World) (hN : N ≤ 1000) : (Instr.makeSlice 30 (.int .i64 N) (.int .i64 N)).run Try.prog w = .ok (.slice (some ⟨w.heap.size, 0, none⟩) N N) (w.alloc (.cells ((List.replicate N (0 : Int)).map (Value.int .i64)).toArray 3)) := by
  have e : madeCells #[Value.int .i64 0] N = ((List.replicate N (0 : Int)).map (Value.int .i64)).toArray := by
    apply Array.toList_inj.1
    rw [toList_madeCells_one]
    simp
  rw [← e]
  exact run_make_row' (P := Try.prog) 30 3 (.int .i64 0) 8 Try.underlying30 Try.info3 rfl .i64 .i64 N (by omega) (by omega) w
/-- The number at one's next place. -/
def nxAt (w : World) (gx i : Nat) : Nat := match w.cell? ⟨gx, i, none⟩ with
  | some v => (intOf v).toNat
  | none => 0
set_option maxRecDepth 100000 in
theorem nxat_of {w : World} {gx i k : Nat} {nx : List Int} (h : Bi w gx nx) (hk : nx[i]? = some (k : Int)) : nxAt w gx i = k := by
  unfold nxAt
  rw [h.cell hk]
  simp [intOf]
set_option maxRecDepth 100000 in
theorem nx_at (nx : List Int) {i : Nat} (k : Nat) (h : i < nx.length) : (nx.set i (k : Int))[i]? = some (k : Int) := by
  rw [List.getElem?_set_self h]
set_option maxRecDepth 100000 in
theorem hd_realloc_drew {S : World → Prop} {n : Nat} {w0 w : World} (K : ∀ x, Below n w0 x → S x) (G : ∀ x, S x → Below n w0 x) (hn : n ≤ w.heap.size) (o o' : Obj) (h : S (w.alloc o).drew) : S (w.alloc o').drew :=
  hd_realloc (w := w.drew) K G hn o o' h
set_option maxRecDepth 100000 in
theorem nx_same {nx : List Int} {i : Nat} {k : Int} (h : nx[i]? = some k) : nx.set i k = nx := by
  obtain ⟨h1, h2⟩ := List.getElem?_eq_some_iff.1 h
  rw [← h2]
  exact List.set_getElem_self h1
set_option maxRecDepth 100000 in
set_option maxHeartbeats 8000000 in
theorem rplay_yes (J : Int) (A B : Option Addr) (nc cc nw cw : Nat) (vs : List Value) (calls : List (List Fr)) (who : List Int) (w : World) (hA : Rv w A vs) (hL : Ls w.heap.size w vs calls) (hB : Ri w B who) (hnc : calls.length = nc) (hnw : who.length = nw) (hw5 : nw ≤ 504) (h8 : nc ≤ 8) (hpos : 0 < nc) (hm : may 1 1 J 0 = true) (hu : ∀ l ∈ calls, ∀ f ∈ l, UF f) (h5 : ∀ l ∈ calls, l.length ≤ 500) :
    Calls Try.prog 15 #[.int .i64 J, .slice A nc cc, .slice B nw cw] w (RetPl w (playI J calls who).m (playI J calls who).a (playI J calls who).over) := by
  have HA := Lib.hid hA
  have HL := Lib.hid hL
  have HW := Lib.hid hB
  have HM := Lib.hid hm
  have HU := Lib.hid (And.intro hu h5)
  have HNC := Lib.hid hnc
  have HNW := Lib.hid hnw
  obtain ⟨sF, hF⟩ : ∃ s, playI J calls who = s := ⟨_, rfl⟩
  rw [hF]
  have HFF := Lib.hid (show who.foldl (playI1 J nc) (startI J calls) = sF by rw [← hnc]; exact hF)
  have t1 : decide ((nc : Int) > 8) = false := decide_eq_false (by omega)
  have hmk := make_ints nc
  have HMK := Lib.hid (fun w => hmk w (by omega))
  clear hA hL hB hm hu h5 hnc hnw hF hmk
  go_enter Try.func15, Try.ntmps15
  go_wp2_with fail
  refine (Tells.of (rmay_any 1 1 J 0 _) (v' := .bool true) (by rw [HM.out])).mono ?_
  rintro _ w1 ⟨rfl, z1⟩
  have BX := Lib.hid ((Bx.mk w 1 1 J 0 23).below z1)
  have Z1 := Lib.hid ((box_below w _).trans (z1.mono (box_below w _).size))
  clear z1
  obtain ⟨_, x0, x1, x2, x3⟩ := BX.out
  go_wp2_with fail
  refine (rnew_any 1 1 J 0 _).mono ?_
  rintro _ w2 ⟨Am, cm, rfl, rm, z2⟩
  clear x0 x1 x2 x3
  replace BX := Lib.hid (BX.out.below z2)
  replace Z1 := Lib.hid (Z1.out.trans (z2.mono Z1.out.size))
  obtain ⟨nm, hnm⟩ : ∃ nm, (sz 1 1 J 0).toNat = nm := ⟨_, rfl⟩
  rw [hnm] at rm ⊢
  have RM := Lib.hid rm
  have HNM := Lib.hid hnm
  clear z2 rm hnm
  have hmk := HMK.out w2
  obtain ⟨w3, hw3⟩ : ∃ w3, w2.alloc (.cells ((List.replicate nc (0 : Int)).map (Value.int .i64)).toArray 3) = w3 := ⟨_, rfl⟩
  have hbi : Bi w3 w2.heap.size (List.replicate nc (0 : Int)) := by rw [← hw3]; exact heap_alloc_new _ _
  have hz3 : Below w2.heap.size w2 w3 := by rw [← hw3]; exact box_below _ _
  have hs3 : w2.heap.size < w3.heap.size := by rw [← hw3]; simp
  rw [hw3] at hmk
  have HBI := Lib.hid hbi
  have HZ3 := Lib.hid hz3
  have HS3 := Lib.hid hs3
  generalize hgx : w2.heap.size = gx at *
  have HGX := Lib.hid hgx
  clear hw3 hbi hz3 hs3 HMK hgx
  go_wp2
  go_loopw [12, 15] (fun q x wr => ∃ (j : Nat) (Q : Option Addr) (d : Nat), q = .slice Q j d ∧ x = .int .i64 j ∧ j ≤ nc ∧ Hid (Ow wr w3.heap.size Q j d (List.replicate j fno)) ∧ Hid (Below w3.heap.size w3 wr)) (fun _ x _ => nc - (intOf x).toNat)
  case atStart => exact ⟨0, none, 0, rfl, rfl, Nat.zero_le _, Lib.hid (Ow.nil _ _), Lib.hid (Below.refl _ _)⟩
  case round =>
    obtain ⟨j, Q, d, rfl, rfl, hj, HO, HZ⟩ := hrel
    by_cases hlt : j < nc
    · obtain ⟨Q', d', w', hrun, hown, _, hbel, _⟩ := app_one HO.out fno (by omega) HZ.out.size
      rw [← List.replicate_succ'] at hown
      have RUN := Lib.hid hrun
      have HO' := Lib.hid hown
      have HZ' := Lib.hid (HZ.out.trans hbel)
      have g1 : decide ((j : Int) < (nc : Int)) = true := decide_eq_true (by omega)
      clear hrun hown hbel HO HZ
      go_wp2_with (at_builtin; (with_reducible refine wpList_append_fr RUN.out ?_ ?_ ?_ ?_); exact ⟨_, _, rfl, rfl, rfl⟩; rfl; rfl)
      go_roundw
      case rel => exact ⟨j + 1, Q', d', rfl, by go_num, by omega, HO', HZ'⟩
      case measure => simp [intOf]; omega
    · have hje : nc = j := by omega
      subst hje
      have g1 : decide ((nc : Int) < (nc : Int)) = false := decide_eq_false (by omega)
      obtain ⟨g, rfl, hg1, hg2, _⟩ := HO.out.at hpos
      have hb0 : w.heap.size < w2.heap.size := BX.out.1
      have hgx := HGX.out
      have hs3 := HS3.out
      have hst : RP w w.heap.size J g nc d Am (startI J calls).m (startI J calls).a wr.heap.size none 0 0 (startI J calls).over gx (List.replicate nc (0 : Int)) wr := by
        have hz2 : Below w2.heap.size w2 wr := by
          have h1 := HZ3.out
          rw [← hgx] at h1
          exact h1.trans (HZ.out.mono (by omega))
        refine ⟨⟨BX.out.below hz2, (by show Ow _ _ _ _ _ (List.replicate calls.length fno); rw [HNC.out]; exact HO.out.base (by omega)), ?_, Z1.out.trans (hz2.mono Z1.out.size)⟩, hg2, Ow.nil _ _, (fun b hb => by cases hb), ⟨by omega, by omega, by omega⟩, HBI.out.same (HZ.out.block _ (by omega)), ?_⟩
        · have := rx_of RM.out hz2 (g := g) (by omega)
          rw [← HNM.out] at this
          exact this
        · have := rx_of RM.out hz2 (g := gx) (by omega)
          rw [← HNM.out] at this
          exact this
      have HST := Lib.hid hst
      generalize hlo : wr.heap.size = lo at HST
      have HLO := Lib.hid (Nat.le_of_eq hlo.symm)
      clear hst hg1 hg2 hb0 BX Z1 RM HO hlo HZ HZ3 HBI HGX HS3 hgx hs3 hmk hj hlt
      have hnm5 : nm ≤ 500 := by
        have h1 := sz_lim 1 1 J 0
        have h2 := HNM.out
        omega
      go_wp2
      go_loopw [16, 11, 13, 17, 18, 19, 20, 21] (fun x m v _ _ _ _ _ wx => ∃ (k no' : Nat) (A' Q' : Option Addr) (c' co : Nat) (s : PI) (nx : List Int), x = .int .i64 k ∧ m = .slice A' nm c' ∧ v = .slice Q' no' co ∧ k ≤ nw ∧ no' ≤ k ∧ Hid (s.over.length = no') ∧ Hid (RP w w.heap.size J g nc d A' s.m s.a lo Q' no' co s.over gx nx wx) ∧ Hid (LK calls s.left nx) ∧ Hid (PV J nc k s) ∧ Hid (FN s.a) ∧ Hid ((who.drop k).foldl (playI1 J nc) s = sF) ∧ Hid (lo ≤ wx.heap.size)) (fun x _ _ _ _ _ _ _ _ => nw - (intOf x).toNat)
      case atStart => exact ⟨0, 0, Am, none, cm, 0, startI J calls, _, rfl, rfl, rfl, Nat.zero_le _, Nat.le_refl _, Lib.hid rfl, HST, Lib.hid (by rw [← HNC.out]; exact LK.start calls), Lib.hid (by rw [← HNC.out]; exact PV.start HU.out.1 HU.out.2), Lib.hid (fn_start J calls), Lib.hid (by rw [List.drop_zero]; exact HFF.out), HLO⟩
      case round =>
        clear HST HLO HFF
        obtain ⟨k, no', A', Q', c', co, s, nx, rfl, rfl, rfl, hk, hok, HOL, HRP, HLK, HPV, HFN, HFO, HLO⟩ := hrel
        by_cases hlt2 : k < nw
        · obtain ⟨y, hy⟩ : ∃ y, who[k]? = some y := ⟨_, List.getElem?_eq_getElem (by rw [HNW.out]; exact hlt2)⟩
          have hd : who.drop k = y :: who.drop (k + 1) := by
            obtain ⟨h1, h2⟩ := List.getElem?_eq_some_iff.1 hy
            rw [List.drop_eq_getElem_cons h1, h2]
          have hfo := HFO.out
          rw [hd, List.foldl_cons] at hfo
          have HPV' := Lib.hid (show PV J nc (k + 1) (playI1 J nc s y) from fold_PV [y] k s HPV.out)
          have HFN' := Lib.hid (fn_playI1 (J := J) (n := nc) HFN.out y)
          have HFO' := Lib.hid hfo
          obtain ⟨ad, rfl, hal, hac⟩ := (HW.out.below HRP.out.rs.be) (by rw [HNW.out]; omega)
          have hy0 := hac k y hy
          clear hac hfo hd hy HFO
          by_cases hr : 0 ≤ y ∧ y < (nc : Int)
          · obtain ⟨i, rfl⟩ := Int.eq_ofNat_of_zero_le hr.1
            have hit : i < nc := by omega
            have g2 : decide ((i : Int) < 0) = false := decide_eq_false (by omega)
            have g3 : decide ((i : Int) ≥ (nc : Int)) = false := decide_eq_false (by omega)
            have g4 : decide (nc ≤ i) = false := decide_eq_false (by omega)
            have HAL := Lib.hid (show i < s.a.length by rw [HPV.out.al]; exact hit)
            have hic : i < calls.length := by rw [HNC.out]; exact hit
            obtain ⟨k0, hk0, hk1, hk2⟩ := HLK.out.2.2 i hic
            have hix : i < nx.length := by rw [HLK.out.1]; exact hic
            have HIC := Lib.hid hic
            obtain ⟨L, hL⟩ : ∃ L, calls.getD i [] = L := ⟨_, rfl⟩
            have HCL := Lib.hid hL
            rw [hL] at hk1 hk2
            have HSQ := Lib.hid (SQ.start hk2)
            have hne := nx_same hk0
            have HRP0 := Lib.hid (show RP w w.heap.size J g nc d A' s.m s.a lo Q' no' co s.over gx (nx.set i (k0 : Int)) wr from by rw [hne]; exact HRP.out)
            clear hr hk2 hne hk0 hic HRP hL
            go_upto_if 65 with (fail)
            iterate 5 (first | go_step | go_back)
            clear g2 g3 g4
            go_cut [18] from 66 to 116 (fun _ wx => ∃ (nx1 : Nat) (row : List Fr), nx1 ≤ L.length ∧ Hid (RP w w.heap.size J g nc d A' s.m row lo Q' no' co s.over gx (nx.set i (nx1 : Int)) wx) ∧ Hid (begI s i = ⟨s.m, row, s.over, s.left.set i (L.drop nx1)⟩) ∧ Hid (lo ≤ wx.heap.size))
            case first =>
              go_wp2
              go_loopw [18] (fun _ wx => ∃ (nx1 : Nat) (row : List Fr), nx1 ≤ L.length ∧ Hid (RP w w.heap.size J g nc d A' s.m row lo Q' no' co s.over gx (nx.set i (nx1 : Int)) wx) ∧ Hid (SQ s i L row nx1) ∧ Hid (lo ≤ wx.heap.size)) (fun _ wz => L.length - nxAt wz gx i)
              case atStart => exact ⟨k0, s.a, hk1, HRP0, HSQ, HLO⟩
              case round =>
                clear HRP0 HSQ HLO
                obtain ⟨nx1, row, hn1, HRP, HSQ, HLO⟩ := hrel
                obtain ⟨wo, hwo⟩ : ∃ wo, wo = wr := ⟨_, rfl⟩
                subst hwo
                obtain ⟨f, hf⟩ : ∃ f, row.getD i fno = f := ⟨_, rfl⟩
                have c7 := HRP.out.rs.ow.c7 hit
                rw [hf] at c7
                obtain ⟨a0, a1, a2, a3, a4, a5, a6⟩ := c7
                have n0 := HRP.out.nb.cell (nx_at nx nx1 hix)
                have HNA := Lib.hid (nxat_of HRP.out.nb (nx_at nx nx1 hix))
                obtain ⟨Al, cl, hv, _, hpr⟩ := HL.out.at_ i L (by rw [← HCL.out, List.getD_eq_getElem?_getD, List.getElem?_eq_getElem HIC.out]; rfl)
                obtain ⟨ac, rfl, hacl, hacc⟩ := (HA.out.below HRP.out.rs.be) (by have := (List.getElem?_eq_some_iff.1 hv).1; omega)
                have v0 := hacc i _ hv
                clear hacc hv
                obtain ⟨nl, hnl⟩ : ∃ nl, L.length = nl := ⟨_, rfl⟩
                rw [hnl] at v0 hn1
                by_cases h1 : f.op < 0
                · have g1 : decide (f.op < 0) = true := decide_eq_true h1
                  by_cases h2 : nx1 < nl
                  · have g2 : decide ((nx1 : Int) < (nl : Int)) = true := decide_eq_true (by omega)
                    have hLl : nx1 < L.length := by omega
                    have hsq := HSQ.out.own HFN.out HAL.out (by rw [hf]; exact h1) hLl
                    obtain ⟨b, off, rfl, hbl, hc7⟩ := (hpr.below HRP.out.rs.be).at hLl
                    obtain ⟨h, hh⟩ : ∃ h, L[nx1] = h := ⟨_, rfl⟩
                    rw [hh] at hsq hc7
                    obtain ⟨o, p, q, vv, xx, yy, r⟩ := h
                    simp only at hsq
                    have HC := Lib.hid hc7
                    have HN0 := Lib.hid n0
                    have HV0 := Lib.hid v0
                    have HSQQ := Lib.hid hsq
                    have HNL := Lib.hid hnl
                    have HBL := Lib.hid (show b < wo.heap.size from Nat.lt_of_lt_of_le hbl HRP.out.rs.be.size)
                    have HACL := Lib.hid hacl
                    have HLL := Lib.hid hLl
                    have HWR := Lib.hid (show wrap64 ((nx1 : Int) + 1) = ((nx1 + 1 : Nat) : Int) from by
                      have h9 := HU.out.2 L (by rw [← HCL.out]; exact getD_memL HIC.out)
                      unfold wrap64; omega)
                    clear h1 hf hh hc7 hsq hnl hpr hbl hLl hacl
                    go_wp2
                    go_quiet (fail)
                    go_wp2
                    obtain ⟨wq, hwq⟩ : ∃ wq, wq = wo.drewN nq := ⟨_, rfl⟩
                    rw [← hwq]
                    have hbq : Below wo.heap.size wo wq := by rw [hwq]; exact below_drewN _ _
                    have HRPq := Lib.hid (HRP.out.after hbq)
                    have HCq := Lib.hid (HC.out.same (hbq.block _ HBL.out))
                    have hvq := (hbq.cell (p := ac.add i) (by rw [block_add]; exact HACL.out)).trans HV0.out
                    have hlq := Nat.le_trans HLO.out hbq.size
                    have HBLq := Lib.hid (show b < wq.heap.size from Nat.lt_of_lt_of_le HBL.out hbq.size)
                    have HACLq := Lib.hid (show ac.block < wq.heap.size from Nat.lt_of_lt_of_le HACL.out hbq.size)
                    have HVq := Lib.hid hvq
                    have HLOq := Lib.hid hlq
                    clear hwq hbq hvq hlq HRP HC HV0 HN0 HLO HBL HACL a0 a1 a2 a3 a4 a5 a6 n0 v0
                    have HK := Lib.hid (show ∀ x', Below wq.heap.size wq x' → (fun w' => w'.cell? (ac.add i) = some (.slice (some ⟨b, off, none⟩) nl cl) ∧ w'.cell? ⟨gx, i, none⟩ = some (.int .i64 nx1) ∧ w'.cell? ⟨b, off + nx1 * 7, none⟩ = some (.int .i64 o) ∧ w'.cell? ⟨b, off + nx1 * 7 + 1, none⟩ = some (.int .i64 p) ∧ w'.cell? ⟨b, off + nx1 * 7 + 2, none⟩ = some (.int .i64 q) ∧ w'.cell? ⟨b, off + nx1 * 7 + 3, none⟩ = some (.int .u64 vv) ∧ w'.cell? ⟨b, off + nx1 * 7 + 4, none⟩ = some (.int .u64 xx) ∧ w'.cell? ⟨b, off + nx1 * 7 + 5, none⟩ = some (.int .u64 yy) ∧ w'.cell? ⟨b, off + nx1 * 7 + 6, none⟩ = some (.int .i64 r) ∧ Below wq.heap.size wq w') x' from fun x' hx => by
                      obtain ⟨f0, f1, f2, f3, f4, f5, f6⟩ := HCq.out.same (hx.block _ HBLq.out)
                      exact ⟨(hx.cell (p := ac.add i) (by rw [block_add]; exact HACLq.out)).trans HVq.out, (HRPq.out.nb.same (hx.block _ HRPq.out.nb.lt)).cell (nx_at nx nx1 hix), f0, f1, f2, f3, f4, f5, f6, hx⟩)
                    have hHeld0 := HK.out _ (Below.refl _ _)
                    have hn0 : wq.heap.size ≤ wq.heap.size := Nat.le_refl _
                    go_region_held3 (fun w' => w'.cell? (ac.add i) = some (.slice (some ⟨b, off, none⟩) nl cl) ∧ w'.cell? ⟨gx, i, none⟩ = some (.int .i64 nx1) ∧ w'.cell? ⟨b, off + nx1 * 7, none⟩ = some (.int .i64 o) ∧ w'.cell? ⟨b, off + nx1 * 7 + 1, none⟩ = some (.int .i64 p) ∧ w'.cell? ⟨b, off + nx1 * 7 + 2, none⟩ = some (.int .i64 q) ∧ w'.cell? ⟨b, off + nx1 * 7 + 3, none⟩ = some (.int .u64 vv) ∧ w'.cell? ⟨b, off + nx1 * 7 + 4, none⟩ = some (.int .u64 xx) ∧ w'.cell? ⟨b, off + nx1 * 7 + 5, none⟩ = some (.int .u64 yy) ∧ w'.cell? ⟨b, off + nx1 * 7 + 6, none⟩ = some (.int .i64 r) ∧ Below wq.heap.size wq w')
                      (first | with_reducible exact hd_drew HK.out (fun _ h => h.2.2.2.2.2.2.2.2.2) (by assumption) | with_reducible exact hd_alloc HK.out (fun _ h => h.2.2.2.2.2.2.2.2.2) hn0 _ (by assumption) | with_reducible exact hd_alloc_drew HK.out (fun _ h => h.2.2.2.2.2.2.2.2.2) hn0 _ (by assumption) | with_reducible exact hd_realloc_drew HK.out (fun _ h => h.2.2.2.2.2.2.2.2.2) (Nat.le_refl _) _ _ (by assumption) | with_reducible exact hd_realloc HK.out (fun _ h => h.2.2.2.2.2.2.2.2.2) (Nat.le_refl _) _ _ (by assumption))
                      (fail)
                    clear hHeld0 hn0 HK
                    obtain ⟨w4, hw4⟩ : ∃ w4, w4 = (wq.alloc (.cells #[.int .i64 o, .int .i64 p, .int .i64 q, .int .u64 vv, .int .u64 xx, .int .u64 yy, .int .i64 r] 28)).drew := ⟨_, rfl⟩
                    rw [← hw4]
                    have hb4 : Below wq.heap.size wq w4 := by rw [hw4]; exact (bel_alloc _ _).drew
                    have hbf : Bf w4 wq.heap.size ⟨o, p, q, vv, xx, yy, r⟩ := by rw [hw4]; exact (Bf.new wq ⟨o, p, q, vv, xx, yy, r⟩).after ((Below.refl _ _).drew)
                    have HR4 := Lib.hid (HRPq.out.after hb4)
                    have HL4 := Lib.hid (Nat.le_trans HLOq.out hb4.size)
                    obtain ⟨b0, b1, b2, b3, b4, b5, b6⟩ := hbf.cells
                    have hk := hbf.lt
                    simp only at b0 b3
                    generalize wq.heap.size = bx at b0 b1 b2 b3 b4 b5 b6 hk ⊢
                    have hsq := HSQQ.out
                    clear hw4 hb4 hbf HRPq HLOq HVq HCq HBLq HACLq HSQQ b1 b2 b4 b5 b6
                    by_cases ho : o = 3 ∨ o = 4
                    · have HQ1 := Lib.hid (hsq.1 ho)
                      rcases ho with rfl | rfl
                      · clear hsq
                        go_wp2_with fail
                        refine (rbegin_any 3 (i : Int) vv _).mono ?_
                        rintro _ w5 ⟨rfl, z5⟩
                        have HR5 := Lib.hid (HR4.out.after z5)
                        have HL5 := Lib.hid (Nat.le_trans HL4.out z5.size)
                        clear b0 b3 hk z5
                        obtain ⟨a0, a1, a2, a3, a4, a5, a6⟩ := HR5.out.rs.ow.c7 hit
                        have fz := HR5.out.rs.ow.free
                        go_upto_region 22 with (fail)
                        clear a0 a1 a2 a3 a4 a5 a6 fz
                        change Code.wp _ _ _ _ (pk7 w5 g (i * 7) (fbg 3 i vv))
                        have HR6 := Lib.hid (HR5.out.store hit (fbg 3 i vv))
                        have HL6 := Lib.hid (show lo ≤ (pk7 w5 g (i * 7) (fbg 3 i vv)).heap.size by rw [pk7_size]; exact HL5.out)
                        generalize pk7 w5 g (i * 7) (fbg 3 i vv) = w6 at HR6 HL6 ⊢
                        have n0 := HR6.out.nb.cell (nx_at nx nx1 hix)
                        have fx := HR6.out.nb.free
                        have HR7 := Lib.hid (show RP w w.heap.size J g nc d A' s.m (row.set i (fbg 3 i vv)) lo Q' no' co s.over gx (nx.set i ((nx1 + 1 : Nat) : Int)) (w6.setCell ⟨gx, i, none⟩ (.int .i64 (wrap64 ((nx1 : Int) + 1)))) from by rw [HWR.out]; have := HR6.out.next i ((nx1 + 1 : Nat) : Int); rw [List.set_set] at this; exact this)
                        clear HR5 HL5 HR6
                        go_wp2
                        go_roundw
                        case rel => exact ⟨nx1 + 1, _, HLL.out, HR7, HQ1, Lib.hid (by simpa using HL6.out)⟩
                        case measure => rw [nxat_of HR7.out.nb (nx_at nx (nx1 + 1) hix), HNA.out]; have := HLL.out; omega
                      · clear hsq
                        go_wp2_with fail
                        refine (rbegin_any 4 (i : Int) vv _).mono ?_
                        rintro _ w5 ⟨rfl, z5⟩
                        have HR5 := Lib.hid (HR4.out.after z5)
                        have HL5 := Lib.hid (Nat.le_trans HL4.out z5.size)
                        clear b0 b3 hk z5
                        obtain ⟨a0, a1, a2, a3, a4, a5, a6⟩ := HR5.out.rs.ow.c7 hit
                        have fz := HR5.out.rs.ow.free
                        go_upto_region 22 with (fail)
                        clear a0 a1 a2 a3 a4 a5 a6 fz
                        change Code.wp _ _ _ _ (pk7 w5 g (i * 7) (fbg 4 i vv))
                        have HR6 := Lib.hid (HR5.out.store hit (fbg 4 i vv))
                        have HL6 := Lib.hid (show lo ≤ (pk7 w5 g (i * 7) (fbg 4 i vv)).heap.size by rw [pk7_size]; exact HL5.out)
                        generalize pk7 w5 g (i * 7) (fbg 4 i vv) = w6 at HR6 HL6 ⊢
                        have n0 := HR6.out.nb.cell (nx_at nx nx1 hix)
                        have fx := HR6.out.nb.free
                        have HR7 := Lib.hid (show RP w w.heap.size J g nc d A' s.m (row.set i (fbg 4 i vv)) lo Q' no' co s.over gx (nx.set i ((nx1 + 1 : Nat) : Int)) (w6.setCell ⟨gx, i, none⟩ (.int .i64 (wrap64 ((nx1 : Int) + 1)))) from by rw [HWR.out]; have := HR6.out.next i ((nx1 + 1 : Nat) : Int); rw [List.set_set] at this; exact this)
                        clear HR5 HL5 HR6
                        go_wp2
                        go_roundw
                        case rel => exact ⟨nx1 + 1, _, HLL.out, HR7, HQ1, Lib.hid (by simpa using HL6.out)⟩
                        case measure => rw [nxat_of HR7.out.nb (nx_at nx (nx1 + 1) hix), HNA.out]; have := HLL.out; omega
                    · have g3 : (o == 3) = false := by simp; omega
                      have g4 : (o == 4) = false := by simp; omega
                      have HQ2 := Lib.hid (hsq.2 ho)
                      clear hsq ho
                      have n0 := HR4.out.nb.cell (nx_at nx nx1 hix)
                      have fx := HR4.out.nb.free
                      have HR7 := Lib.hid (show RP w w.heap.size J g nc d A' s.m row lo Q' no' co s.over gx (nx.set i ((nx1 + 1 : Nat) : Int)) (w4.setCell ⟨gx, i, none⟩ (.int .i64 (wrap64 ((nx1 : Int) + 1)))) from by rw [HWR.out]; have := HR4.out.next i ((nx1 + 1 : Nat) : Int); rw [List.set_set] at this; exact this)
                      clear HR4
                      go_wp2
                      go_roundw
                      case rel => exact ⟨nx1 + 1, row, HLL.out, HR7, HQ2, Lib.hid (by simpa using HL4.out)⟩
                      case measure => rw [nxat_of HR7.out.nb (nx_at nx (nx1 + 1) hix), HNA.out]; have := HLL.out; omega
                  · have g2 : decide ((nx1 : Int) < (nl : Int)) = false := decide_eq_false (by omega)
                    have HBE := Lib.hid (HSQ.out.done HFN.out (fun _ => by omega))
                    rw [← hnl] at hn1
                    clear h1 hf hpr hacl
                    go_wp2
                    go_quiet (fail)
                    go_wp2
                    go_meet
                    exact ⟨nx1, row, hn1, Lib.hid (HRP.out.after (below_drewN _ _)), HBE, Lib.hid (Nat.le_trans HLO.out (below_drewN _ _).size)⟩
                · have g1 : decide (f.op < 0) = false := decide_eq_false h1
                  have HBE := Lib.hid (HSQ.out.done HFN.out (fun hh => absurd (by rw [hf] at hh; exact hh) h1))
                  rw [← hnl] at hn1
                  clear h1 hf hpr hacl
                  go_wp2
                  go_quiet (fail)
                  go_wp2
                  go_meet
                  exact ⟨nx1, row, hn1, Lib.hid (HRP.out.after (below_drewN _ _)), HBE, Lib.hid (Nat.le_trans HLO.out (below_drewN _ _).size)⟩
            case rest =>
              clear HRP0 HSQ HLO
              obtain ⟨nx1, row, hn1, HRP, HBE, HLO⟩ := hcut
              have hlk := HLK.out.set HIC.out (k := nx1) (by rw [HCL.out]; exact hn1)
              rw [HCL.out] at hlk
              have HLK' := Lib.hid hlk
              have hpv := HPV.out.beg i
              have hpl : playI1 J nc s (i : Int) = stepI J (begI s i) i := by unfold playI1; rw [if_pos ⟨by omega, by omega⟩]; rfl
              rw [HBE.out] at hpv hpl
              have hUF := hpv.uf i
              unfold stepI at hpl
              simp only at hUF hpl
              obtain ⟨f, hf⟩ : ∃ f, row.getD i fno = f := ⟨_, rfl⟩
              obtain ⟨⟨M', f'⟩, hst⟩ : ∃ x, insS 1 1 J 0 s.m f = x := ⟨_, rfl⟩
              have hc := HRP.out.rs.ow.c7 hit
              rw [hf] at hUF hpl hc
              rw [hst] at hpl
              simp only at hpl
              obtain ⟨o, p, q, vv, xx, yy, r⟩ := f
              obtain ⟨wx, hwx⟩ : ∃ wx, wx = wc := ⟨_, rfl⟩
              subst hwx
              have HC := Lib.hid hc
              have HUF := Lib.hid hUF
              have HST := Lib.hid hst
              have HUM := Lib.hid HPV.out.um
              have HML := Lib.hid (HPV.out.ml.trans HNM.out)
              clear hf hc hUF hst HBE HPV HFN hlk hpv HLK
              iterate 2 (first | go_step | go_back)
              have HK := Lib.hid (show ∀ x', Below wx.heap.size wx x' → (fun w' => w'.cell? ⟨w.heap.size, 0, none⟩ = some (.int .i64 1) ∧ w'.cell? ⟨w.heap.size, 1, none⟩ = some (.int .i64 1) ∧ w'.cell? ⟨w.heap.size, 2, none⟩ = some (.int .i64 J) ∧ w'.cell? ⟨w.heap.size, 3, none⟩ = some (.int .i64 0) ∧ w'.cell? ⟨g, i * 7, none⟩ = some (.int .i64 o) ∧ w'.cell? ⟨g, i * 7 + 1, none⟩ = some (.int .i64 p) ∧ w'.cell? ⟨g, i * 7 + 2, none⟩ = some (.int .i64 q) ∧ w'.cell? ⟨g, i * 7 + 3, none⟩ = some (.int .u64 vv) ∧ w'.cell? ⟨g, i * 7 + 4, none⟩ = some (.int .u64 xx) ∧ w'.cell? ⟨g, i * 7 + 5, none⟩ = some (.int .u64 yy) ∧ w'.cell? ⟨g, i * 7 + 6, none⟩ = some (.int .i64 r) ∧ Below wx.heap.size wx w') x' from fun x' hx => by
                obtain ⟨_, e0, e1, e2, e3⟩ := HRP.out.rs.bx.below hx
                obtain ⟨f0, f1, f2, f3, f4, f5, f6⟩ := HC.out.same (hx.block _ (ow_ge HRP.out.rs.ow).2)
                exact ⟨e0, e1, e2, e3, f0, f1, f2, f3, f4, f5, f6, hx⟩)
              have HRD := Lib.hid (show ∀ x', (fun w' => w'.cell? ⟨w.heap.size, 0, none⟩ = some (.int .i64 1) ∧ w'.cell? ⟨w.heap.size, 1, none⟩ = some (.int .i64 1) ∧ w'.cell? ⟨w.heap.size, 2, none⟩ = some (.int .i64 J) ∧ w'.cell? ⟨w.heap.size, 3, none⟩ = some (.int .i64 0) ∧ w'.cell? ⟨g, i * 7, none⟩ = some (.int .i64 o) ∧ w'.cell? ⟨g, i * 7 + 1, none⟩ = some (.int .i64 p) ∧ w'.cell? ⟨g, i * 7 + 2, none⟩ = some (.int .i64 q) ∧ w'.cell? ⟨g, i * 7 + 3, none⟩ = some (.int .u64 vv) ∧ w'.cell? ⟨g, i * 7 + 4, none⟩ = some (.int .u64 xx) ∧ w'.cell? ⟨g, i * 7 + 5, none⟩ = some (.int .u64 yy) ∧ w'.cell? ⟨g, i * 7 + 6, none⟩ = some (.int .i64 r) ∧ Below wx.heap.size wx w') x' → Rd x' A' s.m from fun x' h => HRP.out.rs.me.rd.below (h.2.2.2.2.2.2.2.2.2.2.2))
              have hHeld0 := HK.out _ (Below.refl _ _)
              have hn0 : wx.heap.size ≤ wx.heap.size := Nat.le_refl _
              go_region_held3 (fun w' => w'.cell? ⟨w.heap.size, 0, none⟩ = some (.int .i64 1) ∧ w'.cell? ⟨w.heap.size, 1, none⟩ = some (.int .i64 1) ∧ w'.cell? ⟨w.heap.size, 2, none⟩ = some (.int .i64 J) ∧ w'.cell? ⟨w.heap.size, 3, none⟩ = some (.int .i64 0) ∧ w'.cell? ⟨g, i * 7, none⟩ = some (.int .i64 o) ∧ w'.cell? ⟨g, i * 7 + 1, none⟩ = some (.int .i64 p) ∧ w'.cell? ⟨g, i * 7 + 2, none⟩ = some (.int .i64 q) ∧ w'.cell? ⟨g, i * 7 + 3, none⟩ = some (.int .u64 vv) ∧ w'.cell? ⟨g, i * 7 + 4, none⟩ = some (.int .u64 xx) ∧ w'.cell? ⟨g, i * 7 + 5, none⟩ = some (.int .u64 yy) ∧ w'.cell? ⟨g, i * 7 + 6, none⟩ = some (.int .i64 r) ∧ Below wx.heap.size wx w')
                (first | with_reducible exact hd_drew HK.out (fun _ h => h.2.2.2.2.2.2.2.2.2.2.2) (by assumption) | with_reducible exact hd_call HK.out (fun _ h => h.2.2.2.2.2.2.2.2.2.2.2) (by assumption) (by assumption) hn0 | with_reducible exact hd_alloc HK.out (fun _ h => h.2.2.2.2.2.2.2.2.2.2.2) hn0 _ (by assumption) | with_reducible exact hd_alloc_drew HK.out (fun _ h => h.2.2.2.2.2.2.2.2.2.2.2) hn0 _ (by assumption) | with_reducible exact hd_setg HK.out (fun _ h => h.2.2.2.2.2.2.2.2.2.2.2) (Nat.le_refl _) _ _ _ _ _ _ _ (by assumption) | with_reducible exact hd_realloc HK.out (fun _ h => h.2.2.2.2.2.2.2.2.2.2.2) (sz_drew hb6.size) _ _ (by assumption))
                (first
                | (go_at_call 13; (refine (ristep_n (HRD.out _ (by assumption)) HML.out hnm5 HUM.out HUF.out HST.out).mono ?_); rintro _ w6 ⟨A6, c6, rfl, hr6, hb6⟩; (try (have e : Bf w6 wx.heap.size f0 := (Bf.new wx.drew f0).after hb6; obtain ⟨r0, r1, r2, r3, r4, r5, r6⟩ := e.cells; have fz := e.free; have ld := e.lt))))
              · have hrs := HRP.out.box (.inl rfl) hr6 hb6 (wf := w6.alloc (.cells #[.int .i64 f'.op, .int .i64 f'.pc, .int .i64 f'.who, .int .u64 f'.val, .int .u64 f'.x, .int .u64 f'.y, .int .i64 f'.res] 28)) (k := w6.heap.size) (f' := f') (.inr ⟨rfl, bel_alloc w6 _⟩)
                have hbf := Bf.new w6 f'
                generalize w6.alloc (.cells #[.int .i64 f'.op, .int .i64 f'.pc, .int .i64 f'.who, .int .u64 f'.val, .int .u64 f'.x, .int .u64 f'.y, .int .i64 f'.res] 28) = wf at hrs hbf ⊢
                generalize w6.heap.size = kb at hrs hbf ⊢
                have HR5 := Lib.hid hrs.1
                have HK5 := Lib.hid hrs.2.1
                have HB5 := Lib.hid hbf
                have HL5 := Lib.hid (show lo ≤ wf.heap.size from Nat.le_trans HLO.out (Nat.le_trans hrs.2.1 (Nat.le_of_lt hbf.lt)))
                obtain ⟨a0, a1, a2, a3, a4, a5, a6⟩ := hrs.1.rs.ow.c7 hit
                have fz := hrs.1.rs.ow.free
                obtain ⟨e0, e1, e2, e3, e4, e5, e6⟩ := hbf.cells
                have hk := hbf.lt
                have hgk : g ≠ kb := by have := (ow_ge HRP.out.rs.ow).2; have := hrs.2.1; omega
                clear hrs hbf hr6 hb6 hHeld0 hn0 HK HRD
                go_upto_region 26 with (fail)
                clear a0 a1 a2 a3 a4 a5 a6 fz e0 e1 e2 e3 e4 e5 e6 hk
                change Code.wp _ _ _ _ (pk7 wf g (i * 7) f')
                have HR7 := Lib.hid (HR5.out.store hit f')
                have HB7 := Lib.hid (show Bf (pk7 wf g (i * 7) f') kb f' from (pk7_other kb (Ne.symm hgk)).trans HB5.out)
                have HL7 := Lib.hid (show lo ≤ (pk7 wf g (i * 7) f').heap.size by rw [pk7_size]; exact HL5.out)
                clear HR5 HB5 HL5
                generalize pk7 wf g (i * 7) f' = w7 at HR7 HB7 HL7 ⊢
                obtain ⟨e0, e1, e2, e3, e4, e5, e6⟩ := HB7.out.cells
                have hk := HB7.out.lt
                by_cases hres : f'.res = 0
                · rw [if_pos hres] at hpl
                  rw [hpl] at HPV' HFN' HFO'
                  have hov := fun w => Tells.of (rover_any f' w) (v' := .bool false) (by simp [hres])
                  have HOV := Lib.hid hov
                  clear hov hpl hres
                  go_wp2_with (go_at_call 43; refine (HOV.out _).mono ?_; rintro _ w9 ⟨rfl, z9⟩)
                  go_roundw
                  case rel => exact ⟨k + 1, no', A6, Q', c6, co, ⟨M', row.set i f', s.over, s.left.set i (L.drop nx1)⟩, nx.set i (nx1 : Int), by go_num, rfl, rfl, by omega, by omega, HOL, Lib.hid (HR7.out.after z9), HLK', HPV', HFN', HFO', Lib.hid (Nat.le_trans HL7.out z9.size)⟩
                  case measure => simp [intOf]; omega
                · rw [if_neg hres] at hpl
                  rw [hpl] at HPV' HFN' HFO'
                  have hov := fun w => Tells.of (rover_any f' w) (v' := .bool true) (by simp [hres])
                  have HOV := Lib.hid hov
                  clear hov hpl hres
                  go_wp2_with fail
                  refine (HOV.out _).mono ?_
                  rintro _ w9 ⟨rfl, z9⟩
                  have HR9 := Lib.hid (HR7.out.after z9)
                  have HB9 := Lib.hid (HB7.out.after z9)
                  have HL9 := Lib.hid (Nat.le_trans HL7.out z9.size)
                  clear e0 e1 e2 e3 e4 e5 e6 hk z9 HR7 HB7 HL7
                  obtain ⟨Q2, d2', w11, hrun, hrp, hsz⟩ := HR9.out.app f' (by omega) HL9.out
                  have RUN := Lib.hid hrun
                  have HR11 := Lib.hid hrp
                  have HL11 := Lib.hid (Nat.le_trans HL9.out hsz)
                  obtain ⟨e0, e1, e2, e3, e4, e5, e6⟩ := HB9.out.cells
                  have hk := HB9.out.lt
                  obtain ⟨a0, a1, a2, a3, a4, a5, a6⟩ := hrp.rs.ow.c7 hit
                  have fz := hrp.rs.ow.free
                  clear hrun hrp hsz HR9 HB9 HL9
                  go_wp2_with (at_builtin; (with_reducible refine wpList_append_fr RUN.out ?_ ?_ ?_ ?_); exact ⟨_, _, rfl, rfl, rfl⟩; rfl; rfl)
                  go_roundw
                  case rel =>
                    have hfin := HR11.out.store hit fno
                    rw [List.set_set] at hfin
                    exact ⟨k + 1, no' + 1, A6, Q2, c6, d2', ⟨M', row.set i fno, s.over ++ [f'], s.left.set i (L.drop nx1)⟩, nx.set i (nx1 : Int), by go_num, rfl, rfl, by omega, by omega, Lib.hid (by simp [HOL.out]), Lib.hid hfin, HLK', HPV', HFN', HFO', Lib.hid (show lo ≤ (pk7 w11 g (i * 7) fno).heap.size by rw [pk7_size]; exact HL11.out)⟩
                  case measure => simp [intOf]; omega
              · have hrs := HRP.out.box (.inr ⟨_, .inl rfl⟩) hr6 hb6 (wf := Go.Proofs.Ytppllanmgdhabaa.pf w6 wx.heap.size f') (k := wx.heap.size) (f' := f') (.inl ⟨rfl, by simp, rfl⟩)
                have hbf : Bf (Go.Proofs.Ytppllanmgdhabaa.pf w6 wx.heap.size f') wx.heap.size f' := Bf.pf ((Bf.new wx.drew f0).after hb6) f'
                change Exit.then _ _ _ _ (Go.Proofs.Ytppllanmgdhabaa.pf w6 wx.heap.size f')
                generalize hwf : Go.Proofs.Ytppllanmgdhabaa.pf w6 wx.heap.size f' = wf at hrs hbf ⊢
                generalize hkb : wx.heap.size = kb at hbf ⊢
                rw [hkb] at hrs
                replace hrs := (show RP w w.heap.size J g nc d A6 M' row lo Q' no' co s.over gx (nx.set i (nx1 : Int)) wf ∧ wx.heap.size ≤ kb ∧ True from ⟨hrs.1, Nat.le_of_eq hkb, trivial⟩)
                clear hwf hkb
                have HR5 := Lib.hid hrs.1
                have HK5 := Lib.hid hrs.2.1
                have HB5 := Lib.hid hbf
                have HL5 := Lib.hid (show lo ≤ wf.heap.size from Nat.le_trans HLO.out (Nat.le_trans hrs.2.1 (Nat.le_of_lt hbf.lt)))
                obtain ⟨a0, a1, a2, a3, a4, a5, a6⟩ := hrs.1.rs.ow.c7 hit
                have fz := hrs.1.rs.ow.free
                obtain ⟨e0, e1, e2, e3, e4, e5, e6⟩ := hbf.cells
                have hk := hbf.lt
                have hgk : g ≠ kb := by have := (ow_ge HRP.out.rs.ow).2; have := hrs.2.1; omega
                clear hrs hbf hr6 hb6 hHeld0 hn0 HK HRD
                go_upto_region 26 with (fail)
                clear a0 a1 a2 a3 a4 a5 a6 fz e0 e1 e2 e3 e4 e5 e6 hk
                change Code.wp _ _ _ _ (pk7 wf g (i * 7) f')
                have HR7 := Lib.hid (HR5.out.store hit f')
                have HB7 := Lib.hid (show Bf (pk7 wf g (i * 7) f') kb f' from (pk7_other kb (Ne.symm hgk)).trans HB5.out)
                have HL7 := Lib.hid (show lo ≤ (pk7 wf g (i * 7) f').heap.size by rw [pk7_size]; exact HL5.out)
                clear HR5 HB5 HL5
                generalize pk7 wf g (i * 7) f' = w7 at HR7 HB7 HL7 ⊢
                obtain ⟨e0, e1, e2, e3, e4, e5, e6⟩ := HB7.out.cells
                have hk := HB7.out.lt
                by_cases hres : f'.res = 0
                · rw [if_pos hres] at hpl
                  rw [hpl] at HPV' HFN' HFO'
                  have hov := fun w => Tells.of (rover_any f' w) (v' := .bool false) (by simp [hres])
                  have HOV := Lib.hid hov
                  clear hov hpl hres
                  go_wp2_with (go_at_call 43; refine (HOV.out _).mono ?_; rintro _ w9 ⟨rfl, z9⟩)
                  go_roundw
                  case rel => exact ⟨k + 1, no', A6, Q', c6, co, ⟨M', row.set i f', s.over, s.left.set i (L.drop nx1)⟩, nx.set i (nx1 : Int), by go_num, rfl, rfl, by omega, by omega, HOL, Lib.hid (HR7.out.after z9), HLK', HPV', HFN', HFO', Lib.hid (Nat.le_trans HL7.out z9.size)⟩
                  case measure => simp [intOf]; omega
                · rw [if_neg hres] at hpl
                  rw [hpl] at HPV' HFN' HFO'
                  have hov := fun w => Tells.of (rover_any f' w) (v' := .bool true) (by simp [hres])
                  have HOV := Lib.hid hov
                  clear hov hpl hres
                  go_wp2_with fail
                  refine (HOV.out _).mono ?_
                  rintro _ w9 ⟨rfl, z9⟩
                  have HR9 := Lib.hid (HR7.out.after z9)
                  have HB9 := Lib.hid (HB7.out.after z9)
                  have HL9 := Lib.hid (Nat.le_trans HL7.out z9.size)
                  clear e0 e1 e2 e3 e4 e5 e6 hk z9 HR7 HB7 HL7
                  obtain ⟨Q2, d2', w11, hrun, hrp, hsz⟩ := HR9.out.app f' (by omega) HL9.out
                  have RUN := Lib.hid hrun
                  have HR11 := Lib.hid hrp
                  have HL11 := Lib.hid (Nat.le_trans HL9.out hsz)
                  obtain ⟨e0, e1, e2, e3, e4, e5, e6⟩ := HB9.out.cells
                  have hk := HB9.out.lt
                  obtain ⟨a0, a1, a2, a3, a4, a5, a6⟩ := hrp.rs.ow.c7 hit
                  have fz := hrp.rs.ow.free
                  clear hrun hrp hsz HR9 HB9 HL9
                  go_wp2_with (at_builtin; (with_reducible refine wpList_append_fr RUN.out ?_ ?_ ?_ ?_); exact ⟨_, _, rfl, rfl, rfl⟩; rfl; rfl)
                  go_roundw
                  case rel =>
                    have hfin := HR11.out.store hit fno
                    rw [List.set_set] at hfin
                    exact ⟨k + 1, no' + 1, A6, Q2, c6, d2', ⟨M', row.set i fno, s.over ++ [f'], s.left.set i (L.drop nx1)⟩, nx.set i (nx1 : Int), by go_num, rfl, rfl, by omega, by omega, Lib.hid (by simp [HOL.out]), Lib.hid hfin, HLK', HPV', HFN', HFO', Lib.hid (show lo ≤ (pk7 w11 g (i * 7) fno).heap.size by rw [pk7_size]; exact HL11.out)⟩
                  case measure => simp [intOf]; omega
          · have e : playI1 J nc s y = s := by unfold playI1; rw [if_neg hr]
            rw [e] at HPV' HFN' HFO'
            by_cases hr0 : y < 0
            · have g2 : decide (y < 0) = true := decide_eq_true hr0
              clear hr e
              go_wp2
              go_roundw
              case rel => exact ⟨k + 1, no', A', Q', c', co, s, nx, by go_num, rfl, rfl, by omega, by omega, HOL, HRP, HLK, HPV', HFN', HFO', HLO⟩
              case measure => simp [intOf]; omega
            · have g2 : decide (y < 0) = false := decide_eq_false hr0
              have g3 : decide (y ≥ (nc : Int)) = true := decide_eq_true (by omega)
              clear hr e
              go_wp2
              go_roundw
              case rel => exact ⟨k + 1, no', A', Q', c', co, s, nx, by go_num, rfl, rfl, by omega, by omega, HOL, HRP, HLK, HPV', HFN', HFO', HLO⟩
              case measure => simp [intOf]; omega
        · have hke : k = nw := by omega
          have e : who.drop k = [] := by rw [hke, ← HNW.out, List.drop_length]
          have hfo := HFO.out
          rw [e] at hfo
          simp only [List.foldl_nil] at hfo
          subst hfo
          have hml : s.m.length = nm := HPV.out.ml.trans HNM.out
          have hal : s.a.length = nc := HPV.out.al
          clear hke e HFO
          go_wp2
          refine bodyPost_ret (v := .tuple #[.slice A' nm c', .slice Q' no' co, .slice (some ⟨g, 0, none⟩) nc d]) (by simp [results, Try.results15, go_sem]; try rfl) rfl ?_
          exact ⟨A', c', Q', co, some ⟨g, 0, none⟩, d, by rw [hml, hal, HOL.out], HRP.out.rs.me.rd, HRP.out.ov.pr, by rw [HOL.out]; exact ow_cap HRP.out.ov, HRP.out.rs.ow.pr, HRP.out.rs.be⟩
set_option maxRecDepth 100000 in
theorem fold_none (J : Int) : ∀ (who : List Int) (s : PI), who.foldl (playI1 J 0) s = s
  | [], _ => rfl
  | i :: r, s => by
    rw [List.foldl_cons, show playI1 J 0 s i = s by unfold playI1; rw [if_neg (by omega)]]
    exact fold_none J r s
set_option maxRecDepth 100000 in
set_option maxHeartbeats 4000000 in
theorem rplay_zero (J : Int) (A B : Option Addr) (cc nw cw : Nat) (who : List Int) (w : World) (hB : Ri w B who) (hnw : who.length = nw) (hw5 : nw ≤ 504) (hm : may 1 1 J 0 = true) :
    Calls Try.prog 15 #[.int .i64 J, .slice A 0 cc, .slice B nw cw] w (RetPl w (List.replicate (sz 1 1 J 0).toNat 0) [] []) := by
  have HW := Lib.hid hB
  have HM := Lib.hid hm
  have HNW := Lib.hid hnw
  have hmk := make_ints 0
  have HMK := Lib.hid (fun w => hmk w (by omega))
  clear hB hm hnw hmk
  go_enter Try.func15, Try.ntmps15
  go_wp2_with fail
  refine (Tells.of (rmay_any 1 1 J 0 _) (v' := .bool true) (by rw [HM.out])).mono ?_
  rintro _ w1 ⟨rfl, z1⟩
  have BX := Lib.hid ((Bx.mk w 1 1 J 0 23).below z1)
  have Z1 := Lib.hid ((box_below w _).trans (z1.mono (box_below w _).size))
  clear z1
  obtain ⟨_, x0, x1, x2, x3⟩ := BX.out
  go_wp2_with fail
  refine (rnew_any 1 1 J 0 _).mono ?_
  rintro _ w2 ⟨Am, cm, rfl, rm, z2⟩
  clear x0 x1 x2 x3
  replace Z1 := Lib.hid (Z1.out.trans (z2.mono Z1.out.size))
  obtain ⟨nm, hnm⟩ : ∃ nm, (sz 1 1 J 0).toNat = nm := ⟨_, rfl⟩
  rw [hnm] at rm ⊢
  have RM := Lib.hid rm
  have HNM := Lib.hid hnm
  clear z2 rm hnm BX
  have hmk : (Instr.makeSlice 30 (.int .i64 0) (.int .i64 0)).run Try.prog w2 = .ok (.slice (some ⟨w2.heap.size, 0, none⟩) 0 0) (w2.alloc (.cells ((List.replicate 0 (0 : Int)).map (Value.int .i64)).toArray 3)) := HMK.out w2
  obtain ⟨w3, hw3⟩ : ∃ w3, w2.alloc (.cells ((List.replicate 0 (0 : Int)).map (Value.int .i64)).toArray 3) = w3 := ⟨_, rfl⟩
  have hz3 : Below w2.heap.size w2 w3 := by rw [← hw3]; exact box_below _ _
  rw [hw3] at hmk
  have HZ3 := Lib.hid hz3
  clear hw3 hz3 HMK
  go_wp2
  go_loopw [12, 15] (fun q x wr => q = .slice none 0 0 ∧ x = .int .i64 0 ∧ wr = w3) (fun _ _ _ => 0)
  case atStart => exact ⟨rfl, rfl, rfl⟩
  case round =>
    obtain ⟨rfl, rfl, rfl⟩ := hrel
    go_wp2
    go_loopw [16, 11, 13, 17, 18, 19, 20, 21] (fun x m v _ _ _ _ _ wx => ∃ (k : Nat), x = .int .i64 k ∧ m = .slice Am nm cm ∧ v = .slice none 0 0 ∧ k ≤ nw ∧ Hid (Below w2.heap.size w2 wx)) (fun x _ _ _ _ _ _ _ _ => nw - (intOf x).toNat)
    case atStart => exact ⟨0, rfl, rfl, rfl, Nat.zero_le _, HZ3⟩
    case round =>
      obtain ⟨k, rfl, rfl, rfl, hk, HZ⟩ := hrel
      by_cases hlt2 : k < nw
      · obtain ⟨y, hy⟩ : ∃ y, who[k]? = some y := ⟨_, List.getElem?_eq_getElem (by rw [HNW.out]; exact hlt2)⟩
        obtain ⟨ad, rfl, hal, hac⟩ := (HW.out.below (Z1.out.trans (HZ.out.mono Z1.out.size))) (by rw [HNW.out]; omega)
        have hy0 := hac k y hy
        clear hac hy
        by_cases hr0 : y < 0
        · have g2 : decide (y < 0) = true := decide_eq_true hr0
          clear hr0
          go_wp2
          go_roundw
          case rel => exact ⟨k + 1, by go_num, rfl, rfl, by omega, HZ⟩
          case measure => simp [intOf]; omega
        · have g2 : decide (y < 0) = false := decide_eq_false hr0
          have g3 : decide (y ≥ 0) = true := decide_eq_true (by omega)
          clear hr0
          go_wp2
          go_roundw
          case rel => exact ⟨k + 1, by go_num, rfl, rfl, by omega, HZ⟩
          case measure => simp [intOf]; omega
      · go_wp2
        refine bodyPost_ret (v := .tuple #[.slice Am nm cm, .slice none 0 0, .slice none 0 0]) (by simp [results, Try.results15, go_sem]; try rfl) rfl ?_
        rw [HNM.out]
        exact ⟨Am, cm, none, 0, none, 0, by simp, RM.out.below HZ.out, Pr.nil _ _ _, Nat.le_refl _, Pr.nil _ _ _, Z1.out.trans (HZ.out.mono Z1.out.size)⟩
set_option maxRecDepth 100000 in
/-- The document's own Play, whatever comes in. -/
theorem rplay_any (J : Int) (A B : Option Addr) (nc cc nw cw : Nat) (vs : List Value) (calls : List (List Fr)) (who : List Int) (w : World) (hA : Rv w A vs) (hL : Ls w.heap.size w vs calls) (hB : Ri w B who) (hnc : calls.length = nc) (hnw : who.length = nw) (hw5 : nw ≤ 504) (hu : ∀ l ∈ calls, ∀ f ∈ l, UF f) (h5 : ∀ l ∈ calls, l.length ≤ 500) :
    Calls Try.prog 15 #[.int .i64 J, .slice A nc cc, .slice B nw cw] w (RetPl w (plI J calls who).1 (plI J calls who).2.1 (plI J calls who).2.2) := by
  unfold plI
  cases hm : may 1 1 J 0
  · rw [if_neg (by simp)]
    exact rplay_no1 J A B nc cc nw cw w hm
  · by_cases h8 : calls.length ≤ 8
    · rw [if_pos ⟨rfl, h8⟩]
      rcases Nat.eq_zero_or_pos nc with h0 | h0
      · subst h0
        obtain rfl := List.eq_nil_of_length_eq_zero hnc
        have e : playI J [] who = startI J [] := fold_none J who _
        rw [e]
        exact rplay_zero J A B cc nw cw who w hB hnw hw5 hm
      · exact rplay_yes J A B nc cc nw cw vs calls who w hA hL hB hnc hnw hw5 (by omega) h0 hm hu h5
    · rw [if_neg (fun h => h8 h.2)]
      exact rplay_no2 J A B nc cc nw cw w hm (by omega)
end Go.Proofs.Ytppllanmgdhabaa
