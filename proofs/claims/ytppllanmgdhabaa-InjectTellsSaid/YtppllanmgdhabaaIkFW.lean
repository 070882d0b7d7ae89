/- Merged: IkF, IkW. -/
import Derived.Test.YtppllanmgdhabaaIkS
import Derived.Test.YtppllanmgdhabaaIkV
namespace Go.Proofs.Ytppllanmgdhabaa
open Go.RowKit Go.Deep Go.Shelf
set_option maxRecDepth 100000 in
theorem hd_setg {S : World → Prop} {n : Nat} {w0 w : World} (K : ∀ x, Below n w0 x → S x) (G : ∀ x, S x → Below n w0 x) {g : Nat} (hg : n ≤ g) (v0 v1 v2 v3 v4 v5 v6 : Value) (h : S w) : S (((((((w.setCell ⟨g, 0, none⟩ v0).setCell ⟨g, 1, none⟩ v1).setCell ⟨g, 2, none⟩ v2).setCell ⟨g, 3, none⟩ v3).setCell ⟨g, 4, none⟩ v4).setCell ⟨g, 5, none⟩ v5).setCell ⟨g, 6, none⟩ v6) :=
  K _ (((((((G _ h).setCell hg v0).setCell hg v1).setCell hg v2).setCell hg v3).setCell hg v4).setCell hg v5 |>.setCell hg v6)
set_option maxRecDepth 100000 in
theorem Bx.of_block {w w' : World} {g : Nat} {W D J S : Int} (h : Bx w g W D J S) (hs : w'.heap[g]? = w.heap[g]?) (hz : g < w'.heap.size) : Bx w' g W D J S := by
  obtain ⟨_, e0, e1, e2, e3⟩ := h
  exact ⟨hz, (World.cell?_of_block (a := ⟨g, 0, none⟩) hs).trans e0, (World.cell?_of_block (a := ⟨g, 1, none⟩) hs).trans e1, (World.cell?_of_block (a := ⟨g, 2, none⟩) hs).trans e2, (World.cell?_of_block (a := ⟨g, 3, none⟩) hs).trans e3⟩
/-- What holds in the loops of the document's own Rest and Play: the layout's box, the row of calls, the cells. -/
structure RS (w0 : World) (n₀ : Nat) (J : Int) (g na d : Nat) (A : Option Addr) (M : List Int) (row : List Fr) (w : World) : Prop where
  bx : Bx w n₀ 1 1 J 0
  ow : Ow w (n₀ + 1) (some ⟨g, 0, none⟩) na d row
  me : Rx 0 g w A M
  be : Below n₀ w0 w
set_option maxRecDepth 100000 in
theorem RS.after {w0 : World} {n₀ : Nat} {J : Int} {g na d : Nat} {A : Option Addr} {M : List Int} {row : List Fr} {w w' : World} (h : RS w0 n₀ J g na d A M row w) (hb : Below w.heap.size w w') : RS w0 n₀ J g na d A M row w' :=
  ⟨h.bx.below hb, h.ow.below hb, h.me.after hb, h.be.trans (hb.mono (Nat.le_of_lt h.bx.1))⟩
set_option maxRecDepth 100000 in
theorem Rx.pk7 {lo g : Nat} {w : World} {A : Option Addr} {l : List Int} (h : Rx lo g w A l) (k : Nat) (f : Fr) : Rx lo g (pk7 w g k f) A l :=
  ((((((h.set rfl _).set rfl _).set rfl _).set rfl _).set rfl _).set rfl _).set rfl _
set_option maxRecDepth 100000 in
theorem ow_ge {w : World} {base g n c : Nat} {l : List Fr} (h : Ow w base (some ⟨g, 0, none⟩) n c l) : base ≤ g ∧ g < w.heap.size := World.ownsRow.lt h g rfl
set_option maxRecDepth 100000 in
theorem RS.store {w0 : World} {n₀ : Nat} {J : Int} {g na d : Nat} {A : Option Addr} {M : List Int} {row : List Fr} {w : World} (h : RS w0 n₀ J g na d A M row w) {i : Nat} (hi : i < na) (f : Fr) : RS w0 n₀ J g na d A M (row.set i f) (pk7 w g (i * 7) f) := by
  have hg := ow_ge h.ow
  have k1 := h.ow.set hi f
  have k2 := h.me.pk7 (i * 7) f
  have k3 : Below n₀ w0 (pk7 w g (i * 7) f) := below_pk7 h.be (Nat.le_of_succ_le hg.1) (i * 7) f
  have hs : (pk7 w g (i * 7) f).heap[n₀]? = w.heap[n₀]? := pk7_other n₀ (Nat.ne_of_lt (Nat.lt_of_succ_le hg.1))
  have hz : n₀ < (pk7 w g (i * 7) f).heap.size := by rw [pk7_size]; exact h.bx.1
  have k0 := h.bx.of_block hs hz
  exact ⟨k0, k1, k2, k3⟩
set_option maxRecDepth 100000 in
/-- Behind a step of the document's own: the call's box first, or the step first. -/
theorem RS.box {w0 : World} {n₀ : Nat} {J : Int} {g na d : Nat} {A A' : Option Addr} {M M' : List Int} {row : List Fr} {w x w' : World} {f' : Fr} (h : RS w0 n₀ J g na d A M row w)
    (hx : x = w.drew ∨ ∃ o, x = w.drew.alloc o ∨ x = (w.alloc o).drew) (hr : (A' = A ∧ M' = M) ∨ Rn x.heap.size w' A' M') (hb : Below x.heap.size x w') {wf : World} {k : Nat} (hf : (k = w.heap.size ∧ w.heap.size < x.heap.size ∧ wf = Go.Proofs.Ytppllanmgdhabaa.pf w' k f') ∨ (k = w'.heap.size ∧ Below w'.heap.size w' wf)) : RS w0 n₀ J g na d A' M' row wf := by
  have hwx : Below w.heap.size w x := by
    rcases hx with rfl | ⟨o, rfl | rfl⟩
    · exact (Below.refl _ _).drew
    · exact (Below.refl _ _).drew.alloc (Nat.le_refl _) _
    · exact ((Below.refl _ _).alloc (Nat.le_refl _) _).drew
  have hgx := hwx.size
  have hb' : Below w.heap.size w w' := hwx.trans (hb.mono hwx.size)
  have hg := ow_ge h.ow
  have hm : Rx 0 g w' A' M' := by
    rcases hr with ⟨rfl, rfl⟩ | hr
    · exact h.me.after hb'
    · exact hr.rx (Nat.zero_le _) (.inl (by omega))
  rcases hf with ⟨rfl, hlt, rfl⟩ | ⟨rfl, hz⟩
  · have hb2 : Below w.heap.size w (Go.Proofs.Ytppllanmgdhabaa.pf w' w.heap.size f') := below_pf hb' (Nat.le_refl _) f'
    have hs := h.after hb2
    refine ⟨hs.bx, hs.ow, ?_, hs.be⟩
    rcases hr with ⟨rfl, rfl⟩ | hr
    · exact hs.me
    · exact (hr.pf hlt f').rx (Nat.zero_le _) (.inl (by omega))
  · have hs := h.after (hb'.trans (hz.mono hb'.size))
    exact ⟨hs.bx, hs.ow, hm.after hz, hs.be⟩
end Go.Proofs.Ytppllanmgdhabaa
namespace Go.Proofs.Ytppllanmgdhabaa
open Go.RowKit Go.Deep Go.Shelf
set_option maxRecDepth 100000 in
theorem set_mid {α : Type} (dn r : List α) (f f' : α) {i : Nat} (h : dn.length = i) : (dn ++ f :: r).set i f' = dn ++ f' :: r := by
  subst h
  simp
set_option maxRecDepth 100000 in
theorem getD_mid {α : Type} (dn r : List α) (f z : α) {i : Nat} (h : dn.length = i) : (dn ++ f :: r).getD i z = f := by
  subst h
  rw [List.getD_eq_getElem?_getD, List.getElem?_append_right (by omega)]
  simp
set_option maxRecDepth 100000 in
theorem hd_realloc {S : World → Prop} {n : Nat} {w0 w : World} (K : ∀ x, Below n w0 x → S x) (G : ∀ x, S x → Below n w0 x) (hn : n ≤ w.heap.size) (o o' : Obj) (h : S (w.alloc o)) : S (w.alloc o') :=
  K _ ((G _ h).trans ⟨rfl, rfl, rfl, by simp, fun k hk => (Below.heap_alloc w o' k (by omega)).trans (Below.heap_alloc w o k (by omega)).symm⟩)
set_option maxRecDepth 100000 in
theorem sz_drew {w : World} {n : Nat} (h : w.drew.heap.size ≤ n) : w.heap.size ≤ n := h
set_option maxRecDepth 100000 in
theorem rx_of {w w' : World} {g : Nat} {A : Option Addr} {l : List Int} (h : Rd w A l) (hb : Below w.heap.size w w') (hg : w.heap.size ≤ g) : Rx 0 g w' A l := fun hp => by
  obtain ⟨ad, e, hlt, _⟩ := h hp
  obtain ⟨ad', e', hlt', hc'⟩ := h.below hb hp
  rw [e] at e'
  injection e' with e'
  subst e'
  exact ⟨ad, e, Nat.zero_le _, by omega, hlt', hc'⟩
/-- Does a rest do anything? -/
def rsKI (J : Int) (m : List Int) : Bool := may 1 1 J 0 && decide ((m.length : Int) = sz 1 1 J 0)
set_option maxRecDepth 100000 in
theorem ret_nil2 {w w' : World} (h : Below w.heap.size w w') : RetRe w [] [] (.returned (.tuple #[.slice none 0 0, .slice none 0 0])) w' := ⟨none, 0, none, 0, rfl, Rd.nil _ _, Pr.nil _ _ _, h⟩
set_option maxRecDepth 100000 in
set_option maxHeartbeats 4000000 in
theorem rrest_yes (J : Int) (A B : Option Addr) (nm cm na ca : Nat) (m : List Int) (a : List Fr) (w : World) (hM : Rd w A m) (hP : Pr w.heap.size w B a) (hnm : m.length = nm) (hna : a.length = na) (hna5 : na ≤ 100) (hnm5 : nm ≤ 500) (hm : may 1 1 J 0 = true) (hsz : ((nm : Int) == sz 1 1 J 0) = true) (hu : UM m) (hf : UA a) (hp : 0 < na) :
    Calls Try.prog 17 #[.int .i64 J, .slice A nm cm, .slice B na ca] w (RetRe w (restIR J 10 m a).1 (restIR J 10 m a).2) := by
  have HMM := Lib.hid hM
  have HP := Lib.hid hP
  have HM := Lib.hid hm
  have HU := Lib.hid hu
  have HF := Lib.hid hf
  have HNM := Lib.hid hnm
  have HNA := Lib.hid hna
  have hss : ((nm : Int) != sz 1 1 J 0) = false := by
    rw [beq_iff_eq] at hsz
    simp [hsz]
  have HSM := Lib.hid hnm5
  clear hM hP hm hu hf hnm hna hsz hnm5
  go_enter Try.func17, Try.ntmps17
  go_wp2_with fail
  refine (Tells.of (rmay_any 1 1 J 0 _) (v' := .bool true) (by rw [HM.out])).mono ?_
  rintro _ w1 ⟨rfl, z1⟩
  have BX := Lib.hid ((Bx.mk w 1 1 J 0 23).below z1)
  have Z1 := Lib.hid ((box_below w _).trans (z1.mono (box_below w _).size))
  clear z1
  obtain ⟨_, x0, x1, x2, x3⟩ := BX.out
  go_wp2_with fail
  refine (rsize_any 1 1 J 0 _).mono ?_
  rintro _ w2 ⟨rfl, z2⟩
  clear x0 x1 x2 x3
  replace BX := Lib.hid (BX.out.below z2)
  replace Z1 := Lib.hid (Z1.out.trans (z2.mono Z1.out.size))
  replace HMM := Lib.hid (HMM.out.below Z1.out)
  replace HP := Lib.hid (HP.out.later Z1.out)
  clear z2
  obtain ⟨Q, d, w3, run, own, _, bel, _⟩ := app_frs (Ow.nil w2 w2.heap.size) ca HP.out.src HNA.out (by omega) (Nat.le_refl _)
  rw [Nat.zero_add, List.nil_append] at own
  rw [Nat.zero_add] at run
  have RUN := Lib.hid run
  obtain ⟨g, rfl, hg1, hg2, _⟩ := own.at hp
  have hb0 : w.heap.size < w2.heap.size := BX.out.1
  have hrs : RS w w.heap.size J g na d A m a w3 := by
    refine ⟨BX.out.below bel, own.base (by omega), ?_, Z1.out.trans (bel.mono Z1.out.size)⟩
    exact rx_of HMM.out bel hg1
  have RS0 := Lib.hid hrs
  clear run own bel hg1 hg2 hb0 hrs BX Z1 HMM HP
  go_wp2_with (at_builtin; (with_reducible refine wpList_append_fr RUN.out ?_ ?_ ?_ ?_); exact ⟨_, _, rfl, rfl, rfl⟩; rfl; rfl)
  go_loopw [11, 1, 12, 13, 14, 15, 16] (fun x s _ _ _ _ _ wr => ∃ (kr : Nat) (A0 : Option Addr) (c0 : Nat) (M00 : List Int) (a1 : List Fr), x = .int .i64 kr ∧ s = .slice A0 nm c0 ∧ kr ≤ 10 ∧ Hid (restIR J 10 m a = restIR J (10 - kr) M00 a1) ∧ Hid (RS w w.heap.size J g na d A0 M00 a1 wr) ∧ Hid (M00.length = nm) ∧ Hid (a1.length = na) ∧ Hid (UM M00) ∧ Hid (UA a1)) (fun x _ _ _ _ _ _ _ => 10 - (intOf x).toNat)
  case atStart => exact ⟨0, A, cm, m, a, rfl, rfl, Nat.zero_le _, Lib.hid rfl, RS0, HNM, HNA, HU, HF⟩
  case round =>
    obtain ⟨kr, A0, c0, M00, a1, rfl, rfl, hkr, HR0, HRS0, HML0, HNA1, HUM0, HUA0⟩ := hrel
    by_cases hlr : kr < 10
    · obtain ⟨⟨mF, aF⟩, hF⟩ : ∃ s, restIL J M00 a1 = s := ⟨_, rfl⟩
      have HFF := Lib.hid hF
      have hu9 := restIL_U (J := J) a1 M00 HUM0.out HUA0.out
      rw [hF] at hu9
      have HUF0 := Lib.hid hu9
      clear hF hu9
      go_wp2
      go_loopw [12, 1, 13, 14, 15, 16] (fun x s _ _ _ _ wr => ∃ (i : Nat) (A' : Option Addr) (c' : Nat) (M : List Int) (dn : List Fr), x = .int .i64 i ∧ s = .slice A' nm c' ∧ i ≤ na ∧ Hid (dn.length = i) ∧ Hid (RS w w.heap.size J g na d A' M (dn ++ a1.drop i) wr) ∧ Hid (UM M) ∧ Hid (M.length = nm) ∧ Hid ((restIL J M (a1.drop i)).1 = mF ∧ dn ++ (restIL J M (a1.drop i)).2 = aF)) (fun x _ _ _ _ _ _ => na - (intOf x).toNat)
      case atStart => exact ⟨0, A0, c0, M00, [], rfl, rfl, Nat.zero_le _, Lib.hid rfl, Lib.hid HRS0.out, HUM0, HML0, Lib.hid (by rw [List.drop_zero, HFF.out]; exact ⟨rfl, rfl⟩)⟩
      case round =>
        obtain ⟨i, A1, c1, M0, dn, rfl, rfl, hi, HDN, HRS, HUM, HML, HRE⟩ := hrel
        by_cases hlt : i < na
        · have hL : i < a1.length := by rw [HNA1.out]; exact hlt
          obtain ⟨f2, hf0⟩ : ∃ f, a1[i] = f := ⟨_, rfl⟩
          have HUF := Lib.hid (HUA0.out f2 (by rw [← hf0]; exact List.getElem_mem hL))
          have hd := List.drop_eq_getElem_cons hL
          rw [hf0] at hd
          rw [hd] at HRS HRE
          obtain ⟨⟨M1, f1⟩, h1⟩ : ∃ s, restI1 J 20 M0 f2 = s := ⟨_, rfl⟩
          have HR1 := Lib.hid h1
          have hre := HRE.out
          rw [restIL_cons, h1] at hre
          have HRE' := Lib.hid hre
          clear hre h1 hd hf0 HRE
          have CL := Lib.hid (show ∀ (A' : Option Addr) (M : List Int) (f : Fr) (ws : World), (M, f) = (M1, f1) → RS w w.heap.size J g na d A' M (dn ++ f :: a1.drop (i + 1)) ws → (dn ++ [f]).length = i + 1 ∧ RS w w.heap.size J g na d A' M ((dn ++ [f]) ++ a1.drop (i + 1)) ws ∧ ((restIL J M (a1.drop (i + 1))).1 = mF ∧ (dn ++ [f]) ++ (restIL J M (a1.drop (i + 1))).2 = aF) from fun A' M f ws e h => by
            injection e with e1 e2
            subst e1 e2
            rw [List.append_assoc]
            exact ⟨by simp [HDN.out], h, HRE'.out.1, by rw [List.append_assoc]; exact HRE'.out.2⟩)
          clear HRE'
          go_wp2
          go_loopw [13, 1, 14, 15, 16] (fun x s _ _ _ wr => ∃ (j : Nat) (A' : Option Addr) (c' : Nat) (M : List Int) (f : Fr), x = .int .i64 j ∧ s = .slice A' nm c' ∧ j ≤ 20 ∧ Hid (RS w w.heap.size J g na d A' M (dn ++ f :: a1.drop (i + 1)) wr) ∧ Hid (UM M) ∧ Hid (UF f) ∧ Hid (M.length = nm) ∧ Hid (restI1 J (20 - j) M f = (M1, f1))) (fun x _ _ _ _ _ => 20 - (intOf x).toNat)
          case atStart => exact ⟨0, A1, c1, M0, f2, rfl, rfl, Nat.zero_le _, HRS, HUM, HUF, HML, HR1⟩
          case round =>
            clear HRS HUM HML HUF HR1
            obtain ⟨j, A', c', M, f, rfl, rfl, hj, HRS, HUM, HUF, HML, HRO⟩ := hrel
            by_cases hj20 : j < 20
            · have HC := Lib.hid (show C7 wr g (i * 7) f from by have := HRS.out.ow.c7 hlt; rw [getD_mid _ _ _ _ HDN.out] at this; exact this)
              obtain ⟨o, p, q, v, xx, y, r⟩ := f
              obtain ⟨a0, a1, a2, a3, a4, a5, a6⟩ := HC.out
              simp only at a0 a1 a2 a3 a4 a5 a6
              by_cases ho : o = -1
              · have g1 : (o != -1) = false := by simp [ho]
                have hc := CL.out A' M _ wr ((restI1_over J (20 - j) M _ (.inl ho)).symm.trans HRO.out) HRS.out
                have HCC := Lib.hid hc
                clear hc ho
                go_wp2
                go_roundw
                case rel => exact ⟨i + 1, A', c', M, _, by go_num, rfl, by omega, Lib.hid HCC.out.1, Lib.hid HCC.out.2.1, HUM, HML, Lib.hid HCC.out.2.2⟩
                case measure => simp [intOf]; omega
              · have g1 : (o != -1) = true := by simp [ho]
                by_cases hr : r = 0
                · have hov := fun w => Tells.of (rover_any ⟨o, p, q, v, xx, y, r⟩ w) (v' := .bool false) (by simp [hr])
                  have HOV := Lib.hid hov
                  have hro := HRO.out
                  obtain ⟨k, hk⟩ : ∃ k, 20 - j = k + 1 := ⟨19 - j, by omega⟩
                  rw [hk] at hro
                  unfold restI1 at hro
                  rw [if_neg (by rintro (h | h); exact ho h; exact h hr), show k = 20 - (j + 1) by omega] at hro
                  obtain ⟨⟨M', f'⟩, hst⟩ : ∃ s, insS 1 1 J 0 M ⟨o, p, q, v, xx, y, r⟩ = s := ⟨_, rfl⟩
                  rw [hst] at hro
                  have HST := Lib.hid hst
                  have HRO' := Lib.hid hro
                  clear hov hr ho hst hro hk k HRO
                  go_wp2_with (go_at_call 43; refine (HOV.out _).mono ?_; rintro _ w4 ⟨rfl, z4⟩)
                  have HRS4 := Lib.hid (HRS.out.after z4)
                  have HC4 := Lib.hid (HC.out.same (z4.block _ (ow_ge HRS.out.ow).2))
                  clear a0 a1 a2 a3 a4 a5 a6 z4 HRS HC
                  have HK := Lib.hid (show ∀ x', Below w4.heap.size w4 x' → (fun w' => w'.cell? ⟨w.heap.size, 0, none⟩ = some (.int .i64 1) ∧ w'.cell? ⟨w.heap.size, 1, none⟩ = some (.int .i64 1) ∧ w'.cell? ⟨w.heap.size, 2, none⟩ = some (.int .i64 J) ∧ w'.cell? ⟨w.heap.size, 3, none⟩ = some (.int .i64 0) ∧ w'.cell? ⟨g, i * 7, none⟩ = some (.int .i64 o) ∧ w'.cell? ⟨g, i * 7 + 1, none⟩ = some (.int .i64 p) ∧ w'.cell? ⟨g, i * 7 + 2, none⟩ = some (.int .i64 q) ∧ w'.cell? ⟨g, i * 7 + 3, none⟩ = some (.int .u64 v) ∧ w'.cell? ⟨g, i * 7 + 4, none⟩ = some (.int .u64 xx) ∧ w'.cell? ⟨g, i * 7 + 5, none⟩ = some (.int .u64 y) ∧ w'.cell? ⟨g, i * 7 + 6, none⟩ = some (.int .i64 r) ∧ Below w4.heap.size w4 w') x' from fun x' hx => by
                    obtain ⟨_, e0, e1, e2, e3⟩ := HRS4.out.bx.below hx
                    obtain ⟨f0, f1, f2, f3, f4, f5, f6⟩ := HC4.out.same (hx.block _ (ow_ge HRS4.out.ow).2)
                    exact ⟨e0, e1, e2, e3, f0, f1, f2, f3, f4, f5, f6, hx⟩)
                  have HRD := Lib.hid (show ∀ x', (fun w' => w'.cell? ⟨w.heap.size, 0, none⟩ = some (.int .i64 1) ∧ w'.cell? ⟨w.heap.size, 1, none⟩ = some (.int .i64 1) ∧ w'.cell? ⟨w.heap.size, 2, none⟩ = some (.int .i64 J) ∧ w'.cell? ⟨w.heap.size, 3, none⟩ = some (.int .i64 0) ∧ w'.cell? ⟨g, i * 7, none⟩ = some (.int .i64 o) ∧ w'.cell? ⟨g, i * 7 + 1, none⟩ = some (.int .i64 p) ∧ w'.cell? ⟨g, i * 7 + 2, none⟩ = some (.int .i64 q) ∧ w'.cell? ⟨g, i * 7 + 3, none⟩ = some (.int .u64 v) ∧ w'.cell? ⟨g, i * 7 + 4, none⟩ = some (.int .u64 xx) ∧ w'.cell? ⟨g, i * 7 + 5, none⟩ = some (.int .u64 y) ∧ w'.cell? ⟨g, i * 7 + 6, none⟩ = some (.int .i64 r) ∧ Below w4.heap.size w4 w') x' → Rd x' A' M from fun x' h => HRS4.out.me.rd.below (h.2.2.2.2.2.2.2.2.2.2.2))
                  have hHeld0 := HK.out _ (Below.refl _ _)
                  have hn0 : w4.heap.size ≤ w4.heap.size := Nat.le_refl _
                  go_region_held3 (fun w' => w'.cell? ⟨w.heap.size, 0, none⟩ = some (.int .i64 1) ∧ w'.cell? ⟨w.heap.size, 1, none⟩ = some (.int .i64 1) ∧ w'.cell? ⟨w.heap.size, 2, none⟩ = some (.int .i64 J) ∧ w'.cell? ⟨w.heap.size, 3, none⟩ = some (.int .i64 0) ∧ w'.cell? ⟨g, i * 7, none⟩ = some (.int .i64 o) ∧ w'.cell? ⟨g, i * 7 + 1, none⟩ = some (.int .i64 p) ∧ w'.cell? ⟨g, i * 7 + 2, none⟩ = some (.int .i64 q) ∧ w'.cell? ⟨g, i * 7 + 3, none⟩ = some (.int .u64 v) ∧ w'.cell? ⟨g, i * 7 + 4, none⟩ = some (.int .u64 xx) ∧ w'.cell? ⟨g, i * 7 + 5, none⟩ = some (.int .u64 y) ∧ w'.cell? ⟨g, i * 7 + 6, none⟩ = some (.int .i64 r) ∧ Below w4.heap.size w4 w')
                    (first | with_reducible exact hd_drew HK.out (fun _ h => h.2.2.2.2.2.2.2.2.2.2.2) (by assumption) | with_reducible exact hd_call HK.out (fun _ h => h.2.2.2.2.2.2.2.2.2.2.2) (by assumption) (by assumption) hn0 | with_reducible exact hd_alloc HK.out (fun _ h => h.2.2.2.2.2.2.2.2.2.2.2) hn0 _ (by assumption) | with_reducible exact hd_alloc_drew HK.out (fun _ h => h.2.2.2.2.2.2.2.2.2.2.2) hn0 _ (by assumption) | with_reducible exact hd_setg HK.out (fun _ h => h.2.2.2.2.2.2.2.2.2.2.2) (Nat.le_refl _) _ _ _ _ _ _ _ (by assumption) | with_reducible exact hd_realloc HK.out (fun _ h => h.2.2.2.2.2.2.2.2.2.2.2) (sz_drew hb6.size) _ _ (by assumption))
                    (first
                    | (go_at_call 13; (refine (ristep_n (HRD.out _ (by assumption)) HML.out HSM.out HUM.out HUF.out HST.out).mono ?_); rintro _ w6 ⟨A6, c6, rfl, hr6, hb6⟩; (try (have e : Bf w6 w4.heap.size f0 := (Bf.new w4.drew f0).after hb6; obtain ⟨r0, r1, r2, r3, r4, r5, r6⟩ := e.cells; have fz := e.free; have ld := e.lt))))
                  · have hrs := HRS4.out.box (.inl rfl) hr6 hb6 (wf := w6.alloc (.cells #[.int .i64 f'.op, .int .i64 f'.pc, .int .i64 f'.who, .int .u64 f'.val, .int .u64 f'.x, .int .u64 f'.y, .int .i64 f'.res] 28)) (k := w6.heap.size) (f' := f') (.inr ⟨rfl, bel_alloc w6 _⟩)
                    have hbf := Bf.new w6 f'
                    generalize w6.alloc (.cells #[.int .i64 f'.op, .int .i64 f'.pc, .int .i64 f'.who, .int .u64 f'.val, .int .u64 f'.x, .int .u64 f'.y, .int .i64 f'.res] 28) = wf at hrs hbf ⊢
                    generalize w6.heap.size = k at hbf ⊢
                    have HR5 := Lib.hid hrs
                    have c7 := hrs.ow.c7 hlt
                    rw [getD_mid _ _ _ _ HDN.out] at c7
                    obtain ⟨a0, a1, a2, a3, a4, a5, a6⟩ := c7
                    simp only at a0 a1 a2 a3 a4 a5 a6
                    have fz := hrs.ow.free
                    have bz := hrs.be
                    obtain ⟨e0, e1, e2, e3, e4, e5, e6⟩ := hbf.cells
                    have hk := hbf.lt
                    clear hrs hbf hr6 hb6 hHeld0 hn0 HK HRD
                    go_wp2
                    go_roundw
                    case rel =>
                      have hst := HR5.out.store hlt f'
                      rw [set_mid _ _ _ _ HDN.out] at hst
                      have hdu := insS_U (W := 1) (D := 1) (J := J) (S := 0) HUM.out HUF.out
                      have hdl := insS_len 1 1 J 0 M ⟨o, p, q, v, xx, y, r⟩
                      rw [HST.out] at hdu hdl
                      exact ⟨j + 1, A6, c6, M', f', by go_num, rfl, by omega, Lib.hid hst, Lib.hid hdu.1, Lib.hid hdu.2, Lib.hid (hdl.trans HML.out), HRO'⟩
                    case measure => simp [intOf]; omega
                  · have hrs := HRS4.out.box (.inr ⟨_, .inl rfl⟩) hr6 hb6 (wf := Go.Proofs.Ytppllanmgdhabaa.pf w6 w4.heap.size f') (k := w4.heap.size) (f' := f') (.inl ⟨rfl, by simp, rfl⟩)
                    have hbf : Bf (Go.Proofs.Ytppllanmgdhabaa.pf w6 w4.heap.size f') w4.heap.size f' := Bf.pf ((Bf.new w4.drew f0).after hb6) f'
                    change Exit.then _ _ _ _ (Go.Proofs.Ytppllanmgdhabaa.pf w6 w4.heap.size f')
                    generalize Go.Proofs.Ytppllanmgdhabaa.pf w6 w4.heap.size f' = wf at hrs hbf ⊢
                    generalize w4.heap.size = k at hbf ⊢
                    have HR5 := Lib.hid hrs
                    have c7 := hrs.ow.c7 hlt
                    rw [getD_mid _ _ _ _ HDN.out] at c7
                    obtain ⟨a0, a1, a2, a3, a4, a5, a6⟩ := c7
                    simp only at a0 a1 a2 a3 a4 a5 a6
                    have fz := hrs.ow.free
                    have bz := hrs.be
                    obtain ⟨e0, e1, e2, e3, e4, e5, e6⟩ := hbf.cells
                    have hk := hbf.lt
                    clear hrs hbf hr6 hb6 hHeld0 hn0 HK HRD
                    go_wp2
                    go_roundw
                    case rel =>
                      have hst := HR5.out.store hlt f'
                      rw [set_mid _ _ _ _ HDN.out] at hst
                      have hdu := insS_U (W := 1) (D := 1) (J := J) (S := 0) HUM.out HUF.out
                      have hdl := insS_len 1 1 J 0 M ⟨o, p, q, v, xx, y, r⟩
                      rw [HST.out] at hdu hdl
                      exact ⟨j + 1, A6, c6, M', f', by go_num, rfl, by omega, Lib.hid hst, Lib.hid hdu.1, Lib.hid hdu.2, Lib.hid (hdl.trans HML.out), HRO'⟩
                    case measure => simp [intOf]; omega
                · have hov := fun w => Tells.of (rover_any ⟨o, p, q, v, xx, y, r⟩ w) (v' := .bool true) (by simp [hr])
                  have HOV := Lib.hid hov
                  have hc := CL.out A' M _ wr ((restI1_over J (20 - j) M _ (.inr hr)).symm.trans HRO.out) HRS.out
                  have HCC := Lib.hid hc
                  clear hc ho hov hr
                  go_wp2_with (go_at_call 43; refine (HOV.out _).mono ?_; rintro _ w4 ⟨rfl, z4⟩)
                  go_roundw
                  case rel => exact ⟨i + 1, A', c', M, _, by go_num, rfl, by omega, Lib.hid HCC.out.1, Lib.hid (HCC.out.2.1.after z4), HUM, HML, Lib.hid HCC.out.2.2⟩
                  case measure => simp [intOf]; omega
            · obtain rfl : j = 20 := by omega
              have hc := CL.out A' M f wr HRO.out HRS.out
              have HCC := Lib.hid hc
              clear hc
              go_wp2
              go_roundw
              case rel => exact ⟨i + 1, A', c', M, _, by go_num, rfl, by omega, Lib.hid HCC.out.1, Lib.hid HCC.out.2.1, HUM, HML, Lib.hid HCC.out.2.2⟩
              case measure => simp [intOf]; omega
        · have hje : i = na := by omega
          have e : a1.drop i = [] := by rw [hje, ← HNA1.out, List.drop_length]
          rw [e] at HRS HRE
          obtain ⟨r1, r2⟩ := HRE.out
          simp only [restIL, List.append_nil] at r1 r2 HRS
          subst r1 r2
          have hnd := HDN.out.trans hje
          have HND := Lib.hid hnd
          have HUU := Lib.hid HUF0.out
          clear hje e HRE hnd
          have hRn := Lib.hid (show restIR J 10 m a = restIR J (10 - (kr + 1)) M0 dn by
            rw [HR0.out, show 10 - kr = (10 - (kr + 1)) + 1 by omega, restIR_succ, HFF.out])
          go_wp2
          go_roundw
          case rel => exact ⟨kr + 1, A1, c1, M0, dn, by go_num, rfl, by omega, hRn, HRS, HML, HND, HUM, Lib.hid HUU.out.2⟩
          case measure => simp [intOf]; omega
    · have hE := Lib.hid (show restIR J 10 m a = (M00, a1) by
        rw [HR0.out, show 10 - kr = 0 by omega]; rfl)
      go_wp2
      go_ret2
      rw [hE.out]
      exact ⟨A0, c0, some ⟨g, 0, none⟩, d, by rw [HML0.out, HNA1.out]; rfl, HRS0.out.me.rd, HRS0.out.ow.pr, HRS0.out.be⟩
set_option maxRecDepth 100000 in
set_option maxHeartbeats 4000000 in
theorem rrest_nil (J : Int) (A B : Option Addr) (nm cm ca : Nat) (m : List Int) (w : World) (hM : Rd w A m) (hnm : m.length = nm) (hm : may 1 1 J 0 = true) (hsz : ((nm : Int) == sz 1 1 J 0) = true) :
    Calls Try.prog 17 #[.int .i64 J, .slice A nm cm, .slice B 0 ca] w (RetRe w m []) := by
  have HMM := Lib.hid hM
  have HM := Lib.hid hm
  have HNM := Lib.hid hnm
  have hss : ((nm : Int) != sz 1 1 J 0) = false := by
    rw [beq_iff_eq] at hsz
    simp [hsz]
  clear hM hm hnm hsz
  go_enter Try.func17, Try.ntmps17
  go_wp2_with fail
  refine (Tells.of (rmay_any 1 1 J 0 _) (v' := .bool true) (by rw [HM.out])).mono ?_
  rintro _ w1 ⟨rfl, z1⟩
  have BX := Lib.hid ((Bx.mk w 1 1 J 0 23).below z1)
  have Z1 := Lib.hid ((box_below w _).trans (z1.mono (box_below w _).size))
  clear z1
  obtain ⟨_, x0, x1, x2, x3⟩ := BX.out
  go_wp2_with fail
  refine (rsize_any 1 1 J 0 _).mono ?_
  rintro _ w2 ⟨rfl, z2⟩
  clear x0 x1 x2 x3
  replace Z1 := Lib.hid (Z1.out.trans (z2.mono Z1.out.size))
  clear z2 BX
  obtain ⟨Q, d, w3, run, own, _, bel, _⟩ := app_frs (Ow.nil w2 w2.heap.size) ca (Pr.nil w2.heap.size w2 B).src (m := 0) rfl (by omega) (Nat.le_refl _)
  have RUN := Lib.hid run
  have Z3 := Lib.hid (Z1.out.trans (bel.mono Z1.out.size))
  clear run own bel Z1
  go_wp2_with (at_builtin; (with_reducible refine wpList_append_fr RUN.out ?_ ?_ ?_ ?_); exact ⟨_, _, rfl, rfl, rfl⟩; rfl; rfl)
  go_loopw [11, 1, 12] (fun x s _ wr => ∃ k : Nat, x = .int .i64 k ∧ k ≤ 10 ∧ s = .slice A nm cm ∧ wr = w3) (fun x _ _ _ => 10 - (intOf x).toNat)
  case atStart => exact ⟨0, rfl, by omega, rfl, rfl⟩
  case round =>
    obtain ⟨k, rfl, hk, rfl, rfl⟩ := hrel
    by_cases hlt : k < 10
    · go_wp2
      go_loopw [12, 1] (fun x s wz => x = .int .i64 0 ∧ s = .slice A nm cm ∧ wz = wr) (fun _ _ _ => 0)
      case atStart => exact ⟨rfl, rfl, rfl⟩
      case round =>
        obtain ⟨rfl, rfl, rfl⟩ := hrel
        go_wp2
        go_roundw
        case rel => exact ⟨k + 1, by go_num, by omega, rfl, trivial⟩
        case measure => simp [intOf]; omega
    · go_wp2
      go_ret2
      exact ⟨A, cm, Q, d, by rw [HNM.out]; rfl, HMM.out.below Z3.out, Pr.nil _ _ _, Z3.out⟩
set_option maxRecDepth 100000 in
set_option maxHeartbeats 4000000 in
theorem rrest_no (J : Int) (A B : Option Addr) (nm cm na ca : Nat) (m : List Int) (w : World) (hnm : m.length = nm) (hk : rsKI J m = false) :
    Calls Try.prog 17 #[.int .i64 J, .slice A nm cm, .slice B na ca] w (RetRe w [] []) := by
  have HNM := Lib.hid hnm
  have HK := Lib.hid hk
  clear hnm hk
  go_enter Try.func17, Try.ntmps17
  cases hm : may 1 1 J 0
  · go_wp2_with fail
    refine (Tells.of (rmay_any 1 1 J 0 _) (v' := .bool false) (by rw [hm])).mono ?_
    rintro _ w1 ⟨rfl, z1⟩
    have Z1 := Lib.hid ((box_below w _).trans (z1.mono (box_below w _).size))
    clear z1
    go_wp2
    go_ret2
    exact ret_nil2 Z1.out
  · have hss : ((nm : Int) != sz 1 1 J 0) = true := by
      have h := HK.out
      unfold rsKI at h
      rw [hm, HNM.out] at h
      simpa using h
    go_wp2_with fail
    refine (Tells.of (rmay_any 1 1 J 0 _) (v' := .bool true) (by rw [hm])).mono ?_
    rintro _ w1 ⟨rfl, z1⟩
    have BX := Lib.hid ((Bx.mk w 1 1 J 0 23).below z1)
    have Z1 := Lib.hid ((box_below w _).trans (z1.mono (box_below w _).size))
    clear z1
    obtain ⟨_, x0, x1, x2, x3⟩ := BX.out
    go_wp2_with fail
    refine (rsize_any 1 1 J 0 _).mono ?_
    rintro _ w2 ⟨rfl, z2⟩
    clear x0 x1 x2 x3
    replace Z1 := Lib.hid (Z1.out.trans (z2.mono Z1.out.size))
    clear z2 BX
    go_wp2
    go_ret2
    exact ret_nil2 Z1.out
set_option maxRecDepth 100000 in
/-- The document's own Rest, whatever comes in. -/
theorem rrest_any (J : Int) (A B : Option Addr) (nm cm na ca : Nat) (m : List Int) (a : List Fr) (w : World) (hM : Rd w A m) (hP : Pr w.heap.size w B a) (hnm : m.length = nm) (hna : a.length = na) (hna5 : na ≤ 100) (hnm5 : nm ≤ 500) (hu : UM m) (hf : UA a) :
    Calls Try.prog 17 #[.int .i64 J, .slice A nm cm, .slice B na ca] w (RetRe w (rsI J m a).1 (rsI J m a).2) := by
  unfold rsI
  by_cases hk : may 1 1 J 0 = true ∧ (m.length : Int) = sz 1 1 J 0
  · rw [if_pos hk]
    have hs : ((nm : Int) == sz 1 1 J 0) = true := by rw [← hnm]; simpa using hk.2
    rcases Nat.eq_zero_or_pos na with h0 | h0
    · subst h0
      obtain rfl : a = [] := List.eq_nil_of_length_eq_zero hna
      have e : ∀ k m, restIR J k m [] = (m, []) := fun k => by
        induction k with
        | zero => intro m; rfl
        | succ k ih => intro m; rw [restIR_succ]; exact ih m
      rw [e]
      exact rrest_nil J A B nm cm ca m w hM hnm hk.1 hs
    · exact rrest_yes J A B nm cm na ca m a w hM hP hnm hna hna5 hnm5 hk.1 hs hu hf h0
  · rw [if_neg hk]
    exact rrest_no J A B nm cm na ca m w hnm (by unfold rsKI; simpa using hk)
end Go.Proofs.Ytppllanmgdhabaa
