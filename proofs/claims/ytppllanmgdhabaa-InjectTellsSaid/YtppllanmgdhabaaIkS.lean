/- Contract of Rest. -/
import Derived.Test.YtppllanmgdhabaaIkO
import Derived.Test.YtppllanmgdhabaaLaC
namespace Go.Proofs.Ytppllanmgdhabaa
open Go.RowKit Go.Deep
/-- What a rest comes to. -/
def rsI (J : Int) (m : List Int) (a : List Fr) : List Int × List Fr := if may 1 1 J 0 = true ∧ (m.length : Int) = sz 1 1 J 0 then restIR J 10 m a else ([], [])
/-- What a rest leaves. -/
def RetRe (w : World) (m : List Int) (a : List Fr) (e : Ending) (w' : World) : Prop :=
  ∃ A c B d, e = .returned (.tuple #[.slice A m.length c, .slice B a.length d]) ∧ Rd w' A m ∧ Pr w'.heap.size w' B a ∧ Below w.heap.size w w'
theorem restIL_cons (J : Int) (m : List Int) (f : Fr) (r : List Fr) : restIL J m (f :: r) = ((restIL J (restI1 J 20 m f).1 r).1, (restI1 J 20 m f).2 :: (restIL J (restI1 J 20 m f).1 r).2) := rfl
theorem restIR_succ (J : Int) (k : Nat) (m : List Int) (a : List Fr) : restIR J (k + 1) m a = restIR J k (restIL J m a).1 (restIL J m a).2 := rfl
theorem restIL_len (J : Int) : ∀ (a : List Fr) (m : List Int), (restIL J m a).1.length = m.length ∧ (restIL J m a).2.length = a.length
  | [], _ => ⟨rfl, rfl⟩
  | f :: r, m => by
    rw [restIL_cons]
    obtain ⟨h1, h2⟩ := restIL_len J r (restI1 J 20 m f).1
    exact ⟨by rw [h1, restI1_len], by simp [h2]⟩
/-- Numbers and calls of 64 bits. -/
def UA (a : List Fr) : Prop := ∀ f ∈ a, UF f
theorem UA.get {a : List Fr} (h : UA a) {i : Nat} (hi : i < a.length) : UF a[i] := h _ (List.getElem_mem hi)
theorem UA.set {a : List Fr} (h : UA a) (i : Nat) {f : Fr} (hf : UF f) : UA (a.set i f) := fun g hg => by
  rcases List.mem_or_eq_of_mem_set hg with hg | rfl
  · exact h g hg
  · exact hf
/-- The cells of m lie in no block of the row. -/
def Rm (W : World) (A : Option Addr) (m : List Int) (B : Option Addr) (na d : Nat) (lo : Nat) : Prop :=
  0 < m.length → ∃ ad, A = some ad ∧ lo ≤ ad.block ∧ (Value.slice B na d).ownBlock ≠ some ad.block ∧ ad.block < W.heap.size ∧ ∀ j u, m[j]? = some u → W.cell? (ad.add j) = some (.int .u64 u)
theorem Rm.rd {W : World} {A : Option Addr} {m : List Int} {B : Option Addr} {na d lo : Nat} (h : Rm W A m B na d lo) : Rd W A m := fun hp => by
  obtain ⟨ad, e, _, _, h3, h4⟩ := h hp
  exact ⟨ad, e, h3, h4⟩
theorem Rm.below {W W' : World} {A : Option Addr} {m : List Int} {B : Option Addr} {na d lo : Nat} (h : Rm W A m B na d lo) (hb : Below W.heap.size W W') : Rm W' A m B na d lo := fun hp => by
  obtain ⟨ad, e, h1, h2, h3, h4⟩ := h hp
  exact ⟨ad, e, h1, h2, Nat.lt_of_lt_of_le h3 hb.size, fun j u hu => (hb.cell (p := ad.add j) (by rw [block_add]; exact h3)).trans (h4 j u hu)⟩
/-- A step of a round: new cells, or the ones that there were, and the call laid back. -/
theorem Rm.step {W W2 : World} {A A2 : Option Addr} {m m2 : List Int} {g na d lo : Nat} (h : Rm W A m (some ⟨g, 0, none⟩) na d lo) (hb : Below W.heap.size W W2) (hg : g < W.heap.size) (hlo : lo ≤ W.heap.size) (hA : (A2 = A ∧ m2 = m) ∨ Rn W.heap.size W2 A2 m2) (k : Nat) (f : Fr) :
    Rm (pk7 W2 g k f) A2 m2 (some ⟨g, 0, none⟩) na d lo := fun hp => by
  have hob : (Value.slice (some ⟨g, 0, none⟩) na d).ownBlock = some g := rfl
  have key : ∀ ad : Addr, ad.block ≠ g → ∀ j, (pk7 W2 g k f).cell? (ad.add j) = W2.cell? (ad.add j) := fun ad hne j => World.cell?_of_block (by rw [block_add]; exact pk7_other _ hne)
  rcases hA with ⟨rfl, rfl⟩ | hA
  · obtain ⟨ad, e, h1, h2, h3, h4⟩ := h hp
    have hne : ad.block ≠ g := fun e2 => h2 (by rw [hob, e2])
    refine ⟨ad, e, h1, h2, by rw [pk7_size]; exact Nat.lt_of_lt_of_le h3 hb.size, fun j u hu => ?_⟩
    rw [key ad hne]
    exact (hb.cell (p := ad.add j) (by rw [block_add]; exact h3)).trans (h4 j u hu)
  · obtain ⟨ad, e, h1, h3, h4⟩ := hA hp
    have hne : ad.block ≠ g := by omega
    refine ⟨ad, e, by omega, fun e2 => ?_, by rw [pk7_size]; exact h3, fun j u hu => ?_⟩
    · rw [hob] at e2; cases e2; exact hne rfl
    · rw [key ad hne]; exact h4 j u hu
theorem Ow.base {w : World} {b b' : Nat} {A : Option Addr} {n c : Nat} {l : List Fr} (h : Ow w b A n c l) (hb : b' ≤ b) : Ow w b' A n c l := by
  refine ⟨h.1, ?_⟩
  rcases h.2 with h2 | ⟨g, cap, cur, hv, hbg, hr⟩
  · exact .inl h2
  · exact .inr ⟨g, cap, cur, hv, Nat.le_trans hb hbg, hr⟩
set_option maxRecDepth 100000 in
set_option maxHeartbeats 4000000 in
theorem rest_no1 (J : Int) (A B : Option Addr) (nm cm na ca : Nat) (w : World) (hm : may 1 1 J 0 = false) :
    Calls Try.prog 16 #[.int .i64 J, .slice A nm cm, .slice B na ca] w (RetRe w [] []) := by
  have HM := Lib.hid hm
  clear hm
  go_enter Try.func16, Try.ntmps16
  go_wp2_with fail
  refine (layout_any J _).mono ?_
  rintro _ w1 ⟨rfl, z1⟩
  have bx := Bx.mk w1 1 1 J 0 23
  have hw1 := z1.size
  have Z1 := Lib.hid (z1.alloc hw1 (.cells #[.int .i64 1, .int .i64 1, .int .i64 J, .int .i64 0] 23))
  clear z1
  go_wp2_with fail
  refine (Tells.of (may_any 1 1 J 0 _) (v' := .bool false) (by rw [HM.out])).mono ?_
  rintro _ w2 ⟨rfl, z2⟩
  have Z2 := Lib.hid (Z1.out.trans (z2.mono Z1.out.size))
  have BX2 := Lib.hid (bx.below z2)
  clear bx z2 Z1
  obtain ⟨hl, b0, b1, b2, b3⟩ := BX2.out
  go_wp2
  go_ret2
  exact ⟨none, 0, none, 0, rfl, Rd.nil _ _, Pr.nil _ _ _, Z2.out⟩
set_option maxRecDepth 100000 in
set_option maxHeartbeats 4000000 in
theorem rest_no2 (J : Int) (A B : Option Addr) (nm cm na ca : Nat) (w : World) (hm : may 1 1 J 0 = true) (hz : ((nm : Int) != sz 1 1 J 0) = true) :
    Calls Try.prog 16 #[.int .i64 J, .slice A nm cm, .slice B na ca] w (RetRe w [] []) := by
  have HM := Lib.hid hm
  clear hm
  go_enter Try.func16, Try.ntmps16
  go_wp2_with fail
  refine (layout_any J _).mono ?_
  rintro _ w1 ⟨rfl, z1⟩
  have bx := Bx.mk w1 1 1 J 0 23
  have hw1 := z1.size
  have Z1 := Lib.hid (z1.alloc hw1 (.cells #[.int .i64 1, .int .i64 1, .int .i64 J, .int .i64 0] 23))
  clear z1
  go_wp2_with fail
  refine (Tells.of (may_any 1 1 J 0 _) (v' := .bool true) (by rw [HM.out])).mono ?_
  rintro _ w2 ⟨rfl, z2⟩
  have Z2 := Lib.hid (Z1.out.trans (z2.mono Z1.out.size))
  have BX2 := Lib.hid (bx.below z2)
  clear bx z2 Z1
  obtain ⟨hl, b0, b1, b2, b3⟩ := BX2.out
  go_wp2_with fail
  refine (size_any 1 1 J 0 _).mono ?_
  rintro _ w3 ⟨rfl, z3⟩
  have Z3 := Lib.hid (Z2.out.trans (z3.mono Z2.out.size))
  have BX3 := Lib.hid (BX2.out.below z3)
  clear z3 b0 b1 b2 b3 hl BX2 Z2
  obtain ⟨hl, b0, b1, b2, b3⟩ := BX3.out
  go_wp2
  go_ret2
  exact ⟨none, 0, none, 0, rfl, Rd.nil _ _, Pr.nil _ _ _, Z3.out⟩
set_option maxRecDepth 100000 in
set_option maxHeartbeats 4000000 in
theorem rest_yes (J : Int) (A B : Option Addr) (nm cm na ca : Nat) (m : List Int) (a : List Fr) (w : World) (hM : Rd w A m) (hP : Pr w.heap.size w B a) (hnm : m.length = nm) (hna : a.length = na) (hna5 : na ≤ 100) (hnm5 : nm ≤ 500) (hm : may 1 1 J 0 = true) (hz : ((nm : Int) != sz 1 1 J 0) = false) (hu : UM m) (hf : UA a) :
    Calls Try.prog 16 #[.int .i64 J, .slice A nm cm, .slice B na ca] w (RetRe w (restIR J 10 m a).1 (restIR J 10 m a).2) := by
  have HM := Lib.hid hm
  have HMM := Lib.hid hM
  have HP := Lib.hid hP
  have HU := Lib.hid hu
  have HF := Lib.hid hf
  have HNM := Lib.hid hnm
  have HNA := Lib.hid hna
  clear hm hM hP hu hf hnm hna
  go_enter Try.func16, Try.ntmps16
  go_wp2_with fail
  refine (layout_any J _).mono ?_
  rintro _ w1 ⟨rfl, z1⟩
  have bx := Bx.mk w1 1 1 J 0 23
  have hw1 := z1.size
  have Z1 := Lib.hid (z1.alloc hw1 (.cells #[.int .i64 1, .int .i64 1, .int .i64 J, .int .i64 0] 23))
  clear z1
  go_wp2_with fail
  refine (Tells.of (may_any 1 1 J 0 _) (v' := .bool true) (by rw [HM.out])).mono ?_
  rintro _ w2 ⟨rfl, z2⟩
  have Z2 := Lib.hid (Z1.out.trans (z2.mono Z1.out.size))
  have BX2 := Lib.hid (bx.below z2)
  clear bx z2 Z1
  obtain ⟨hl, b0, b1, b2, b3⟩ := BX2.out
  go_wp2_with fail
  refine (size_any 1 1 J 0 _).mono ?_
  rintro _ w3 ⟨rfl, z3⟩
  have Z3 := Lib.hid (Z2.out.trans (z3.mono Z2.out.size))
  have BX3 := Lib.hid (BX2.out.below z3)
  clear z3 b0 b1 b2 b3 hl BX2 Z2
  obtain ⟨hl, b0, b1, b2, b3⟩ := BX3.out
  go_wp2_with fail
  refine (clone_any A nm cm m _ (HMM.out.below Z3.out) HNM.out hnm5).mono ?_
  rintro _ w4 ⟨A4, c4, rfl, hr4, z4⟩
  have Z4 := Lib.hid (Z3.out.trans (z4.mono Z3.out.size))
  have BX4 := Lib.hid (BX3.out.below z4)
  have HR4 := Lib.hid (hr4.mono (show w.heap.size ≤ w3.heap.size from Z3.out.size))
  have hw14 : w1.heap.size < w4.heap.size := Nat.lt_of_lt_of_le hl z4.size
  clear z4 hr4 b0 b1 b2 b3 hl BX3 Z3
  go_wp2_with fail
  refine (clonef_any B na ca a _ (HP.out.later Z4.out) HNA.out (by omega)).mono ?_
  rintro _ w5 ⟨B5, c5, rfl, ho5, z5⟩
  have Z5 := Lib.hid (Z4.out.trans (z5.mono Z4.out.size))
  have BX5 := Lib.hid (BX4.out.below z5)
  have HR5 := Lib.hid (show Rm w5 A4 m B5 na c5 w.heap.size from fun hp => by
    obtain ⟨ad, e, h1, h2, h3⟩ := HR4.out hp
    exact ⟨ad, e, h1, fun e2 => by have := (World.ownsRow.lt ho5 _ e2).1; omega, Nat.lt_of_lt_of_le h2 z5.size, fun j u hu => (z5.cell (p := ad.add j) (by rw [block_add]; exact h2)).trans (h3 j u hu)⟩)
  have HO5 := Lib.hid (ho5.base Z4.out.size)
  have hwg := Lib.hid (show ∀ g, B5 = some ⟨g, 0, none⟩ → w1.heap.size < g from fun g e => by
    have := (World.ownsRow.lt ho5 g (by rw [e]; rfl)).1
    omega)
  clear ho5 z5 BX4 Z4 HR4 hw14
  go_wp2
  go_loopw [1, 26] (fun x y wr => ∃ (k : Nat) (A1 : Option Addr) (c1 : Nat) (m1 : List Int) (a1 : List Fr), x = .slice A1 nm c1 ∧ y = .int .i64 k ∧ k ≤ 10 ∧ Hid (restIR J 10 m a = restIR J (10 - k) m1 a1) ∧ Hid (m1.length = nm) ∧ Hid (a1.length = na) ∧ Hid (UM m1) ∧ Hid (UA a1) ∧ Hid (Rm wr A1 m1 B5 na c5 w.heap.size) ∧ Hid (Ow wr w.heap.size B5 na c5 a1) ∧ Hid (Bx wr w1.heap.size 1 1 J 0) ∧ Hid (Below w.heap.size w wr)) (fun _ y _ => 10 - (intOf y).toNat)
  case atStart => exact ⟨0, A4, c4, m, a, rfl, rfl, by omega, Lib.hid rfl, HNM, HNA, HU, HF, HR5, HO5, BX5, Z5⟩
  case round =>
    clear HR5 HO5 BX5 Z5
    obtain ⟨k, A1, c1, m1, a1, rfl, rfl, hk, hR, hL, hN, hU, hF, hA, hO, hX, hZ⟩ := hrel
    by_cases hlt : k < 10
    · have d1 : decide ((k : Int) < 10) = true := decide_eq_true (by omega)
      go_wp2
      go_loopw [1, 9, 30] (fun x z y wr => ∃ (i : Nat) (A2 : Option Addr) (c2 : Nat) (m2 : List Int) (a2 Q : List Fr), x = .slice A2 nm c2 ∧ y = .int .i64 i ∧ i ≤ na ∧ Hid (restIL J m1 a1 = ((restIL J m2 (a2.drop i)).1, Q ++ (restIL J m2 (a2.drop i)).2)) ∧ Hid (a2.take i = Q) ∧ Hid (m2.length = nm) ∧ Hid (a2.length = na) ∧ Hid (UM m2) ∧ Hid (UA a2) ∧ Hid (Rm wr A2 m2 B5 na c5 w.heap.size) ∧ Hid (Ow wr w.heap.size B5 na c5 a2) ∧ Hid (Bx wr w1.heap.size 1 1 J 0) ∧ Hid (Below w.heap.size w wr)) (fun _ _ y _ => na - (intOf y).toNat)
      case atStart => exact ⟨0, A1, c1, m1, a1, [], rfl, rfl, by omega, Lib.hid (by simp), Lib.hid (by simp), hL, hN, hU, hF, hA, hO, hX, hZ⟩
      case round =>
        clear hL hN hU hF hA hO hX hZ
        obtain ⟨i, A2, c2, m2, a2, Q, rfl, rfl, hi, hQ, hT, hL, hN, hU, hF, hA, hO, hX, hZ⟩ := hrel
        by_cases hil : i < na
        · have d2 : decide ((i : Int) < (na : Int)) = true := decide_eq_true (by omega)
          have hla : i < a2.length := by rw [hN.out]; exact hil
          obtain ⟨g, rfl⟩ : ∃ g, B5 = some ⟨g, 0, none⟩ := by
            obtain ⟨g, e, _⟩ := hO.out.at (by omega)
            exact ⟨g, e⟩
          have hg := World.ownsRow.lt hO.out g rfl
          have hg0 := hwg.out g rfl
          have hQ2 := Lib.hid (hQ.out.trans (by rw [List.drop_eq_getElem_cons hla, restIL_cons]))
          have hc7 := hO.out.c7 hil
          have hget : a2.getD i fno = a2[i] := by rw [List.getD_eq_getElem?_getD, List.getElem?_eq_getElem hla]; rfl
          rw [hget] at hc7
          have hUF := Lib.hid (hF.out.get hla)
          obtain ⟨f, hfe⟩ : ∃ f, a2[i] = f := ⟨_, rfl⟩
          rw [hfe] at hQ2 hc7 hUF
          have HFE := Lib.hid hfe
          obtain ⟨m3, f3, hd⟩ : ∃ m3 f3, restI1 J 20 m2 f = (m3, f3) := ⟨_, _, rfl⟩
          have hL3 := Lib.hid (show m3.length = nm by have := restI1_len J 20 m2 f; rw [hd, hL.out] at this; exact this)
          have hUU := restI1_U (J := J) 20 hU.out hUF.out
          have hgo := fun (w' : World) (hr : Rd w' A2 m2) => goon_any J A2 nm c2 m2 f w' hr hL.out hnm5 hU.out hUF.out
          rw [hd] at hUU hgo
          rw [hd] at hQ2
          have HGO := Lib.hid hgo
          have hU3 := Lib.hid hUU.1
          have hF3 := Lib.hid hUU.2
          have HD := Lib.hid hd
          clear hQ hfe hd hUU hgo hget
          obtain ⟨o, p, q, v, x, y, s⟩ := f
          obtain ⟨r0, r1, r2, r3, r4, r5, r6⟩ := hc7
          simp only at r0 r1 r2 r3 r4 r5 r6
          obtain ⟨hlx, b0, b1, b2, b3⟩ := hX.out
          have hwz := hZ.out.size
          go_wp2
          go_region_with (go_at_call 46; (refine (HGO.out _ (hA.out.rd.below (Below.refl _ _).drew)).mono ?_); rintro _ w6 ⟨A6, c6, rfl, hr6, z6⟩; have HR6 := Lib.hid hr6; have z6w : Below wr.heap.size wr w6 := (Below.refl _ _).drew.trans z6; have Z6 := Lib.hid z6w; have ar6 := hO.out.below z6w; obtain ⟨r0, r1, r2, r3, r4, r5, r6⟩ := ar6.c7 hil; have fr := ar6.free; have lg2 := Nat.lt_of_lt_of_le hg.2 z6w.size; clear ar6 z6w hr6)
          all_goals
            go_wp2
            have hQn := Lib.hid (show restIL J m1 a1 = ((restIL J m3 ((a2.set i f3).drop (i + 1))).1, (Q ++ [f3]) ++ (restIL J m3 ((a2.set i f3).drop (i + 1))).2) by
              rw [hQ2.out, List.drop_set_of_lt (by omega)]; simp)
            have hTn := Lib.hid (show (a2.set i f3).take (i + 1) = Q ++ [f3] by
              rw [List.take_succ_eq_append_getElem (by simpa using hla), List.take_set_of_le (by omega), hT.out]; simp)
            have hNn := Lib.hid (show (a2.set i f3).length = na by simp [hN.out])
            have hFn := Lib.hid (hF.out.set i hF3.out)
            have hAn := Lib.hid (hA.out.step Z6.out hg.2 hwz HR6.out (i * 7) f3)
            have hOn := Lib.hid ((hO.out.below Z6.out).set hil f3)
            have hXn := Lib.hid (show Bx (pk7 w6 g (i * 7) f3) w1.heap.size 1 1 J 0 from (hX.out.below Z6.out).stay (pk7_other w1.heap.size (by omega)) (by rw [pk7_size]; exact Nat.le_refl _))
            have hZn := Lib.hid (below_pk7 (hZ.out.trans (Z6.out.mono hwz)) hg.1 (i * 7) f3)
            go_roundw
            case rel =>
              change ∃ (i1 : Nat) (A2 : Option Addr) (c2 : Nat) (m2 : List Int) (a2 Q : List Fr), _ ∧ _ ∧ i1 ≤ na ∧ Hid (restIL J m1 a1 = ((restIL J m2 (a2.drop i1)).1, Q ++ (restIL J m2 (a2.drop i1)).2)) ∧ Hid (a2.take i1 = Q) ∧ Hid (m2.length = nm) ∧ Hid (a2.length = na) ∧ Hid (UM m2) ∧ Hid (UA a2) ∧ Hid (Rm (pk7 w6 g (i * 7) f3) A2 m2 (some ⟨g, 0, none⟩) na c5 w.heap.size) ∧ Hid (Ow (pk7 w6 g (i * 7) f3) w.heap.size (some ⟨g, 0, none⟩) na c5 a2) ∧ Hid (Bx (pk7 w6 g (i * 7) f3) w1.heap.size 1 1 J 0) ∧ Hid (Below w.heap.size w (pk7 w6 g (i * 7) f3))
              exact ⟨i + 1, A6, c6, m3, a2.set i f3, Q ++ [f3], rfl, by go_num, by omega, hQn, hTn, hL3, hNn, hU3, hFn, hAn, hOn, hXn, hZn⟩
            case measure => simp [intOf]; omega
        · have d2 : decide ((i : Int) < (na : Int)) = false := decide_eq_false (by omega)
          have hQn := Lib.hid (show restIL J m1 a1 = (m2, a2) by
            have h1 : a2.drop i = [] := List.drop_eq_nil_of_le (by rw [hN.out]; omega)
            have h2 : a2.take i = a2 := List.take_of_length_le (by rw [hN.out]; omega)
            rw [hQ.out, h1, ← hT.out, h2]
            simp [restIL])
          have hRn := Lib.hid (show restIR J 10 m a = restIR J (10 - (k + 1)) m2 a2 by
            rw [hR.out, show 10 - k = (10 - (k + 1)) + 1 by omega, restIR_succ, hQn.out])
          clear hQ hT hQn hR
          go_wp2
          go_roundw
          case rel => exact ⟨k + 1, A2, c2, m2, a2, rfl, by go_num, by omega, hRn, hL, hN, hU, hF, hA, hO, hX, hZ⟩
          case measure => simp [intOf]; omega
    · have d1 : decide ((k : Int) < 10) = false := decide_eq_false (by omega)
      have hE := Lib.hid (show restIR J 10 m a = (m1, a1) by
        rw [hR.out, show 10 - k = 0 by omega]; rfl)
      clear hR
      go_wp2
      go_ret2
      rw [hE.out]
      exact ⟨A1, c1, B5, c5, by rw [hL.out, hN.out]; rfl, hA.out.rd, hO.out.pr, hZ.out⟩
/-- Rest, whatever the layout. -/
theorem rest_any (J : Int) (A B : Option Addr) (nm cm na ca : Nat) (m : List Int) (a : List Fr) (w : World) (hM : Rd w A m) (hP : Pr w.heap.size w B a) (hnm : m.length = nm) (hna : a.length = na) (hna5 : na ≤ 100) (hnm5 : nm ≤ 500) (hu : UM m) (hf : UA a) :
    Calls Try.prog 16 #[.int .i64 J, .slice A nm cm, .slice B na ca] w (RetRe w (rsI J m a).1 (rsI J m a).2) := by
  unfold rsI
  cases hm : may 1 1 J 0
  · rw [if_neg (by simp)]
    exact rest_no1 J A B nm cm na ca w hm
  · by_cases hz : (m.length : Int) = sz 1 1 J 0
    · rw [if_pos ⟨rfl, hz⟩]
      exact rest_yes J A B nm cm na ca m a w hM hP hnm hna hna5 hnm5 hm (by rw [hnm] at hz; simp [hz]) hu hf
    · rw [if_neg (fun h => hz h.2)]
      exact rest_no2 J A B nm cm na ca w hm (by rw [hnm] at hz; simpa using hz)
end Go.Proofs.Ytppllanmgdhabaa
