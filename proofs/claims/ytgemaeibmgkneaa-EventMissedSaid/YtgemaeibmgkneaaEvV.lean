/- Contracts of Play, whatever the lists, and of States. -/
import Derived.Test.YtgemaeibmgkneaaEvQ
namespace Go.Proofs.Ytgemaeibmgkneaa
open Go.RowKit Go.Deep Go.Shelf
/-- What a play comes to: the cells, the calls at hand, the calls that are over. -/
def plE (calls : List (List Int)) (who : List Int) : List Int × List Fr × List Fr := if may calls.length 1 1 0 = true then ((playE calls who).m, (playE calls who).a, (playE calls who).over) else ([], [], [])
set_option maxRecDepth 100000 in
theorem ret_none {w w' : World} (h : Below w.heap.size w w') : RetPl w [] [] [] (.returned (.tuple #[.slice none 0 0, .slice none 0 0, .slice none 0 0])) w' :=
  ⟨none, 0, none, 0, none, 0, rfl, Rd.nil _ _, Pr.nil _ _ _, Nat.le_refl _, Pr.nil _ _ _, Nat.le_refl _, h⟩
set_option maxHeartbeats 2000000 in
set_option maxRecDepth 100000 in
theorem play_no (A B : Option Addr) (nc cc nw cw : Nat) (w : World) (hm : may nc 1 1 0 = false) :
    Calls Try.prog 11 #[.slice A nc cc, .slice B nw cw] w (RetPl w [] [] []) := by
  have HM := Lib.hid hm
  clear hm
  go_enter Try.func11, Try.ntmps11
  go_wp2_with fail
  refine (layout_any nc _).mono ?_
  rintro _ w1 ⟨rfl, z1⟩
  have bx := Bx.mk w1 nc 1 1 0 36
  have hw1 := z1.size
  have Z1 := Lib.hid (z1.alloc hw1 (.cells #[.int .i64 nc, .int .i64 1, .int .i64 1, .int .i64 0] 36))
  clear z1
  go_wp2_with fail
  refine (Tells.of (may_any nc 1 1 0 _) (v' := .bool false) (by rw [HM.out])).mono ?_
  rintro _ w2 ⟨rfl, z2⟩
  have Z2 := Lib.hid (Z1.out.trans (z2.mono Z1.out.size))
  clear bx z2 Z1
  go_wp2
  refine bodyPost_ret (v := .tuple #[.slice none 0 0, .slice none 0 0, .slice none 0 0]) (by simp [results, Try.results11, go_sem]; try rfl) rfl ?_
  exact ret_none Z2.out
set_option maxRecDepth 100000 in
/-- Play, whatever the layout and however many lists. -/
theorem play_any (A B : Option Addr) (nc cc nw cw : Nat) (vs : List Value) (calls : List (List Int)) (who : List Int) (w : World) (hA : Rv w A vs) (hL : Lr w.heap.size w vs calls) (hB : Ri w B who) (hnc : calls.length = nc) (hnw : who.length = nw) (hw5 : nw ≤ 504) (h5 : ∀ l ∈ calls, l.length ≤ 500) :
    Calls Try.prog 11 #[.slice A nc cc, .slice B nw cw] w (RetPl w (plE calls who).1 (plE calls who).2.1 (plE calls who).2.2) := by
  unfold plE
  rw [hnc]
  cases hm : may nc 1 1 0
  · rw [if_neg (by simp)]
    exact play_no A B nc cc nw cw w hm
  · rw [if_pos rfl]
    exact callsIn_wide.1 (play_in 0 A B nc cc nw cw vs calls who w hA hL hB hnc hnw hw5 hm h5)
set_option maxRecDepth 100000 in
theorem plE_U (calls : List (List Int)) (who : List Int) (h5 : ∀ l ∈ calls, l.length ≤ 500) : UM (plE calls who).1 ∧ (∀ f ∈ (plE calls who).2.1, UF f) := by
  unfold plE
  split
  · have hv : ∀ (who : List Int) (k : Nat) (s : PE), PV calls.length k s → ∃ k', PV calls.length k' (who.foldl (playE1 calls.length) s) := by
      intro who
      induction who with
      | nil => intro k s h; exact ⟨k, h⟩
      | cons i r ih =>
        intro k s h
        rw [List.foldl_cons]
        unfold playE1
        split
        · exact ih _ _ ((h.beg _).step _)
        · exact ih _ _ h
    obtain ⟨k', h⟩ := hv who 0 _ (PV.start h5)
    refine ⟨h.um, fun f hf => ?_⟩
    change f ∈ (playE calls who).a at hf
    obtain ⟨i, hi, rfl⟩ := List.mem_iff_getElem.1 hf
    have := h.uf i
    change UF ((playE calls who).a.getD i fnE) at this
    rw [List.getD_eq_getElem?_getD, List.getElem?_eq_getElem hi] at this
    exact this
  · exact ⟨fun u hu => by simp at hu, fun f hf => by simp at hf⟩
set_option maxRecDepth 100000 in
theorem plE_len (calls : List (List Int)) (who : List Int) (h5 : ∀ l ∈ calls, l.length ≤ 500) : (plE calls who).1.length ≤ 500 ∧ (plE calls who).2.1.length ≤ 8 ∧ (plE calls who).2.1.length ≤ calls.length ∧ (plE calls who).2.2.length ≤ who.length := by
  unfold plE
  split
  · rename_i hm
    have h8 := may11 hm
    have hv : ∀ (who : List Int) (k : Nat) (s : PE), PV calls.length k s → PV calls.length (k + who.length) (who.foldl (playE1 calls.length) s) := by
      intro who
      induction who with
      | nil => intro k s h; exact h
      | cons i r ih =>
        intro k s h
        rw [List.foldl_cons, List.length_cons]
        by_cases c : 0 ≤ i ∧ i < calls.length
        · have e : playE1 calls.length s i = stepE calls.length (begE s i.toNat) i.toNat := by unfold playE1; rw [if_pos c]
          rw [e]
          have := ih _ _ ((h.beg i.toNat).step i.toNat)
          rwa [show k + 1 + r.length = k + (r.length + 1) by omega] at this
        · have e : playE1 calls.length s i = s := by unfold playE1; rw [if_neg c]
          rw [e]
          have := ih _ _ h
          exact ⟨this.ml, this.al, this.ll, this.um, this.uf, this.l5, by have := this.ol; omega⟩
    have h := hv who 0 _ (PV.start h5)
    have h1 := sz_lim calls.length 1 1 0
    have h2 := h.ml
    have h3 := h.al
    have h4 := h.ol
    unfold playE
    refine ⟨by rw [h2]; omega, by rw [h3]; exact h8.2, by rw [h3]; exact Nat.le_refl _, by simpa using h4⟩
  · simp
/-- How many signs there are of one, or less than none. -/
def stE (calls : List (List Int)) (who : List Int) (w : Int) : Int :=
  if ow calls.length 1 1 0 w 2 < 0 then -1
  else (((if wts calls.length 1 1 0 (plE calls who).1 w = true then 1 else 0) + (plE calls who).2.1.countP (fun f => owesN f w) + (if at0 (plE calls who).1 (ow calls.length 1 1 0 w 2) = 0 then 0 else 1) : Nat) : Int)
set_option maxRecDepth 100000 in
/-- One sign more, or not. -/
theorem count_any (b : Bool) (g k : Nat) (w : World) (h : Boxed w g 3 (.int .i64 (k : Int))) (hk : k ≤ 1000) :
    Calls Try.prog 28 #[.bool b, .pointer (some ⟨g, 0, none⟩)] w fun e w' => e = .returned (.tuple #[]) ∧ Boxed w' g 3 (.int .i64 ((k + (if b = true then 1 else 0) : Nat) : Int)) ∧ Kb g w w' := by
  have H := Lib.hid h
  have hc := h.cell
  have hf := h.frozen
  have hl := h.lt
  clear h
  have hw : IntKind.i64.wrap ((k : Int) + 1) = ((k + 1 : Nat) : Int) := by rw [IntKind.wrap_i64]; omega
  cases b
  · go_enter Try.func28, Try.ntmps28
    go_wp2
    go_end0
    exact ⟨rfl, H.out, Kb.refl _ _⟩
  · go_enter Try.func28, Try.ntmps28
    go_wp2
    go_end0
    exact ⟨rfl, H.out.set _, (Kb.refl _ _).set 0 _⟩
set_option maxRecDepth 100000 in
theorem kb_below {g : Nat} {w w1 w2 : World} (h : Below g w w1) (hk : Kb g w1 w2) : Below g w w2 := h.trans hk.low
set_option maxHeartbeats 2000000 in
set_option maxRecDepth 100000 in
theorem states_no (A B : Option Addr) (nc cc nw cw : Nat) (x : Int) (w : World) (hm : ow nc 1 1 0 x 2 < 0) :
    Tells 12 #[.slice A nc cc, .slice B nw cw, .int .i64 x] w (.int .i64 (-1)) := by
  go_enter Try.func12, Try.ntmps12
  go_wp2_with fail
  refine (layout_any nc _).mono ?_
  rintro _ w1 ⟨rfl, z1⟩
  have bx := Bx.mk w1 nc 1 1 0 36
  have hw1 := z1.size
  have Z1 := Lib.hid (z1.alloc hw1 (.cells #[.int .i64 nc, .int .i64 1, .int .i64 1, .int .i64 0] 36))
  clear z1
  obtain ⟨_, b0, b1, b2, b3⟩ := bx
  go_wp2_with fail
  refine (park_any nc 1 1 0 x _).mono ?_
  rintro _ w2 ⟨rfl, z2⟩
  have Z2 := Lib.hid (Z1.out.trans (z2.mono Z1.out.size))
  clear b0 b1 b2 b3 z2 Z1
  have d1 : decide (ow nc 1 1 0 x 2 < 0) = true := decide_eq_true hm
  clear hm
  generalize ow nc 1 1 0 x 2 = P at d1 ⊢
  go_wp2
  go_ret
  exact ⟨rfl, Z2.out⟩
set_option maxHeartbeats 4000000 in
set_option maxRecDepth 100000 in
theorem states_yes (A B : Option Addr) (nc cc nw cw : Nat) (x : Int) (vs : List Value) (calls : List (List Int)) (who : List Int) (w : World) (hA : Rv w A vs) (hL : Lr w.heap.size w vs calls) (hB : Ri w B who) (hnc : calls.length = nc) (hnw : who.length = nw) (hw5 : nw ≤ 504) (h5 : ∀ l ∈ calls, l.length ≤ 500) (hm : 0 ≤ ow nc 1 1 0 x 2) :
    Tells 12 #[.slice A nc cc, .slice B nw cw, .int .i64 x] w (.int .i64 (stE calls who x)) := by
  have HA := Lib.hid hA
  have HL := Lib.hid hL
  have HW := Lib.hid hB
  have HM := Lib.hid hm
  have HU := Lib.hid h5
  have HNC := Lib.hid hnc
  have HNW := Lib.hid hnw
  clear hA hL hB h5 hnc hnw
  go_enter Try.func12, Try.ntmps12
  go_wp2_with fail
  refine (layout_any nc _).mono ?_
  rintro _ w1 ⟨rfl, z1⟩
  have bx := Bx.mk w1 nc 1 1 0 36
  have hw1 := z1.size
  have Z1 := Lib.hid (z1.alloc hw1 (.cells #[.int .i64 nc, .int .i64 1, .int .i64 1, .int .i64 0] 36))
  have BX1 := Lib.hid bx
  clear z1
  obtain ⟨_, b0, b1, b2, b3⟩ := bx
  go_wp2_with fail
  refine (park_any nc 1 1 0 x _).mono ?_
  rintro _ w2 ⟨rfl, z2⟩
  have Z2 := Lib.hid (Z1.out.trans (z2.mono Z1.out.size))
  have BX2 := Lib.hid (BX1.out.below z2)
  clear b0 b1 b2 b3 z2 Z1 BX1
  have d1 : decide (ow nc 1 1 0 x 2 < 0) = false := decide_eq_false (by omega)
  obtain ⟨P, hP⟩ : ∃ P, ow nc 1 1 0 x 2 = P := ⟨_, rfl⟩
  have HP := Lib.hid hP
  rw [hP] at d1 ⊢
  clear hm hP
  go_wp2_with fail
  have hgo := play_any A B nc cc nw cw vs calls who w2 (HA.out.below Z2.out) (HL.out.later Z2.out) (HW.out.below Z2.out) HNC.out HNW.out hw5 HU.out
  refine hgo.mono ?_
  clear hgo
  rintro _ w5 ⟨Am, cm, Ao, co, Aa, ca, rfl, hr, _, _, ha, hla, z5⟩
  have Z5 := Lib.hid (Z2.out.trans (z5.mono Z2.out.size))
  have BX5 := Lib.hid (BX2.out.below z5)
  have hz5 := z5.size
  clear z5 BX2
  have hst := Lib.hid (show stE calls who x = (((if wts nc 1 1 0 (plE calls who).1 x = true then 1 else 0) + (plE calls who).2.1.countP (fun f => owesN f x) + (if at0 (plE calls who).1 P = 0 then 0 else 1) : Nat) : Int) by
    have h1 := HM.out
    have h2 := HP.out
    unfold stE
    rw [HNC.out, if_neg (by omega), h2])
  obtain ⟨hum, huf⟩ := plE_U calls who HU.out
  obtain ⟨hl5, hl8, _, _⟩ := plE_len calls who HU.out
  generalize (plE calls who).1 = m at hr hst hum hl5 ⊢
  generalize (plE calls who).2.1 = a at ha hst huf hl8 hla ⊢
  generalize (plE calls who).2.2 = over
  have HR := Lib.hid hr
  have HAA := Lib.hid ha
  have HUM := Lib.hid hum
  have HUF := Lib.hid huf
  obtain ⟨nm, hnm⟩ : ∃ k, m.length = k := ⟨_, rfl⟩
  obtain ⟨na, hna⟩ : ∃ k, a.length = k := ⟨_, rfl⟩
  rw [hnm] at hl5
  rw [hna] at hl8 hla
  have HNM := Lib.hid hnm
  have HNA := Lib.hid hna
  rw [hnm, hna]
  clear hr ha hum huf hnm hna d1
  -- the box of the count
  have q1 := Boxed.new w5 3 (.int .i64 ((0 : Nat) : Int))
  have y1 := bel_alloc w5 (.cells #[.int .i64 0] 3)
  have hb : w5.heap.size < (w5.alloc (.cells #[.int .i64 0] 3)).heap.size := by simp
  go_upto_region 7 with fail
  change Code.wp _ _ _ _ (w5.alloc (.cells #[.int .i64 0] 3))
  change Boxed (w5.alloc (.cells #[.int .i64 0] 3)) _ _ _ at q1
  generalize w5.alloc (.cells #[.int .i64 0] 3) = w6 at q1 y1 hb ⊢
  obtain ⟨_, b0, b1, b2, b3⟩ := BX5.out.below y1
  go_wp2_with fail
  refine (waits_any nc 1 1 0 x Am nm cm m w6 (HR.out.below y1) HNM.out hl5 HUM.out).mono ?_
  rintro _ w7 ⟨rfl, z7⟩
  have Y7 := Lib.hid (y1.trans (z7.mono (Nat.le_of_lt hb)))
  have q7 := (z7.block _ hb).trans q1
  have hb7 := Nat.lt_of_lt_of_le hb z7.size
  clear b0 b1 b2 b3 z7 y1 q1 hb
  generalize hbt : wts nc 1 1 0 m x = bt at hst ⊢
  clear hbt
  go_wp2_with fail
  refine (count_any bt w5.heap.size 0 w7 q7 (by omega)).mono ?_
  rintro _ w8 ⟨rfl, q8, k8⟩
  have Y8 := Lib.hid (kb_below Y7.out k8)
  have HB8 := Lib.hid (show w5.heap.size < w8.heap.size from Nat.lt_of_lt_of_le hb7 k8.size)
  have Q8 := Lib.hid q8
  clear k8 q8 q7 hb7 Y7
  go_wp2
  go_loopw [40] (fun v wr => ∃ j : Nat, v = .int .i64 j ∧ j ≤ na ∧ Hid (Below w5.heap.size w5 wr) ∧ Hid (Boxed wr w5.heap.size 3 (.int .i64 ((0 + (if bt = true then 1 else 0) + (a.take j).countP (fun f => owesN f x) : Nat) : Int)))) (fun v _ => na - (intOf v).toNat)
  case atStart => exact ⟨0, rfl, Nat.zero_le _, Y8, Lib.hid (by simpa using Q8.out)⟩
  case round =>
    clear Y8 HB8 Q8
    obtain ⟨j, rfl, hj, hY, hQ⟩ := hrel
    by_cases hlt : j < na
    · have hL : j < a.length := by rw [HNA.out]; exact hlt
      have hP := HAA.out.below hY.out
      obtain ⟨b, off, rfl, hb, hC⟩ := hP.at hL
      have hufj := HUF.out a[j] (List.getElem_mem hL)
      have hcp : (a.take (j + 1)).countP (fun f => owesN f x) = (a.take j).countP (fun f => owesN f x) + (if owesN a[j] x = true then 1 else 0) := by
        rw [List.take_succ_eq_append_getElem hL, List.countP_append, List.countP_singleton]
      have hcl : (a.take j).countP (fun f => owesN f x) ≤ 8 := by
        have h1 := List.countP_le_length (p := fun f => owesN f x) (l := a.take j)
        simp at h1; omega
      have HCP := Lib.hid hcp
      obtain ⟨kk, hkk⟩ : ∃ kk, (0 + (if bt = true then 1 else 0) + (a.take j).countP (fun f => owesN f x) : Nat) = kk := ⟨_, rfl⟩
      have hk9 : kk ≤ 1000 := by
        have : (if bt = true then 1 else 0) ≤ 1 := by split <;> omega
        omega
      rw [hkk] at hQ
      have HKK := Lib.hid hkk
      clear hkk hcp hcl hP
      obtain ⟨f, hf⟩ : ∃ f, a[j] = f := ⟨_, rfl⟩
      rw [hf] at hC hufj HCP
      have HUFJ := Lib.hid hufj
      clear hf hufj
      obtain ⟨o, p, q, v, xx, y, s⟩ := f
      obtain ⟨a0, a1, a2, a3, a4, a5, a6⟩ := hC
      simp only at a0 a1 a2 a3 a4 a5 a6
      have hlq := hQ.out.lt
      go_upto_region 12 with fail
      have BX := Lib.hid (show Bf (wr.alloc (.cells #[.int .i64 o, .int .i64 p, .int .i64 q, .int .u64 v, .int .u64 xx, .int .u64 y, .int .i64 s] 34)) wr.heap.size ⟨o, p, q, v, xx, y, s⟩ from heap_alloc_new _ _)
      have yy := bel_alloc wr (.cells #[.int .i64 o, .int .i64 p, .int .i64 q, .int .u64 v, .int .u64 xx, .int .u64 y, .int .i64 s] 34)
      have Y1 := Lib.hid (hY.out.trans (yy.mono (Nat.le_of_lt hlq)))
      have Q1 := Lib.hid (show Boxed _ _ _ _ from (yy.block _ hlq).trans hQ.out)
      clear yy a0 a1 a2 a3 a4 a5 a6 hY hQ
      have hl1 : w5.heap.size < (wr.alloc (.cells #[.int .i64 o, .int .i64 p, .int .i64 q, .int .u64 v, .int .u64 xx, .int .u64 y, .int .i64 s] 34)).heap.size := by simp; omega
      generalize wr.alloc (.cells #[.int .i64 o, .int .i64 p, .int .i64 q, .int .u64 v, .int .u64 xx, .int .u64 y, .int .i64 s] 34) = x1 at BX Y1 Q1 hl1 ⊢
      obtain ⟨a0, a1, a2, a3, a4, a5, a6⟩ := BX.out.cells
      go_wp2_with fail
      refine (owes_any ⟨o, p, q, v, xx, y, s⟩ x x1 HUFJ.out).mono ?_
      rintro _ x2 ⟨rfl, z2⟩
      have Y2 := Lib.hid (Y1.out.trans (z2.mono (Nat.le_of_lt hl1)))
      have q2 : Boxed x2 _ _ _ := (z2.block _ hl1).trans Q1.out
      clear z2 a0 a1 a2 a3 a4 a5 a6 BX Y1 Q1 hl1
      generalize owesN ⟨o, p, q, v, xx, y, s⟩ x = bo at HCP ⊢
      go_wp2_with fail
      refine (count_any bo w5.heap.size kk x2 q2 hk9).mono ?_
      rintro _ x3 ⟨rfl, q3, k3⟩
      have Y3 := Lib.hid (kb_below Y2.out k3)
      have Q3 := Lib.hid (show Boxed x3 w5.heap.size 3 (.int .i64 ((0 + (if bt = true then 1 else 0) + (a.take (j + 1)).countP (fun f => owesN f x) : Nat) : Int)) by
        rw [HCP.out, ← Nat.add_assoc, HKK.out]; exact q3)
      clear k3 q3 q2 Y2
      go_wp2
      go_roundw
      case rel => exact ⟨j + 1, by go_num, by omega, Y3, Q3⟩
      case measure => simp [intOf]; omega
    · have hje : j = na := by omega
      have hq := hQ.out
      rw [hje, ← HNA.out, List.take_length, Nat.zero_add] at hq
      have hk9 : ((if bt = true then 1 else 0) + a.countP (fun f => owesN f x) : Nat) ≤ 1000 := by
        have h1 := List.countP_le_length (p := fun f => owesN f x) (l := a)
        have h2 : (if bt = true then 1 else 0) ≤ 1 := by split <;> omega
        have h3 := HNA.out
        omega
      have HQ := Lib.hid hq
      generalize hkk : ((if bt = true then 1 else 0) + a.countP (fun f => owesN f x) : Nat) = kk at HQ hst hk9
      have d1 : decide ((j : Int) < (na : Int)) = false := decide_eq_false (by omega)
      clear hq hkk hQ hj hlt
      go_wp2_with fail
      refine (load_any Am nm cm m P wr (HR.out.below hY.out) HNM.out hl5).mono ?_
      rintro _ x1 ⟨rfl, z1⟩
      have hl1 := HQ.out.lt
      have Y1 := Lib.hid (hY.out.trans (z1.mono (Nat.le_of_lt hl1)))
      have q1 : Boxed x1 _ _ _ := (z1.block _ hl1).trans HQ.out
      have eb : (at0 m P != 0) = !decide (at0 m P = 0) := by
        by_cases c : at0 m P = 0 <;> simp [c]
      clear z1 hY HQ
      generalize hE : decide (at0 m P = 0) = E at eb
      have eb2 : (if at0 m P = 0 then 0 else 1 : Nat) = if (!E) = true then 1 else 0 := by
        by_cases c : at0 m P = 0
        · rw [decide_eq_true c] at hE; subst hE; simp [c]
        · rw [decide_eq_false c] at hE; subst hE; simp [c]
      rw [eb2] at hst
      clear hE eb2
      go_wp2_with fail
      refine (count_any (!E) w5.heap.size kk x1 q1 hk9).mono ?_
      rintro _ x2 ⟨rfl, q2, k2⟩
      have Y2 := Lib.hid (kb_below Y1.out k2)
      generalize (kk + if (!E) = true then 1 else 0 : Nat) = T at q2 hst
      have qc := q2.cell
      have HS2 := Lib.hid hst.out
      clear k2 q1 Y1 eb hst q2
      go_wp2
      go_ret
      refine ⟨by rw [HS2.out]; rfl, Z5.out.trans (Y2.out.mono Z5.out.size)⟩
set_option maxRecDepth 100000 in
/-- States, whatever the lists. -/
theorem states_any (A B : Option Addr) (nc cc nw cw : Nat) (x : Int) (vs : List Value) (calls : List (List Int)) (who : List Int) (w : World) (hA : Rv w A vs) (hL : Lr w.heap.size w vs calls) (hB : Ri w B who) (hnc : calls.length = nc) (hnw : who.length = nw) (hw5 : nw ≤ 504) (h5 : ∀ l ∈ calls, l.length ≤ 500) :
    Tells 12 #[.slice A nc cc, .slice B nw cw, .int .i64 x] w (.int .i64 (stE calls who x)) := by
  by_cases hm : ow nc 1 1 0 x 2 < 0
  · have e : stE calls who x = -1 := by unfold stE; rw [hnc, if_pos hm]
    rw [e]
    exact states_no A B nc cc nw cw x w hm
  · exact states_yes A B nc cc nw cw x vs calls who w hA hL hB hnc hnw hw5 h5 (by omega)
end Go.Proofs.Ytgemaeibmgkneaa
