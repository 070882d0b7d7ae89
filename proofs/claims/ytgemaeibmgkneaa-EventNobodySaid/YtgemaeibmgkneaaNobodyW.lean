/- EventNobody. -/
import Derived.Test.YtgemaeibmgkneaaEvS
namespace Go.Proofs.Ytgemaeibmgkneaa
open Go.RowKit Go.Deep Go.Shelf
/-- No row of vs lies in block k. -/
def Apt (vs : List Value) (k : Option Nat) : Prop := ∀ (A : Addr) (m c : Nat), Value.slice (some A) m c ∈ vs → 0 < m → some A.block ≠ k
set_option maxRecDepth 100000 in
theorem Lr.grown {w w' : World} {vs : List Value} {ls : List (List Int)} {k : Option Nat} (h : Lr w.heap.size w vs ls) (ha : Apt vs k) (hg : w.grownBy w' k) : Lr w'.heap.size w' vs ls := by
  refine ⟨h.len, fun i l hl => ?_⟩
  obtain ⟨A, c, h1, h2, h3⟩ := h.at_ i l hl
  refine ⟨A, c, h1, h2, fun hp => ?_⟩
  obtain ⟨b, off, rfl, hb, hc⟩ := h3 hp
  refine ⟨b, off, rfl, Nat.lt_of_lt_of_le hb hg.size, fun j x hx => (World.cell?_of_block (hg.block b hb (ha ⟨b, off, none⟩ _ _ (List.mem_of_getElem? h1) hp))).trans (hc j x hx)⟩
set_option maxRecDepth 100000 in
theorem Lr.snoc {n : Nat} {w : World} {vs : List Value} {ls : List (List Int)} (h : Lr n w vs ls) {A : Option Addr} {l : List Int} {m c : Nat} (hm : l.length = m) (hc : m ≤ c) (hp : Pn n w A l) : Lr n w (vs ++ [.slice A m c]) (ls ++ [l]) := by
  subst hm
  refine ⟨by simp [h.len], fun i k hk => ?_⟩
  by_cases e : i < ls.length
  · rw [List.getElem?_append_left e] at hk
    obtain ⟨B, d, h1, h2⟩ := h.at_ i k hk
    exact ⟨B, d, by rw [List.getElem?_append_left (by rw [h.len]; exact e)]; exact h1, h2⟩
  · have hi := (List.getElem?_eq_some_iff.1 hk).1
    simp only [List.length_append, List.length_singleton] at hi
    obtain rfl : i = ls.length := by omega
    rw [List.getElem?_append_right (Nat.le_refl _)] at hk
    simp at hk
    subst hk
    exact ⟨A, c, by rw [← h.len, List.getElem?_append_right (Nat.le_refl _)]; simp, hc, hp⟩
set_option maxRecDepth 100000 in
theorem one_slice (w : World) (A : Option Addr) (m c : Nat) : Rv (w.alloc (.cells #[.slice A m c] 23)) (some ⟨w.heap.size, 0, none⟩) [.slice A m c] := fun _ => by
  refine ⟨_, rfl, by simp, fun j v hv => ?_⟩
  cases j with
  | zero =>
    simp at hv; subst hv
    have := (Boxed.new w 23 (.slice A m c)).cell
    exact this
  | succ j => simp at hv
set_option maxRecDepth 100000 in
theorem OwI.kept {w w' : World} {base : Nat} {A : Option Addr} {n c : Nat} {l : List Int} (h : OwI w base A n c l) (hk : ∀ k, (Value.slice A n c).ownBlock = some k → w'.heap[k]? = w.heap[k]?) : OwI w' base A n c l := by
  refine ⟨h.1, ?_⟩
  rcases h.2 with h2 | ⟨g, cap, cur, hv, hbg, hg, hr⟩
  · exact .inl h2
  · exact .inr ⟨g, cap, cur, hv, hbg, (hk g (by rw [hv]; rfl)).trans hg, hr⟩
set_option maxRecDepth 100000 in
theorem OwI.below {w w' : World} {base : Nat} {A : Option Addr} {n c : Nat} {l : List Int} (h : OwI w base A n c l) (hb : Below w.heap.size w w') : OwI w' base A n c l :=
  h.kept fun k hk => hb.block k (World.ownsRow.lt h k hk).2
set_option maxRecDepth 100000 in
theorem owi_cap {w : World} {base : Nat} {A : Option Addr} {n c : Nat} {l : List Int} (h : OwI w base A n c l) : n ≤ c := by
  rcases h.2 with ⟨hv, hx⟩ | ⟨g, cap, cur, hv, _, _, hnc, _⟩
  · omega
  · injection hv with _ _ hc
    omega
set_option maxRecDepth 100000 in
theorem OwI.pn {w : World} {base : Nat} {A : Option Addr} {n c : Nat} {l : List Int} (h : OwI w base A n c l) : Pn w.heap.size w A l := fun hp => by
  rcases h.2 with ⟨hv, hx⟩ | ⟨g, cap, cur, hv, hb, hg, _⟩
  · have := h.len; omega
  · injection hv with hA _ _
    subst hA
    refine ⟨g, 0, rfl, (Array.getElem?_eq_some_iff.1 hg).1, fun j u hu => ?_⟩
    have := World.ownsRow.cells h (g := g) rfl j (.int .i64 u) (by simp [hu])
    rwa [add_zero', ← Nat.zero_add j] at this
/-- The calls of a list that wait, or those that do not. -/
def flE (b : Bool) (l : List Int) : List Int := l.filter fun o => (o == 5) == b
set_option maxRecDepth 100000 in
theorem flE_take {b : Bool} {l : List Int} {j : Nat} (h : j < l.length) : flE b (l.take (j + 1)) = flE b (l.take j) ++ (if ((l[j] == 5) == b) = true then [l[j]] else []) := by
  unfold flE
  rw [List.take_succ_eq_append_getElem h, List.filter_append]
  congr 1
  rw [List.filter_cons, List.filter_nil]
set_option maxRecDepth 100000 in
theorem flE_len (b : Bool) (l : List Int) : (flE b l).length ≤ l.length := List.length_filter_le _ _
set_option maxRecDepth 100000 in
/-- If nobody waits, or nobody wakes. -/
theorem nob_E (calls : List (List Int)) (who : List Int) (hw : who.length ≤ 500) (b : Bool) : (b = true → (plE (calls.map (flE b)) who).2.2 = []) ∧ (b = false → ∀ f ∈ (plE (calls.map (flE b)) who).2.2, f.res = 3) := by
  cases hm : may (calls.map (flE b)).length 1 1 0
  · rw [plE_no hm]
    exact ⟨fun _ => rfl, fun _ f hf => by simp at hf⟩
  · obtain ⟨h1, h8⟩ := may11 hm
    rw [plE_yes hm]
    refine ⟨fun e => ?_, fun e => ?_⟩
    · subst e
      exact nobody_wakes h1 h8 (fun l hl u hu _ => by
        obtain ⟨l0, _, rfl⟩ := List.mem_map.1 hl
        unfold flE at hu
        have := (List.mem_filter.1 hu).2
        simpa using this) who hw
    · subst e
      exact fun f hf => (nobody_waits h1 h8 (fun l hl u hu _ => by
        obtain ⟨l0, _, rfl⟩ := List.mem_map.1 hl
        unfold flE at hu
        have := (List.mem_filter.1 hu).2
        simpa using this) who hw f hf).2
set_option maxHeartbeats 4000000 in
set_option maxRecDepth 100000 in
theorem nobody_any (A B : Option Addr) (nc cc nw cw : Nat) (wt : Bool) (calls : List (List Int)) (who : List Int) (w : World) (hA : Rl w A calls) (hB : Ri w B who) (hnc : calls.length = nc) (hnw : who.length = nw) :
    Tells 7 #[.slice A nc cc, .slice B nw cw, .bool wt] w (.bool true) := by
  have HA := Lib.hid hA
  have HB := Lib.hid hB
  have HNC := Lib.hid hnc
  have HNW := Lib.hid hnw
  clear hA hB hnc hnw
  go_enter Try.func7, Try.ntmps7
  go_wp2_with fail
  refine (awake_any w).mono ?_
  rintro _ w1 ⟨rfl, z1⟩
  have HA1 := Lib.hid (HA.out.below z1)
  have HB1 := Lib.hid (HB.out.below z1)
  have Z1 := Lib.hid z1
  clear z1 HA HB
  go_wp2_with fail
  refine (few_any A nc cc calls w1 HA1.out HNC.out).mono ?_
  rintro _ w2 ⟨rfl, z2⟩
  have HA2 := Lib.hid (HA1.out.below z2)
  have HB2 := Lib.hid (HB1.out.below z2)
  have Z2 := Lib.hid (Z1.out.trans (z2.mono Z1.out.size))
  clear z2 HA1 HB1 Z1
  cases hf : fewE calls
  · clear hf
    go_wp2
    go_ret
    exact ⟨rfl, Z2.out⟩
  obtain ⟨h10, h30⟩ := fewE_of hf
  rw [HNC.out] at h10
  have H30 := Lib.hid (show ∀ l ∈ calls, l.length ≤ 500 from fun l hl => Nat.le_trans (h30 l hl) (by omega))
  have H31 := Lib.hid h30
  clear hf h30
  by_cases hn : 500 < nw
  · have d1 : decide ((nw : Int) > 500) = true := decide_eq_true (by omega)
    clear hn
    go_wp2
    go_ret
    exact ⟨rfl, Z2.out⟩
  have d1 : decide ((nw : Int) > 500) = false := decide_eq_false (by omega)
  cases wt
  · go_wp2
    go_loopw [9, 10] (fun q x wr => ∃ (i : Nat) (Q : Option Addr) (d : Nat) (vs : List Value), q = .slice Q i d ∧ x = .int .i64 i ∧ i ≤ nc ∧ Hid (Os wr w2.heap.size Q i d vs) ∧ Hid (Lr wr.heap.size wr vs ((calls.map (flE false)).take i)) ∧ Hid (Apt vs (Value.slice Q i d).ownBlock) ∧ Hid (Below w2.heap.size w2 wr)) (fun _ x _ => nc - (intOf x).toNat)
    case atStart => exact ⟨0, none, 0, [], rfl, rfl, Nat.zero_le _, Lib.hid (Os.nil _ _), Lib.hid ⟨rfl, fun i l hl => by simp at hl⟩, Lib.hid (fun _ _ _ h _ => by simp at h), Lib.hid (Below.refl _ _)⟩
    case round =>
      obtain ⟨wo, hwo⟩ : ∃ wo, wo = wr := ⟨_, rfl⟩
      subst hwo
      obtain ⟨i, Q, d, vs, rfl, rfl, hi, HO, HL, HA, HZ⟩ := hrel
      by_cases hlt : i < nc
      · have hL : i < calls.length := by rw [HNC.out]; exact hlt
        have d2 : decide ((i : Int) < (nc : Int)) = true := decide_eq_true (by omega)
        obtain ⟨ad, B0, cB, rfl, hal, hx, _, hb⟩ := (HA2.out.below HZ.out).at hL
        have HBX := Lib.hid (show ∀ w' : World, Below wo.heap.size wo w' → w'.cell? (ad.add i) = some (.slice B0 calls[i].length cB) from fun w' z => (z.cell (p := ad.add i) (by rw [block_add]; exact hal)).trans hx)
        have HRB := Lib.hid (show ∀ w' : World, Below wo.heap.size wo w' → Pn wo.heap.size w' B0 calls[i] from fun w' z => hb.below z)
        have h30 := H31.out _ (List.getElem_mem hL)
        have hct : (calls.map (flE false)).take (i + 1) = (calls.map (flE false)).take i ++ [flE false calls[i]] := by
          rw [List.take_succ_eq_append_getElem (by simpa using hL)]
          simp
        generalize calls[i] = l at hx hct h30 HBX HRB
        obtain ⟨m, hm⟩ : ∃ m, l.length = m := ⟨_, rfl⟩
        rw [hm] at hx h30 HBX
        have HM := Lib.hid hm
        have HCT := Lib.hid hct
        clear hb hm hct
        go_wp2
        go_loopw [11, 12] (fun q x wr => ∃ (j e0 : Nat) (R : Option Addr) (e : Nat), q = .slice R e0 e ∧ x = .int .i64 j ∧ j ≤ m ∧ Hid (e0 = (flE false (l.take j)).length) ∧ Hid (OwI wr wo.heap.size R e0 e (flE false (l.take j))) ∧ Hid (Below wo.heap.size wo wr)) (fun _ x _ => m - (intOf x).toNat)
        case atStart => exact ⟨0, 0, none, 0, rfl, rfl, Nat.zero_le _, Lib.hid rfl, Lib.hid (OwI.nil _ _), Lib.hid (Below.refl _ _)⟩
        case round =>
          clear hx
          obtain ⟨j, e0, R, e, rfl, rfl, hj, hl0, HR, HW⟩ := hrel
          have hx := HBX.out _ HW.out
          by_cases hlt2 : j < m
          · have hL2 : j < l.length := by rw [HM.out]; exact hlt2
            have d3 : decide ((j : Int) < (m : Int)) = true := decide_eq_true (by omega)
            obtain ⟨b1, off, rfl, hbl, hbc⟩ := HRB.out _ HW.out (by omega)
            have hy := hbc j _ (List.getElem?_eq_getElem hL2)
            have hft := flE_take (b := false) hL2
            have h31 : e0 ≤ 30 := by have := flE_len false (l.take j); have := hl0.out; simp at *; omega
            clear hbc
            generalize l[j] = o at hy hft
            by_cases h5 : o = 5
            · subst h5
              have hft := hft
              rw [show (((5 : Int) == 5) == false) = false from rfl] at hft
              rw [if_neg (by simp)] at hft
              have hl3 := Lib.hid (show e0 = (flE false (l.take (j + 1))).length by rw [hft]; simpa using hl0.out)
              have HR' := Lib.hid (show OwI wr wo.heap.size R e0 e (flE false (l.take (j + 1))) by rw [hft]; simpa using HR.out)
              clear hft HR
              go_wp2
              go_roundw
              case rel => exact ⟨j + 1, e0, R, e, rfl, by go_num, by omega, hl3, HR', HW⟩
              case measure => simp [intOf]; omega
            · have e5 : (o == 5) = false := by simpa using h5
              rw [e5, show ((false : Bool) == false) = true from rfl] at hft
              rw [if_pos rfl] at hft
              clear h5
              obtain ⟨R', e', w', hrun, hown, hbel⟩ := app_ints (HR.out.below (bel_alloc wr (.cells #[.int .i64 o] 3))) (m := 1) 1 (ri_new wr [o]) rfl (by have := HR.out.len; have := flE_len false (l.take j); simp at this; omega) (Nat.le_trans HW.out.size (by simp))
              rw [← hft] at hown
              have RUN := Lib.hid hrun
              have HR' := Lib.hid hown
              have HW' := Lib.hid ((HW.out.alloc HW.out.size (.cells #[.int .i64 o] 3)).trans hbel)
              have hl3 := Lib.hid (show e0 + 1 = (flE false (l.take (j + 1))).length by rw [hft]; simp; exact hl0.out)
              clear hrun hown hbel hft HR HW
              go_wp2_with (at_builtin; (with_reducible refine wpList_append_fr RUN.out ?_ ?_ ?_ ?_); exact ⟨_, _, rfl, rfl, rfl⟩; rfl; rfl)
              go_roundw
              case rel => exact ⟨j + 1, e0 + 1, R', e', rfl, by go_num, by omega, hl3, HR', HW'⟩
              case measure => simp [intOf]; omega
          · have d3 : decide ((j : Int) < (m : Int)) = false := decide_eq_false (by omega)
            have ej : l.take j = l := by rw [List.take_of_length_le (by rw [HM.out]; omega)]
            have hr := HR.out
            have hl1 := hl0.out
            rw [ej] at hr hl1
            have hb1 : Below wr.heap.size wr (wr.alloc (.cells #[.slice R e0 e] 23)) := bel_alloc _ _
            have HO2 := HO.out.below HW.out
            have hsl : Sli [Value.slice R e0 e] := fun v hv => by simp at hv; subst hv; rfl
            obtain ⟨Q', d', w', hrun, hown, hgr, hbel, hblk⟩ := app_sls (HO2.below hb1) 1 (one_slice wr R e0 e) hsl (m := 1) rfl (by omega) (by have := HZ.out.size; have := HW.out.size; simp; omega)
            have RUN := Lib.hid hrun
            have hls := ((HL.out.later HW.out).later hb1).snoc hl1.symm (owi_cap hr) (hr.below hb1).pn
            rw [← HCT.out] at hls
            have hap : Apt (vs ++ [Value.slice R e0 e]) (Value.slice Q i d).ownBlock := fun A m c hm hp => by
              rcases List.mem_append.1 hm with hm | hm
              · exact HA.out A m c hm hp
              · simp at hm
                obtain ⟨h1, h2, h3⟩ := hm
                intro e2
                have hq := (World.ownsRow.lt HO.out _ e2.symm).2
                have hr2 := (World.ownsRow.lt hr A.block (by rw [← h1]; rfl)).1
                omega
            have HLn := Lib.hid (hls.grown hap hgr)
            have HAn := Lib.hid (show Apt (vs ++ [Value.slice R e0 e]) (Value.slice Q' (i + 1) d').ownBlock from fun A m c hm hp => by
              rcases hblk with e3 | e3
              · rw [e3]; exact hap A m c hm hp
              · rw [e3]
                obtain ⟨k, hk1, hk2⟩ := List.mem_iff_getElem.1 hm
                have hk3 : k < ((calls.map (flE false)).take (i + 1)).length := by rw [← hls.len]; exact hk1
                obtain ⟨A1, c1, k1, k2, k3⟩ := hls.at_ k _ (List.getElem?_eq_getElem hk3)
                rw [List.getElem?_eq_getElem hk1, hk2] at k1
                injection k1 with k1
                injection k1 with k1 k4 k5
                obtain ⟨b, off, k6, k7, _⟩ := k3 (by omega)
                rw [← k1] at k6
                cases k6
                intro e4
                injection e4 with e4
                simp only at e4
                omega)
            have HOn := Lib.hid hown
            have HZn := Lib.hid (HZ.out.trans ((HW.out.mono HZ.out.size).trans ((hb1.mono (by have := HZ.out.size; have := HW.out.size; omega)).trans hbel)))
            clear hrun hown hgr hbel hblk hls hap hr ej hl0 hl1 HO2 hsl HR HO HL HA HZ
            go_wp2_with (at_builtin; (with_reducible refine wpList_append_fr RUN.out ?_ ?_ ?_ ?_); exact ⟨_, _, rfl, rfl, rfl⟩; rfl; rfl)
            go_roundw
            case rel => exact ⟨i + 1, Q', d', _, rfl, by go_num, by omega, HOn, HLn, HAn, HZn⟩
            case measure => simp [intOf]; omega
      · have d2 : decide ((i : Int) < (nc : Int)) = false := decide_eq_false (by omega)
        have ei : (calls.map (flE false)).take i = calls.map (flE false) := by rw [List.take_of_length_le (by simp [HNC.out]; omega)]
        rw [ei] at HL
        obtain rfl : i = nc := by omega
        have HLN := Lib.hid (show (calls.map (flE false)).length = i by simpa using HNC.out)
        have H50 := Lib.hid (show ∀ l ∈ calls.map (flE false), l.length ≤ 500 from fun l hl => by
          obtain ⟨l0, h0, rfl⟩ := List.mem_map.1 hl
          exact Nat.le_trans (flE_len _ _) (H30.out l0 h0))
        have HRL := Lib.hid (show Rl wo Q (calls.map (flE false)) from ⟨vs, HO.out.rv, HL.out⟩)
        have HB9 := Lib.hid (HB2.out.below HZ.out)
        have Z9 := Lib.hid (Z2.out.trans (HZ.out.mono Z2.out.size))
        clear ei HO HL HA HZ
        go_wp2_with fail
        obtain ⟨⟨m, a, over⟩, hpl⟩ : ∃ s, plE (calls.map (flE false)) who = s := ⟨_, rfl⟩
        refine (play_n HRL.out HB9.out HLN.out HNW.out (by omega) H50.out hpl).mono ?_
        rintro _ w3 ⟨Am, cm, Ao, co, Aa, ca, rfl, rm, ro, hco, ra, hca, z3⟩
        have Z3 := Lib.hid (Z9.out.trans (z3.mono Z9.out.size))
        have RO := Lib.hid ro
        have hnb := nob_E calls who (by rw [HNW.out]; omega) false
        rw [hpl] at hnb
        have HPL := Lib.hid hpl
        clear rm ra hco hca z3 hpl HRL HB9 Z9
        have HRS := Lib.hid (hnb.2 rfl)
        obtain ⟨no, hno⟩ : ∃ no, over.length = no := ⟨_, rfl⟩
        have HNO := Lib.hid hno
        have hn5 : no ≤ 500 := by
          have h1 := (plE_len (calls.map (flE false)) who H50.out).2.2.2
          rw [HPL.out, HNW.out] at h1
          simp only at h1
          omega
        rw [hno]
        clear hnb hno
        go_wp2
        go_loopw [16] (fun x wr => ∃ j : Nat, x = .int .i64 j ∧ j ≤ no ∧ wr = w3) (fun x _ => no - (intOf x).toNat)
        case atStart => exact ⟨0, rfl, Nat.zero_le _, rfl⟩
        case round =>
          obtain ⟨j, rfl, hj, rfl⟩ := hrel
          by_cases hlt : j < no
          · have hL : j < over.length := by rw [HNO.out]; exact hlt
            obtain ⟨b, off, rfl, hb, hC⟩ := RO.out.at hL
            have x6 := hC.c6
            rw [HRS.out _ (List.getElem_mem hL)] at x6
            have d2 : decide ((j : Int) < (no : Int)) = true := decide_eq_true (by omega)
            clear hC
            go_wp2
            go_roundw
            case rel => exact ⟨j + 1, by go_num, by omega, by first | rfl | trivial⟩
            case measure => simp [intOf]; omega
          · have d2 : decide ((j : Int) < (no : Int)) = false := decide_eq_false (by omega)
            go_wp2
            go_ret
            exact ⟨rfl, Z3.out⟩
  · go_wp2
    go_loopw [9, 10] (fun q x wr => ∃ (i : Nat) (Q : Option Addr) (d : Nat) (vs : List Value), q = .slice Q i d ∧ x = .int .i64 i ∧ i ≤ nc ∧ Hid (Os wr w2.heap.size Q i d vs) ∧ Hid (Lr wr.heap.size wr vs ((calls.map (flE true)).take i)) ∧ Hid (Apt vs (Value.slice Q i d).ownBlock) ∧ Hid (Below w2.heap.size w2 wr)) (fun _ x _ => nc - (intOf x).toNat)
    case atStart => exact ⟨0, none, 0, [], rfl, rfl, Nat.zero_le _, Lib.hid (Os.nil _ _), Lib.hid ⟨rfl, fun i l hl => by simp at hl⟩, Lib.hid (fun _ _ _ h _ => by simp at h), Lib.hid (Below.refl _ _)⟩
    case round =>
      obtain ⟨wo, hwo⟩ : ∃ wo, wo = wr := ⟨_, rfl⟩
      subst hwo
      obtain ⟨i, Q, d, vs, rfl, rfl, hi, HO, HL, HA, HZ⟩ := hrel
      by_cases hlt : i < nc
      · have hL : i < calls.length := by rw [HNC.out]; exact hlt
        have d2 : decide ((i : Int) < (nc : Int)) = true := decide_eq_true (by omega)
        obtain ⟨ad, B0, cB, rfl, hal, hx, _, hb⟩ := (HA2.out.below HZ.out).at hL
        have HBX := Lib.hid (show ∀ w' : World, Below wo.heap.size wo w' → w'.cell? (ad.add i) = some (.slice B0 calls[i].length cB) from fun w' z => (z.cell (p := ad.add i) (by rw [block_add]; exact hal)).trans hx)
        have HRB := Lib.hid (show ∀ w' : World, Below wo.heap.size wo w' → Pn wo.heap.size w' B0 calls[i] from fun w' z => hb.below z)
        have h30 := H31.out _ (List.getElem_mem hL)
        have hct : (calls.map (flE true)).take (i + 1) = (calls.map (flE true)).take i ++ [flE true calls[i]] := by
          rw [List.take_succ_eq_append_getElem (by simpa using hL)]
          simp
        generalize calls[i] = l at hx hct h30 HBX HRB
        obtain ⟨m, hm⟩ : ∃ m, l.length = m := ⟨_, rfl⟩
        rw [hm] at hx h30 HBX
        have HM := Lib.hid hm
        have HCT := Lib.hid hct
        clear hb hm hct
        go_wp2
        go_loopw [11, 12] (fun q x wr => ∃ (j e0 : Nat) (R : Option Addr) (e : Nat), q = .slice R e0 e ∧ x = .int .i64 j ∧ j ≤ m ∧ Hid (e0 = (flE true (l.take j)).length) ∧ Hid (OwI wr wo.heap.size R e0 e (flE true (l.take j))) ∧ Hid (Below wo.heap.size wo wr)) (fun _ x _ => m - (intOf x).toNat)
        case atStart => exact ⟨0, 0, none, 0, rfl, rfl, Nat.zero_le _, Lib.hid rfl, Lib.hid (OwI.nil _ _), Lib.hid (Below.refl _ _)⟩
        case round =>
          clear hx
          obtain ⟨j, e0, R, e, rfl, rfl, hj, hl0, HR, HW⟩ := hrel
          have hx := HBX.out _ HW.out
          by_cases hlt2 : j < m
          · have hL2 : j < l.length := by rw [HM.out]; exact hlt2
            have d3 : decide ((j : Int) < (m : Int)) = true := decide_eq_true (by omega)
            obtain ⟨b1, off, rfl, hbl, hbc⟩ := HRB.out _ HW.out (by omega)
            have hy := hbc j _ (List.getElem?_eq_getElem hL2)
            have hft := flE_take (b := true) hL2
            have h31 : e0 ≤ 30 := by have := flE_len true (l.take j); have := hl0.out; simp at *; omega
            clear hbc
            generalize l[j] = o at hy hft
            by_cases h5 : o = 5
            · subst h5
              have hft := hft
              rw [show (((5 : Int) == 5) == true) = true from rfl] at hft
              rw [if_pos rfl] at hft
              obtain ⟨R', e', w', hrun, hown, hbel⟩ := app_ints (HR.out.below (bel_alloc wr (.cells #[.int .i64 5] 3))) (m := 1) 1 (ri_new wr [5]) rfl (by have := HR.out.len; have := flE_len true (l.take j); simp at this; omega) (Nat.le_trans HW.out.size (by simp))
              rw [← hft] at hown
              have RUN := Lib.hid hrun
              have HR' := Lib.hid hown
              have HW' := Lib.hid ((HW.out.alloc HW.out.size (.cells #[.int .i64 5] 3)).trans hbel)
              have hl3 := Lib.hid (show e0 + 1 = (flE true (l.take (j + 1))).length by rw [hft]; simp; exact hl0.out)
              clear hrun hown hbel hft HR HW
              go_wp2_with (at_builtin; (with_reducible refine wpList_append_fr RUN.out ?_ ?_ ?_ ?_); exact ⟨_, _, rfl, rfl, rfl⟩; rfl; rfl)
              go_roundw
              case rel => exact ⟨j + 1, e0 + 1, R', e', rfl, by go_num, by omega, hl3, HR', HW'⟩
              case measure => simp [intOf]; omega
            · have e5 : (o == 5) = false := by simpa using h5
              rw [e5, show ((false : Bool) == true) = false from rfl] at hft
              rw [if_neg (by simp)] at hft
              clear h5
              have hl3 := Lib.hid (show e0 = (flE true (l.take (j + 1))).length by rw [hft]; simpa using hl0.out)
              have HR' := Lib.hid (show OwI wr wo.heap.size R e0 e (flE true (l.take (j + 1))) by rw [hft]; simpa using HR.out)
              clear hft HR
              go_wp2
              go_roundw
              case rel => exact ⟨j + 1, e0, R, e, rfl, by go_num, by omega, hl3, HR', HW⟩
              case measure => simp [intOf]; omega
          · have d3 : decide ((j : Int) < (m : Int)) = false := decide_eq_false (by omega)
            have ej : l.take j = l := by rw [List.take_of_length_le (by rw [HM.out]; omega)]
            have hr := HR.out
            have hl1 := hl0.out
            rw [ej] at hr hl1
            have hb1 : Below wr.heap.size wr (wr.alloc (.cells #[.slice R e0 e] 23)) := bel_alloc _ _
            have HO2 := HO.out.below HW.out
            have hsl : Sli [Value.slice R e0 e] := fun v hv => by simp at hv; subst hv; rfl
            obtain ⟨Q', d', w', hrun, hown, hgr, hbel, hblk⟩ := app_sls (HO2.below hb1) 1 (one_slice wr R e0 e) hsl (m := 1) rfl (by omega) (by have := HZ.out.size; have := HW.out.size; simp; omega)
            have RUN := Lib.hid hrun
            have hls := ((HL.out.later HW.out).later hb1).snoc hl1.symm (owi_cap hr) (hr.below hb1).pn
            rw [← HCT.out] at hls
            have hap : Apt (vs ++ [Value.slice R e0 e]) (Value.slice Q i d).ownBlock := fun A m c hm hp => by
              rcases List.mem_append.1 hm with hm | hm
              · exact HA.out A m c hm hp
              · simp at hm
                obtain ⟨h1, h2, h3⟩ := hm
                intro e2
                have hq := (World.ownsRow.lt HO.out _ e2.symm).2
                have hr2 := (World.ownsRow.lt hr A.block (by rw [← h1]; rfl)).1
                omega
            have HLn := Lib.hid (hls.grown hap hgr)
            have HAn := Lib.hid (show Apt (vs ++ [Value.slice R e0 e]) (Value.slice Q' (i + 1) d').ownBlock from fun A m c hm hp => by
              rcases hblk with e3 | e3
              · rw [e3]; exact hap A m c hm hp
              · rw [e3]
                obtain ⟨k, hk1, hk2⟩ := List.mem_iff_getElem.1 hm
                have hk3 : k < ((calls.map (flE true)).take (i + 1)).length := by rw [← hls.len]; exact hk1
                obtain ⟨A1, c1, k1, k2, k3⟩ := hls.at_ k _ (List.getElem?_eq_getElem hk3)
                rw [List.getElem?_eq_getElem hk1, hk2] at k1
                injection k1 with k1
                injection k1 with k1 k4 k5
                obtain ⟨b, off, k6, k7, _⟩ := k3 (by omega)
                rw [← k1] at k6
                cases k6
                intro e4
                injection e4 with e4
                simp only at e4
                omega)
            have HOn := Lib.hid hown
            have HZn := Lib.hid (HZ.out.trans ((HW.out.mono HZ.out.size).trans ((hb1.mono (by have := HZ.out.size; have := HW.out.size; omega)).trans hbel)))
            clear hrun hown hgr hbel hblk hls hap hr ej hl0 hl1 HO2 hsl HR HO HL HA HZ
            go_wp2_with (at_builtin; (with_reducible refine wpList_append_fr RUN.out ?_ ?_ ?_ ?_); exact ⟨_, _, rfl, rfl, rfl⟩; rfl; rfl)
            go_roundw
            case rel => exact ⟨i + 1, Q', d', _, rfl, by go_num, by omega, HOn, HLn, HAn, HZn⟩
            case measure => simp [intOf]; omega
      · have d2 : decide ((i : Int) < (nc : Int)) = false := decide_eq_false (by omega)
        have ei : (calls.map (flE true)).take i = calls.map (flE true) := by rw [List.take_of_length_le (by simp [HNC.out]; omega)]
        rw [ei] at HL
        obtain rfl : i = nc := by omega
        have HLN := Lib.hid (show (calls.map (flE true)).length = i by simpa using HNC.out)
        have H50 := Lib.hid (show ∀ l ∈ calls.map (flE true), l.length ≤ 500 from fun l hl => by
          obtain ⟨l0, h0, rfl⟩ := List.mem_map.1 hl
          exact Nat.le_trans (flE_len _ _) (H30.out l0 h0))
        have HRL := Lib.hid (show Rl wo Q (calls.map (flE true)) from ⟨vs, HO.out.rv, HL.out⟩)
        have HB9 := Lib.hid (HB2.out.below HZ.out)
        have Z9 := Lib.hid (Z2.out.trans (HZ.out.mono Z2.out.size))
        clear ei HO HL HA HZ
        go_wp2_with fail
        obtain ⟨⟨m, a, over⟩, hpl⟩ : ∃ s, plE (calls.map (flE true)) who = s := ⟨_, rfl⟩
        refine (play_n HRL.out HB9.out HLN.out HNW.out (by omega) H50.out hpl).mono ?_
        rintro _ w3 ⟨Am, cm, Ao, co, Aa, ca, rfl, rm, ro, hco, ra, hca, z3⟩
        have Z3 := Lib.hid (Z9.out.trans (z3.mono Z9.out.size))
        have RO := Lib.hid ro
        have hnb := nob_E calls who (by rw [HNW.out]; omega) true
        rw [hpl] at hnb
        have HPL := Lib.hid hpl
        clear rm ra hco hca z3 hpl HRL HB9 Z9
        have e0 : over = [] := hnb.1 rfl
        subst e0
        clear hnb
        simp only [List.length_nil]
        go_wp2
        go_loopw [16] (fun x wr => x = .int .i64 0 ∧ wr = w3) (fun _ _ => 0)
        case atStart => exact ⟨rfl, rfl⟩
        case round =>
          obtain ⟨rfl, rfl⟩ := hrel
          go_wp2
          go_ret
          exact ⟨rfl, Z3.out⟩
end Go.Proofs.Ytgemaeibmgkneaa
