/- Merged: IkX, IkC, IkA, IkL2, IkL3. -/
import Derived.Test.YtppllanmgdhabaaIkQ
import Derived.Test.YtppllanmgdhabaaIkH
import Derived.Test.YtppllanmgdhabaaIjX
import Derived.Test.YtppllanmgdhabaaIkS
namespace Go.Proofs.Ytppllanmgdhabaa
open Go.RowKit Go.Deep Go.Shelf
/-- What a play comes to: the cells, the calls at hand, the calls that are over. -/
def plI (J : Int) (calls : List (List Fr)) (who : List Int) : List Int × List Fr × List Fr := if may 1 1 J 0 = true ∧ calls.length ≤ 8 then ((playI J calls who).m, (playI J calls who).a, (playI J calls who).over) else ([], [], [])
theorem ret_none {w w' : World} (h : Below w.heap.size w w') : RetPl w [] [] [] (.returned (.tuple #[.slice none 0 0, .slice none 0 0, .slice none 0 0])) w' :=
  ⟨none, 0, none, 0, none, 0, rfl, Rd.nil _ _, Pr.nil _ _ _, Nat.le_refl _, Pr.nil _ _ _, h⟩
set_option maxRecDepth 100000 in
set_option maxHeartbeats 2000000 in
theorem play_no1 (J : Int) (A B : Option Addr) (nc cc nw cw : Nat) (w : World) (hm : may 1 1 J 0 = false) :
    Calls Try.prog 14 #[.int .i64 J, .slice A nc cc, .slice B nw cw] w (RetPl w [] [] []) := by
  have HM := Lib.hid hm
  clear hm
  go_enter Try.func14, Try.ntmps14
  go_wp2_with fail
  refine (layout_any J _).mono ?_
  rintro _ w1 ⟨rfl, z1⟩
  have bx := Bx.mk w1 1 1 J 0 23
  have hw1 := z1.size
  have Z1 := Lib.hid (z1.alloc hw1 (.cells #[.int .i64 1, .int .i64 1, .int .i64 J, .int .i64 0] 23))
  clear z1
  go_wp2_with fail
  refine (Tells.of (may_any 1 1 J 0 _) (v' := .bool false) (by rw [HM.out])).mono ?_
  rintro _ w2 ⟨rfl, z2⟩
  have Z2 := Lib.hid (Z1.out.trans (z2.mono Z1.out.size))
  clear bx z2 Z1
  go_wp2
  refine bodyPost_ret (v := .tuple #[.slice none 0 0, .slice none 0 0, .slice none 0 0]) (by simp [results, Try.results14, go_sem]; try rfl) rfl ?_
  exact ret_none Z2.out
set_option maxRecDepth 100000 in
set_option maxHeartbeats 2000000 in
theorem play_no2 (J : Int) (A B : Option Addr) (nc cc nw cw : Nat) (w : World) (hm : may 1 1 J 0 = true) (h8 : 8 < nc) :
    Calls Try.prog 14 #[.int .i64 J, .slice A nc cc, .slice B nw cw] w (RetPl w [] [] []) := by
  have HM := Lib.hid hm
  have t1 : decide ((nc : Int) > 8) = true := decide_eq_true (by omega)
  clear hm h8
  go_enter Try.func14, Try.ntmps14
  go_wp2_with fail
  refine (layout_any J _).mono ?_
  rintro _ w1 ⟨rfl, z1⟩
  have bx := Bx.mk w1 1 1 J 0 23
  have hw1 := z1.size
  have Z1 := Lib.hid (z1.alloc hw1 (.cells #[.int .i64 1, .int .i64 1, .int .i64 J, .int .i64 0] 23))
  clear z1
  go_wp2_with fail
  refine (Tells.of (may_any 1 1 J 0 _) (v' := .bool true) (by rw [HM.out])).mono ?_
  rintro _ w2 ⟨rfl, z2⟩
  have Z2 := Lib.hid (Z1.out.trans (z2.mono Z1.out.size))
  clear bx z2 Z1
  go_wp2
  refine bodyPost_ret (v := .tuple #[.slice none 0 0, .slice none 0 0, .slice none 0 0]) (by simp [results, Try.results14, go_sem]; try rfl) rfl ?_
  exact ret_none Z2.out
/-- Play, whatever the layout and however many lists. -/
theorem play_any (J : Int) (A B : Option Addr) (nc cc nw cw : Nat) (vs : List Value) (calls : List (List Fr)) (who : List Int) (w : World) (hA : Rv w A vs) (hL : Ls w.heap.size w vs calls) (hB : Ri w B who) (hnc : calls.length = nc) (hnw : who.length = nw) (hw5 : nw ≤ 504) (hu : ∀ l ∈ calls, ∀ f ∈ l, UF f) (h5 : ∀ l ∈ calls, l.length ≤ 500) :
    Calls Try.prog 14 #[.int .i64 J, .slice A nc cc, .slice B nw cw] w (RetPl w (plI J calls who).1 (plI J calls who).2.1 (plI J calls who).2.2) := by
  unfold plI
  cases hm : may 1 1 J 0
  · rw [if_neg (by simp)]
    exact play_no1 J A B nc cc nw cw w hm
  · by_cases h8 : calls.length ≤ 8
    · rw [if_pos ⟨rfl, h8⟩]
      rcases Nat.eq_zero_or_pos nc with h0 | h0
      · exact callsIn_wide.1 (play_in0 0 J A B nc cc nw cw vs calls who w hA hL hB hnc hnw hw5 (by omega) h0 hm hu h5)
      · exact callsIn_wide.1 (play_in1 0 J A B nc cc nw cw vs calls who w hA hL hB hnc hnw hw5 (by omega) h0 hm hu h5)
    · rw [if_neg (fun h => h8 h.2)]
      exact play_no2 J A B nc cc nw cw w hm (by omega)
end Go.Proofs.Ytppllanmgdhabaa
namespace Go.Proofs.Ytppllanmgdhabaa
open Go.RowKit Go.Deep
/-- The slice at A reads as the truth values l. -/
def Rb (w : World) (A : Option Addr) (l : List Bool) : Prop :=
  0 < l.length → ∃ ad, A = some ad ∧ ad.block < w.heap.size ∧ ∀ j u, l[j]? = some u → w.cell? (ad.add j) = some (.bool u)
theorem Rb.below {w w' : World} {A : Option Addr} {l : List Bool} (h : Rb w A l) (hb : Below w.heap.size w w') : Rb w' A l := fun hp => by
  obtain ⟨ad, e, hlt, hc⟩ := h hp
  exact ⟨ad, e, Nat.lt_of_lt_of_le hlt hb.size, fun j u hu => (hb.cell (p := ad.add j) (by rw [block_add]; exact hlt)).trans (hc j u hu)⟩
/-- The slice at A reads as the lists of truth values. -/
def Rg (w : World) (A : Option Addr) (ls : List (List Bool)) : Prop :=
  0 < ls.length → ∃ ad, A = some ad ∧ ad.block < w.heap.size ∧ ∀ (j : Nat) (l : List Bool), ls[j]? = some l → ∃ (B : Option Addr) (c : Nat), w.cell? (ad.add j) = some (.slice B l.length c) ∧ Rb w B l
theorem Rg.below {w w' : World} {A : Option Addr} {ls : List (List Bool)} (h : Rg w A ls) (hb : Below w.heap.size w w') : Rg w' A ls := fun hp => by
  obtain ⟨ad, e, hlt, hc⟩ := h hp
  refine ⟨ad, e, Nat.lt_of_lt_of_le hlt hb.size, fun j l hl => ?_⟩
  obtain ⟨B, c, h1, h2⟩ := hc j l hl
  exact ⟨B, c, (hb.cell (p := ad.add j) (by rw [block_add]; exact hlt)).trans h1, h2.below hb⟩
/-- Are there at most 8 lists of at most 30 bits each? -/
def fewB (ls : List (List Bool)) : Bool := (ls.take 9).all (fun l => decide (l.length ≤ 30)) && decide (ls.length ≤ 8)
theorem fewB_of {ls : List (List Bool)} (h : fewB ls = true) : ls.length ≤ 8 ∧ ∀ l ∈ ls, l.length ≤ 30 := by
  unfold fewB at h
  simp only [Bool.and_eq_true, decide_eq_true_eq, List.all_eq_true] at h
  refine ⟨h.2, fun l hl => h.1 l ?_⟩
  rw [List.take_of_length_le (by omega)]; exact hl
set_option maxRecDepth 100000 in
set_option maxHeartbeats 1000000 in
theorem fewbits_any (A : Option Addr) (n c : Nat) (ls : List (List Bool)) (w : World) (h : Rg w A ls) (hn : ls.length = n) :
    Tells 20 #[.slice A n c] w (.bool (fewB ls)) := by
  have H := Lib.hid h
  have HN := Lib.hid hn
  clear h hn
  go_enter Try.func20, Try.ntmps20
  go_wp2
  go_loopw [3] (fun x wr => ∃ j : Nat, x = .int .i64 j ∧ j ≤ n ∧ j ≤ 9 ∧ Hid ((ls.take j).all (fun l => decide (l.length ≤ 30)) = true) ∧ Hid (Below w.heap.size w wr)) (fun x _ => n - (intOf x).toNat)
  case atStart => exact ⟨0, rfl, by omega, by omega, Lib.hid (by simp), Lib.hid (Below.refl _ _)⟩
  case round =>
    obtain ⟨j, rfl, hj, hj9, hX, hZ⟩ := hrel
    by_cases hlt : j < n ∧ j ≤ 8
    · obtain ⟨h1, h2⟩ := hlt
      have d1 : decide ((j : Int) < (n : Int)) = true := decide_eq_true (by omega)
      have d2 : decide ((j : Int) ≤ 8) = true := decide_eq_true (by omega)
      have hL : j < ls.length := by rw [HN.out]; exact h1
      obtain ⟨ad, rfl, hal, hac⟩ := (H.out.below hZ.out) (by omega)
      obtain ⟨B, cB, hx, _⟩ := hac j _ (List.getElem?_eq_getElem hL)
      obtain ⟨m, hm⟩ : ∃ m, ls[j].length = m := ⟨_, rfl⟩
      rw [hm] at hx
      by_cases h30 : m ≤ 30
      · have d3 : decide ((m : Int) > 30) = false := decide_eq_false (by omega)
        have hXn := Lib.hid (show (ls.take (j + 1)).all (fun l => decide (l.length ≤ 30)) = true by
          rw [List.take_succ_eq_append_getElem hL, List.all_append, hX.out]
          simp [hm, h30])
        clear hX hac hm
        go_wp2
        go_roundw
        case rel => exact ⟨j + 1, by go_num, by omega, by omega, hXn, hZ⟩
        case measure => simp [intOf]; omega
      · have d3 : decide ((m : Int) > 30) = true := decide_eq_true (by omega)
        have hE : fewB ls = false := by
          unfold fewB
          have : ls[j] ∈ ls.take 9 := by
            rw [List.mem_take_iff_getElem]
            exact ⟨j, by omega, rfl⟩
          rw [Bool.and_eq_false_iff]
          left
          rw [List.all_eq_false]
          exact ⟨_, this, by simp [hm]; omega⟩
        have HE := Lib.hid hE
        clear hX hac hm hE
        go_wp2
        go_ret
        exact ⟨by rw [HE.out]; rfl, hZ.out⟩
    · have HE := Lib.hid (show fewB ls = decide ((n : Int) ≤ 8) by
        unfold fewB
        by_cases h8 : n ≤ 8
        · have e : j = n := by omega
          have h1 := hX.out
          rw [List.take_of_length_le (by rw [HN.out]; omega)] at h1
          rw [List.take_of_length_le (by rw [HN.out]; omega), h1, HN.out, Bool.true_and]
          exact decide_eq_decide.2 (by omega)
        · have h1 : ¬ ls.length ≤ 8 := by rw [HN.out]; exact h8
          have h2 : ¬ (n : Int) ≤ 8 := by omega
          simp [h1, h2])
      clear hX
      by_cases h1 : j < n
      · have h2 : ¬ j ≤ 8 := fun h => hlt ⟨h1, h⟩
        have d1 : decide ((j : Int) < (n : Int)) = true := decide_eq_true (by omega)
        have d2 : decide ((j : Int) ≤ 8) = false := decide_eq_false (by omega)
        clear hlt
        go_wp2
        go_ret
        exact ⟨by rw [HE.out]; rfl, hZ.out⟩
      · have d1 : decide ((j : Int) < (n : Int)) = false := decide_eq_false (by omega)
        clear hlt
        go_wp2
        go_ret
        exact ⟨by rw [HE.out]; rfl, hZ.out⟩
/-- No row of vs lies in block k. -/
def Apt (vs : List Value) (k : Option Nat) : Prop := ∀ (A : Addr) (m c : Nat), Value.slice (some A) m c ∈ vs → 0 < m → some A.block ≠ k
theorem Ls.grown {w w' : World} {vs : List Value} {ls : List (List Fr)} {k : Option Nat} (h : Ls w.heap.size w vs ls) (ha : Apt vs k) (hg : w.grownBy w' k) : Ls w'.heap.size w' vs ls := by
  refine ⟨h.len, fun i l hl => ?_⟩
  obtain ⟨A, c, h1, h2, h3⟩ := h.at_ i l hl
  refine ⟨A, c, h1, h2, fun hp => ?_⟩
  obtain ⟨b, off, rfl, hb, hc⟩ := h3 hp
  refine ⟨b, off, rfl, Nat.lt_of_lt_of_le hb hg.size, fun j x hx => (hc j x hx).same (hg.block b hb (ha ⟨b, off, none⟩ _ _ (List.mem_of_getElem? h1) hp))⟩
theorem Ls.snoc {n : Nat} {w : World} {vs : List Value} {ls : List (List Fr)} (h : Ls n w vs ls) {A : Option Addr} {l : List Fr} {m c : Nat} (hm : l.length = m) (hc : m ≤ c) (hp : Pr n w A l) : Ls n w (vs ++ [.slice A m c]) (ls ++ [l]) := by
  subst hm
  refine ⟨by simp [h.len], fun i k hk => ?_⟩
  by_cases e : i < ls.length
  · rw [List.getElem?_append_left e] at hk
    obtain ⟨B, d, h1, h2⟩ := h.at_ i k hk
    exact ⟨B, d, by rw [List.getElem?_append_left (by rw [h.len]; exact e)]; exact h1, h2⟩
  · have hi := (List.getElem?_eq_some_iff.1 hk).1
    simp only [List.length_append, List.length_singleton] at hi
    obtain rfl : i = ls.length := by omega
    rw [List.getElem?_append_right (Nat.le_refl _)] at hk
    simp at hk
    subst hk
    exact ⟨A, c, by rw [← h.len, List.getElem?_append_right (Nat.le_refl _)]; simp, hc, hp⟩
theorem csI_take {outs : List (List Bool)} {i : Nat} (h : i < outs.length) : (csI outs).take (i + 1) = (csI outs).take i ++ [rowI i outs[i]] := by
  rw [List.take_succ_eq_append_getElem (by rw [csI_len]; exact h)]
  congr 2
  simp [csI]
theorem rowI_take {i j : Nat} {l : List Bool} (h : j < l.length) : (rowI i l).take (j + 1) = (rowI i l).take j ++ [if l[j] = true then ⟨4, 0, 0, 0, 0, 0, 0⟩ else ⟨3, 0, 0, 100 * ((i : Int) + 1) + (j : Int), 0, 0, 0⟩] := by
  rw [List.take_succ_eq_append_getElem (by rw [rowI_len]; exact h)]
  congr 2
  simp [rowI]
theorem one_slice (w : World) (A : Option Addr) (m c : Nat) : Rv (w.alloc (.cells #[.slice A m c] 31)) (some ⟨w.heap.size, 0, none⟩) [.slice A m c] := fun _ => by
  refine ⟨_, rfl, by simp, fun j v hv => ?_⟩
  cases j with
  | zero =>
    simp at hv; subst hv
    have := (Boxed.new w 31 (.slice A m c)).cell
    exact this
  | succ j => simp at hv
set_option maxRecDepth 100000 in
set_option maxHeartbeats 4000000 in
theorem calls_any (A : Option Addr) (n c : Nat) (outs : List (List Bool)) (w : World) (h : Rg w A outs) (hn : outs.length = n) (h8 : n ≤ 8) (h30 : ∀ l ∈ outs, l.length ≤ 30) :
    Calls Try.prog 21 #[.slice A n c] w fun e w' => ∃ Q d vs, e = .returned (.slice Q n d) ∧ Rv w' Q vs ∧ Ls w'.heap.size w' vs (csI outs) ∧ Below w.heap.size w w' := by
  have H := Lib.hid h
  have HN := Lib.hid hn
  have H30 := Lib.hid h30
  clear h hn h30
  go_enter Try.func21, Try.ntmps21
  go_wp2
  go_loopw [3, 4] (fun q x wr => ∃ (i : Nat) (Q : Option Addr) (d : Nat) (vs : List Value), q = .slice Q i d ∧ x = .int .i64 i ∧ i ≤ n ∧ Hid (Os wr w.heap.size Q i d vs) ∧ Hid (Ls wr.heap.size wr vs ((csI outs).take i)) ∧ Hid (Apt vs (Value.slice Q i d).ownBlock) ∧ Hid (Below w.heap.size w wr)) (fun _ x _ => n - (intOf x).toNat)
  case atStart => exact ⟨0, none, 0, [], rfl, rfl, Nat.zero_le _, Lib.hid (Os.nil _ _), Lib.hid ⟨rfl, fun i l hl => by simp at hl⟩, Lib.hid (fun _ _ _ h _ => by simp at h), Lib.hid (Below.refl _ _)⟩
  case round =>
    obtain ⟨wo, hwo⟩ : ∃ wo, wo = wr := ⟨_, rfl⟩
    subst hwo
    obtain ⟨i, Q, d, vs, rfl, rfl, hi, HO, HL, HA, HZ⟩ := hrel
    by_cases hlt : i < n
    · have hL : i < outs.length := by rw [HN.out]; exact hlt
      have d1 : decide ((i : Int) < (n : Int)) = true := decide_eq_true (by omega)
      obtain ⟨ad, rfl, hal, hac⟩ := H.out.below HZ.out (by omega)
      obtain ⟨B, cB, hx, hb⟩ := hac i _ (List.getElem?_eq_getElem hL)
      have HBX := Lib.hid (show ∀ w' : World, Below wo.heap.size wo w' → w'.cell? (ad.add i) = some (.slice B outs[i].length cB) from fun w' z => (z.cell (p := ad.add i) (by rw [block_add]; exact hal)).trans hx)
      have HRB := Lib.hid hb
      have h30 := H30.out _ (List.getElem_mem hL)
      have hct := csI_take hL
      generalize outs[i] = l at hx hct h30 HBX HRB
      obtain ⟨m, hm⟩ : ∃ m, l.length = m := ⟨_, rfl⟩
      rw [hm] at hx h30 HBX
      have HM := Lib.hid hm
      have HCT := Lib.hid hct
      have w1 : IntKind.i64.wrap ((i : Int) + 1) = (i : Int) + 1 := by rw [IntKind.wrap_i64]; omega
      have w2 : IntKind.i64.wrap (100 * ((i : Int) + 1)) = 100 * ((i : Int) + 1) := by rw [IntKind.wrap_i64]; omega
      clear hac hb hm hct
      go_wp2
      go_loopw [5, 6] (fun q x wr => ∃ (j : Nat) (R : Option Addr) (e : Nat), q = .slice R j e ∧ x = .int .i64 j ∧ j ≤ m ∧ Hid (Ow wr wo.heap.size R j e ((rowI i l).take j)) ∧ Hid (Below wo.heap.size wo wr)) (fun _ x _ => m - (intOf x).toNat)
      case atStart => exact ⟨0, none, 0, rfl, rfl, Nat.zero_le _, Lib.hid (Ow.nil _ _), Lib.hid (Below.refl _ _)⟩
      case round =>
        clear hx
        obtain ⟨j, R, e, rfl, rfl, hj, HR, HW⟩ := hrel
        have hx := HBX.out _ HW.out
        by_cases hlt2 : j < m
        · have hL2 : j < l.length := by rw [HM.out]; exact hlt2
          have d2 : decide ((j : Int) < (m : Int)) = true := decide_eq_true (by omega)
          obtain ⟨ab, rfl, hbl, hbc⟩ := HRB.out.below HW.out (by omega)
          have hy := hbc j _ (List.getElem?_eq_getElem hL2)
          have hrt := rowI_take (i := i) hL2
          clear hbc
          cases hb : l[j]
          · rw [hb] at hy hrt
            rw [if_neg (by simp)] at hrt
            obtain ⟨R', e', w', hrun, hown, _, hbel, _⟩ := app_one HR.out ⟨3, 0, 0, 100 * ((i : Int) + 1) + (j : Int), 0, 0, 0⟩ (by omega) HW.out.size
            rw [← hrt] at hown
            have RUN := Lib.hid hrun
            have HR' := Lib.hid hown
            have HW' := Lib.hid (HW.out.trans hbel)
            have w3 : IntKind.i64.wrap (100 * ((i : Int) + 1) + (j : Int)) = 100 * ((i : Int) + 1) + (j : Int) := by rw [IntKind.wrap_i64]; omega
            have w4 : IntKind.u64.wrap (100 * ((i : Int) + 1) + (j : Int)) = 100 * ((i : Int) + 1) + (j : Int) := by rw [IntKind.wrap_u64]; omega
            clear hrun hown hbel hrt HR HW hb
            go_wp2_with (at_builtin; (with_reducible refine wpList_append_fr RUN.out ?_ ?_ ?_ ?_); exact ⟨_, _, rfl, rfl, rfl⟩; rfl; rfl)
            go_roundw
            case rel => exact ⟨j + 1, R', e', rfl, by go_num, by omega, HR', HW'⟩
            case measure => simp [intOf]; omega
          · rw [hb] at hy hrt
            rw [if_pos rfl] at hrt
            obtain ⟨R', e', w', hrun, hown, _, hbel, _⟩ := app_one HR.out ⟨4, 0, 0, 0, 0, 0, 0⟩ (by omega) HW.out.size
            rw [← hrt] at hown
            have RUN := Lib.hid hrun
            have HR' := Lib.hid hown
            have HW' := Lib.hid (HW.out.trans hbel)
            clear hrun hown hbel hrt HR HW hb
            go_wp2_with (at_builtin; (with_reducible refine wpList_append_fr RUN.out ?_ ?_ ?_ ?_); exact ⟨_, _, rfl, rfl, rfl⟩; rfl; rfl)
            go_roundw
            case rel => exact ⟨j + 1, R', e', rfl, by go_num, by omega, HR', HW'⟩
            case measure => simp [intOf]; omega
        · have d2 : decide ((j : Int) < (m : Int)) = false := decide_eq_false (by omega)
          have e0 : (rowI i l).take j = rowI i l := by rw [List.take_of_length_le (by rw [rowI_len, HM.out]; omega)]
          have hr := HR.out
          rw [e0] at hr
          obtain rfl : j = m := by omega
          have hb1 : Below wr.heap.size wr (wr.alloc (.cells #[.slice R j e] 31)) := bel_alloc _ _
          have HO2 := HO.out.below HW.out
          have hsl : Sli [Value.slice R j e] := fun v hv => by simp at hv; subst hv; rfl
          obtain ⟨Q', d', w', hrun, hown, hgr, hbel, hblk⟩ := app_sls (HO2.below hb1) 1 (one_slice wr R j e) hsl (m := 1) rfl (by omega) (by have := HZ.out.size; have := HW.out.size; simp; omega)
          have RUN := Lib.hid hrun
          have hls := ((HL.out.later HW.out).later hb1).snoc (by rw [rowI_len]; exact HM.out) (ow_cap hr) (hr.pr.later hb1)
          rw [← HCT.out] at hls
          have hap : Apt (vs ++ [Value.slice R j e]) (Value.slice Q i d).ownBlock := fun A m c hm hp => by
            rcases List.mem_append.1 hm with hm | hm
            · exact HA.out A m c hm hp
            · simp at hm
              obtain ⟨h1, h2, h3⟩ := hm
              intro e2
              have hq := (World.ownsRow.lt HO.out _ e2.symm).2
              have hr2 := (World.ownsRow.lt hr A.block (by rw [← h1]; rfl)).1
              omega
          have HLn := Lib.hid (hls.grown hap hgr)
          have HAn := Lib.hid (show Apt (vs ++ [Value.slice R j e]) (Value.slice Q' (i + 1) d').ownBlock from fun A m c hm hp => by
            rcases hblk with e3 | e3
            · rw [e3]; exact hap A m c hm hp
            · rw [e3]
              obtain ⟨k, hk1, hk2⟩ := List.mem_iff_getElem.1 hm
              have hk3 : k < ((csI outs).take (i + 1)).length := by rw [← hls.len]; exact hk1
              obtain ⟨A1, c1, k1, k2, k3⟩ := hls.at_ k _ (List.getElem?_eq_getElem hk3)
              rw [List.getElem?_eq_getElem hk1, hk2] at k1
              injection k1 with k1
              injection k1 with k1 k4 k5
              obtain ⟨b, off, k6, k7, _⟩ := k3 (by omega)
              rw [← k1] at k6
              cases k6
              intro e4
              injection e4 with e4
              simp only at e4
              omega)
          have HOn := Lib.hid hown
          have HZn := Lib.hid (HZ.out.trans ((HW.out.mono HZ.out.size).trans ((hb1.mono (by have := HZ.out.size; have := HW.out.size; omega)).trans hbel)))
          clear hrun hown hgr hbel hblk hls hap hr e0 HO2 hsl HR HO HL HA HZ
          go_wp2_with (at_builtin; (with_reducible refine wpList_append_fr RUN.out ?_ ?_ ?_ ?_); exact ⟨_, _, rfl, rfl, rfl⟩; rfl; rfl)
          go_roundw
          case rel => exact ⟨i + 1, Q', d', _, rfl, by go_num, by omega, HOn, HLn, HAn, HZn⟩
          case measure => simp [intOf]; omega
    · have d1 : decide ((i : Int) < (n : Int)) = false := decide_eq_false (by omega)
      have e0 : (csI outs).take i = csI outs := by rw [List.take_of_length_le (by rw [csI_len, HN.out]; omega)]
      rw [e0] at HL
      obtain rfl : i = n := by omega
      clear e0
      go_wp2
      go_ret
      exact ⟨Q, d, vs, rfl, HO.out.rv, HL.out, HZ.out⟩
end Go.Proofs.Ytppllanmgdhabaa
namespace Go.Proofs.Ytppllanmgdhabaa
open Go.RowKit Go.Deep Go.Shelf
theorem fold_PV {J : Int} {N : Nat} : ∀ (who : List Int) (k : Nat) (s : PI), PV J N k s → PV J N (k + who.length) (who.foldl (playI1 J N) s)
  | [], _, _, h => h
  | i :: r, k, s, h => by
    rw [List.foldl_cons, List.length_cons, show k + (r.length + 1) = (k + 1) + r.length by omega]
    refine fold_PV r (k + 1) _ ?_
    unfold playI1
    split
    · exact (h.beg _).step _
    · exact ⟨h.ml, h.al, h.ll, h.um, h.uf, h.ul, h.l5, Nat.le_succ_of_le h.ol⟩
/-- What holds of a play's lists, whatever came in. -/
theorem plI_U {J : Int} {calls : List (List Fr)} (hu : ∀ l ∈ calls, ∀ f ∈ l, UF f) (h5 : ∀ l ∈ calls, l.length ≤ 500) (who : List Int) : UM (plI J calls who).1 ∧ UA (plI J calls who).2.1 ∧ (plI J calls who).1.length ≤ 500 ∧ (plI J calls who).2.1.length ≤ 8 ∧ (plI J calls who).2.2.length ≤ who.length := by
  unfold plI
  by_cases hk : may 1 1 J 0 = true ∧ calls.length ≤ 8
  · rw [if_pos hk]
    have h := fold_PV who 0 _ (PV.start (J := J) hu h5)
    have e : who.foldl (playI1 J calls.length) (startI J calls) = playI J calls who := rfl
    rw [e] at h
    have hs := sz_lim 1 1 J 0
    refine ⟨h.um, fun f hf => ?_, ?_, ?_, ?_⟩
    · obtain ⟨i, _, rfl⟩ := getD_of_mem hf
      exact h.uf i
    · have := h.ml; simp only; omega
    · have := h.al; simp only; omega
    · have := h.ol; simp only; omega
  · rw [if_neg hk]
    exact ⟨fun u h => by simp at h, fun f h => by simp at h, by simp, by simp, by simp⟩
def aw0 : List (List Fr) := [[⟨3, 0, 0, 7, 0, 0, 0⟩], [⟨4, 0, 0, 0, 0, 0, 0⟩]]
def aw1 : List Int := [0, 0, 0, 0, 0, 1, 1, 1, 1, 1]
theorem aw_play : (plI 2 aw0 aw1).2.2.length = 2 ∧ ((plI 2 aw0 aw1).2.2.getD 0 fno).res = 1 ∧ ((plI 2 aw0 aw1).2.2.getD 1 fno).val = 7 ∧ ((plI 2 aw0 aw1).2.2.getD 1 fno).who = 1 ∧ (plI 2 aw0 aw1).2.1.length = 2 := by decide +kernel
theorem aw_rest : (rsI 2 (plI 2 aw0 aw1).1 (plI 2 aw0 aw1).2.1).1.length = (plI 2 aw0 aw1).1.length ∧ (rsI 2 (plI 2 aw0 aw1).1 (plI 2 aw0 aw1).2.1).2.length = 2 := by decide +kernel
set_option maxRecDepth 100000 in
set_option maxHeartbeats 4000000 in
theorem awake_any (w : World) : Tells 10 #[] w (.bool true) := by
  have b1 : Below w.heap.size w (w.alloc (.cells #[.int .i64 3, .int .i64 0, .int .i64 0, .int .u64 7, .int .u64 0, .int .u64 0, .int .i64 0] 28)) := bel_alloc _ _
  have g1 : Bg (w.alloc (.cells #[.int .i64 3, .int .i64 0, .int .i64 0, .int .u64 7, .int .u64 0, .int .u64 0, .int .i64 0] 28)) w.heap.size [⟨3, 0, 0, 7, 0, 0, 0⟩] := heap_alloc_new _ _
  have s1 : (w.alloc (.cells #[.int .i64 3, .int .i64 0, .int .i64 0, .int .u64 7, .int .u64 0, .int .u64 0, .int .i64 0] 28)).heap.size = w.heap.size + 1 := by simp
  go_enter Try.func10, Try.ntmps10
  go_wp2_with fail
  generalize w.alloc (.cells #[.int .i64 3, .int .i64 0, .int .i64 0, .int .u64 7, .int .u64 0, .int .u64 0, .int .i64 0] 28) = w1 at b1 g1 s1 ⊢
  have b2 : Below w1.heap.size w1 (w1.alloc (.cells #[.int .i64 4, .int .i64 0, .int .i64 0, .int .u64 0, .int .u64 0, .int .u64 0, .int .i64 0] 28)) := bel_alloc _ _
  have g2 : Bg (w1.alloc (.cells #[.int .i64 4, .int .i64 0, .int .i64 0, .int .u64 0, .int .u64 0, .int .u64 0, .int .i64 0] 28)) w1.heap.size [⟨4, 0, 0, 0, 0, 0, 0⟩] := heap_alloc_new _ _
  have s2 : (w1.alloc (.cells #[.int .i64 4, .int .i64 0, .int .i64 0, .int .u64 0, .int .u64 0, .int .u64 0, .int .i64 0] 28)).heap.size = w1.heap.size + 1 := by simp
  generalize w1.alloc (.cells #[.int .i64 4, .int .i64 0, .int .i64 0, .int .u64 0, .int .u64 0, .int .u64 0, .int .i64 0] 28) = w2 at b2 g2 s2 ⊢
  have b3 : Below w2.heap.size w2 (w2.alloc (.cells #[.slice (some ⟨w.heap.size, 0, none⟩) 1 1, .slice (some ⟨w.heap.size + 1, 0, none⟩) 1 1] 31)) := bel_alloc _ _
  have g3 : (w2.alloc (.cells #[.slice (some ⟨w.heap.size, 0, none⟩) 1 1, .slice (some ⟨w.heap.size + 1, 0, none⟩) 1 1] 31)).heap[w2.heap.size]? = some (.cells #[.slice (some ⟨w.heap.size, 0, none⟩) 1 1, .slice (some ⟨w.heap.size + 1, 0, none⟩) 1 1] 31 (0, 0)) := heap_alloc_new _ _
  have s3 : (w2.alloc (.cells #[.slice (some ⟨w.heap.size, 0, none⟩) 1 1, .slice (some ⟨w.heap.size + 1, 0, none⟩) 1 1] 31)).heap.size = w2.heap.size + 1 := by simp
  generalize w2.alloc (.cells #[.slice (some ⟨w.heap.size, 0, none⟩) 1 1, .slice (some ⟨w.heap.size + 1, 0, none⟩) 1 1] 31) = w3 at b3 g3 s3 ⊢
  have b4 : Below w3.heap.size w3 (w3.alloc (.cells #[.int .i64 0, .int .i64 0, .int .i64 0, .int .i64 0, .int .i64 0, .int .i64 1, .int .i64 1, .int .i64 1, .int .i64 1, .int .i64 1] 3)) := bel_alloc _ _
  have g4 : (w3.alloc (.cells #[.int .i64 0, .int .i64 0, .int .i64 0, .int .i64 0, .int .i64 0, .int .i64 1, .int .i64 1, .int .i64 1, .int .i64 1, .int .i64 1] 3)).heap[w3.heap.size]? = some (.cells (aw1.map (Value.int .i64)).toArray 3 (0, 0)) := heap_alloc_new _ _
  have s4 : (w3.alloc (.cells #[.int .i64 0, .int .i64 0, .int .i64 0, .int .i64 0, .int .i64 0, .int .i64 1, .int .i64 1, .int .i64 1, .int .i64 1, .int .i64 1] 3)).heap.size = w3.heap.size + 1 := by simp
  generalize w3.alloc (.cells #[.int .i64 0, .int .i64 0, .int .i64 0, .int .i64 0, .int .i64 0, .int .i64 1, .int .i64 1, .int .i64 1, .int .i64 1, .int .i64 1] 3) = w4 at b4 g4 s4 ⊢
  have hz : Below w.heap.size w w4 := ((b1.trans (b2.mono (by omega))).trans (b3.mono (by omega))).trans (b4.mono (by omega))
  have p1 : Pr w4.heap.size w4 (some ⟨w.heap.size, 0, none⟩) [⟨3, 0, 0, 7, 0, 0, 0⟩] := (show Bg w4 w.heap.size _ from (b4.block _ (by omega)).trans ((b3.block _ (by omega)).trans ((b2.block _ (by omega)).trans g1))).pr (by omega)
  have p2 : Pr w4.heap.size w4 (some ⟨w.heap.size + 1, 0, none⟩) [⟨4, 0, 0, 0, 0, 0, 0⟩] := (show Bg w4 (w.heap.size + 1) _ from (b4.block _ (by omega)).trans ((b3.block _ (by omega)).trans (by rw [← s1]; exact g2))).pr (by omega)
  have hL : Ls w4.heap.size w4 [.slice (some ⟨w.heap.size, 0, none⟩) 1 1, .slice (some ⟨w.heap.size + 1, 0, none⟩) 1 1] aw0 := by
    refine ⟨rfl, fun i l hl => ?_⟩
    rcases i with _ | _ | i
    · cases hl; exact ⟨_, 1, rfl, Nat.le_refl _, p1⟩
    · cases hl; exact ⟨_, 1, rfl, Nat.le_refl _, p2⟩
    · simp [aw0] at hl
  have hA : Rv w4 (some ⟨w.heap.size + 1 + 1, 0, none⟩) [.slice (some ⟨w.heap.size, 0, none⟩) 1 1, .slice (some ⟨w.heap.size + 1, 0, none⟩) 1 1] := fun _ => by
    refine ⟨_, rfl, by simp only; omega, fun j u hu => ?_⟩
    have e : w4.heap[w.heap.size + 1 + 1]? = some (.cells #[.slice (some ⟨w.heap.size, 0, none⟩) 1 1, .slice (some ⟨w.heap.size + 1, 0, none⟩) 1 1] 31 (0, 0)) := (b4.block _ (by omega)).trans (by
      have h := g3
      rw [s2, s1] at h
      exact h)
    rw [add_zero']
    simp only [World.cell?, e]
    simpa using hu
  have hW : Ri w4 (some ⟨w.heap.size + 1 + 1 + 1, 0, none⟩) aw1 := fun _ => ⟨_, rfl, by simp only; omega, fun j u hu => by
    rw [add_zero', ← s1, ← s2, ← s3]
    simp only [World.cell?, g4]
    simp [hu]⟩
  have hU : ∀ l ∈ aw0, ∀ f ∈ l, UF f := fun l hl f hf => by
    simp only [aw0, List.mem_cons, List.not_mem_nil, or_false] at hl
    rcases hl with rfl | rfl <;> (simp only [List.mem_singleton] at hf; subst hf; unfold UF U; simp)
  have h5 : ∀ l ∈ aw0, l.length ≤ 500 := fun l hl => by
    simp only [aw0, List.mem_cons, List.not_mem_nil, or_false] at hl
    rcases hl with rfl | rfl <;> simp
  refine (play_any 2 _ _ 2 2 10 10 _ aw0 aw1 w4 hA hL hW rfl rfl (by omega) hU h5).mono ?_
  obtain ⟨u1, u2, u3, u4, u5⟩ := plI_U (J := 2) hU h5 aw1
  obtain ⟨p1, p2, p3, p4, p5⟩ := aw_play
  obtain ⟨q1, q2⟩ := aw_rest
  generalize plI 2 aw0 aw1 = s at *
  obtain ⟨sm, sa, so⟩ := s
  rintro _ w5 ⟨Am, cm, Ao, co, Aa, ca, rfl, rm, ro, hco, ra, z5⟩
  simp only at u1 u2 u3 u4 u5 p1 p2 p3 p4 p5 q1 q2 rm ro ra ⊢
  have Z5 := Lib.hid (hz.trans (z5.mono hz.size))
  have RM := Lib.hid rm
  have RO := Lib.hid ro
  have RA := Lib.hid ra
  have HP := Lib.hid (And.intro p2 (And.intro p3 p4))
  have HU := Lib.hid (And.intro u1 u2)
  have HQ := Lib.hid (And.intro q1 q2)
  have P1 := Lib.hid p1
  have P5 := Lib.hid p5
  obtain ⟨nm, hnm⟩ : ∃ nm, sm.length = nm := ⟨_, rfl⟩
  rw [p1, p5, hnm]
  rw [hnm] at u3
  have HNM := Lib.hid hnm
  clear b1 g1 s1 b2 g2 s2 b3 g3 s3 b4 g4 s4 hA hL hW hU h5 hz rm ro ra z5 p2 p3 p4 u1 u2 u4 u5 q1 q2 p1 p5 hco hnm
  go_wp2_with fail
  refine (rest_any 2 Am Aa nm cm 2 ca sm sa w5 RM.out RA.out HNM.out P5.out (by omega) u3 HU.out.1 HU.out.2).mono ?_
  obtain ⟨q1, q2⟩ := HQ.out
  generalize rsI 2 sm sa = R at q1 q2 ⊢
  rintro _ w6 ⟨An, cn, Ak, ck, rfl, _, _, z6⟩
  rw [q1, q2, HNM.out]
  have p1 := P1.out
  have RO6 := Lib.hid (RO.out.later z6)
  have Z6 := Lib.hid (Z5.out.trans (z6.mono Z5.out.size))
  obtain ⟨b, off, rfl, hb, c0⟩ := RO6.out.at (i := 0) (by omega)
  obtain ⟨b', off', e', _, c1⟩ := RO6.out.at (i := 1) (by omega)
  cases e'
  have hg0 : so[0]'(by omega) = so.getD 0 fno := by rw [List.getD_eq_getElem?_getD, List.getElem?_eq_getElem]; rfl
  have hg1 : so[1]'(by omega) = so.getD 1 fno := by rw [List.getD_eq_getElem?_getD, List.getElem?_eq_getElem]; rfl
  rw [hg0] at c0
  rw [hg1] at c1
  obtain ⟨h0, h1, h2⟩ := HP.out
  have x0 := c0.c6
  have x1 := c1.c3
  have x2 := c1.c2
  rw [h0] at x0
  rw [h1] at x1
  rw [h2] at x2
  simp only [Nat.zero_mul, Nat.add_zero, Nat.one_mul] at x0 x1 x2
  clear p1 q1 q2 z6 Z5 RM RO RA HP HU HQ hg0 hg1 h0 h1 h2 c0 c1 RO6
  go_wp2
  go_ret
  exact ⟨rfl, Z6.out⟩
end Go.Proofs.Ytppllanmgdhabaa
namespace Go.Proofs.Ytppllanmgdhabaa
open Go.RowKit Go.Deep
section
variable {J : Int} {outs : List (List Bool)} (who : List Int)
theorem plI_cases (h8 : outs.length ≤ 8) (h30 : ∀ l ∈ outs, l.length ≤ 30) : (may 1 1 J 0 = false ∧ plI J (csI outs) who = ([], [], [])) ∨ (may 1 1 J 0 = true ∧ ∃ h H nx, plI J (csI outs) who = ((playI J (csI outs) who).m, (playI J (csI outs) who).a, (playI J (csI outs) who).over) ∧ HI J outs (playI J (csI outs) who) h H nx) := by
  unfold plI
  cases hm : may 1 1 J 0
  · rw [if_neg (by simp)]; exact .inl ⟨rfl, rfl⟩
  · rw [if_pos ⟨rfl, by rw [csI_len]; exact h8⟩]
    obtain ⟨h, H, nx, g⟩ := HI.play hm h8 h30 who
    exact .inr ⟨rfl, h, H, nx, rfl, g⟩
theorem csI_UF (h8 : outs.length ≤ 8) (h30 : ∀ l ∈ outs, l.length ≤ 30) : (∀ l ∈ csI outs, ∀ f ∈ l, UF f) ∧ ∀ l ∈ csI outs, l.length ≤ 500 := by
  have key : ∀ l ∈ csI outs, ∃ i, i < outs.length ∧ ∃ b, outs[i]? = some b ∧ l = rowI i b := fun l hl => by
    obtain ⟨i, hi, e⟩ := List.mem_iff_getElem.1 hl
    rw [csI_len] at hi
    exact ⟨i, hi, outs[i], List.getElem?_eq_getElem hi, by rw [← e]; simp [csI]⟩
  refine ⟨fun l hl f hf => ?_, fun l hl => ?_⟩
  · obtain ⟨i, hi, b, hb, rfl⟩ := key l hl
    have hb30 := h30 b (List.mem_of_getElem? hb)
    obtain ⟨k, hk, e⟩ := List.mem_iff_getElem.1 hf
    rw [rowI_len] at hk
    simp only [rowI, List.getElem_mapIdx] at e
    subst e
    split <;> (unfold UF U; simp; try omega)
  · obtain ⟨i, hi, b, hb, rfl⟩ := key l hl
    have hb30 := h30 b (List.mem_of_getElem? hb)
    rw [rowI_len]; omega
/-- Values of what was done. -/
theorem plI_one (h8 : outs.length ≤ 8) (h30 : ∀ l ∈ outs, l.length ≤ 30) {f : Fr} (hf : f ∈ (plI J (csI outs) who).2.2) (hr : f.res = 1) : 100 ≤ f.val ∧ f.val < 1000 ∧ ∃ p q : Nat, f.val = 100 * ((p : Int) + 1) + (q : Int) ∧ q < 30 ∧ ∃ l, outs[p]? = some l ∧ l[q]? = some false := by
  rcases plI_cases (J := J) who h8 h30 with ⟨_, e⟩ | ⟨_, h, H, nx, e, g⟩
  · rw [e] at hf; simp at hf
  · rw [e] at hf
    obtain ⟨p, q, k1, l, k2, k3⟩ := g.isOne hf hr
    have h1 := (List.getElem?_eq_some_iff.1 k2).1
    have h2 := (List.getElem?_eq_some_iff.1 k3).1
    have h3 := h30 l (List.mem_of_getElem? k2)
    exact ⟨by omega, by omega, p, q, k1, by omega, l, k2, k3⟩
theorem plI_order (h8 : outs.length ≤ 8) (h30 : ∀ l ∈ outs, l.length ≤ 30) (q : Nat) (i : Int) (hi : 0 < i) {j : Nat} (hj : j < (plI J (csI outs) who).2.2.length) (hp : qi q i (plI J (csI outs) who).2.2[j] = true) : lastv (qi q i) ((plI J (csI outs) who).2.2.take j) < (plI J (csI outs) who).2.2[j].val := by
  rcases plI_cases (J := J) who h8 h30 with ⟨_, e⟩ | ⟨_, h, H, nx, e, g⟩
  · exfalso
    have : (plI J (csI outs) who).2.2.length = 0 := by rw [e]; rfl
    omega
  · have e2 : (plI J (csI outs) who).2.2 = (playI J (csI outs) who).over := by rw [e]
    simp only [e2] at hp ⊢
    exact g.orderI q i hi (by rw [e2] at hj; exact hj) hp
end
end Go.Proofs.Ytppllanmgdhabaa
namespace Go.Proofs.Ytppllanmgdhabaa
open Go.RowKit Go.Deep
set_option maxRecDepth 100000 in
theorem restIL_U {J : Int} : ∀ (a : List Fr) (m : List Int), UM m → UA a → UM (restIL J m a).1 ∧ UA (restIL J m a).2
  | [], _, h, _ => ⟨h, fun f hf => by simp [restIL] at hf⟩
  | f :: r, m, h, ha => by
    rw [restIL_cons]
    have h1 := restI1_U (J := J) 20 h (ha f (by simp))
    have h2 := restIL_U (J := J) r _ h1.1 (fun g hg => ha g (List.mem_cons_of_mem _ hg))
    refine ⟨h2.1, fun g hg => ?_⟩
    rcases List.mem_cons.1 hg with rfl | hg
    · exact h1.2
    · exact h2.2 g hg
set_option maxRecDepth 100000 in
theorem restIR_U {J : Int} : ∀ (k : Nat) (m : List Int) (a : List Fr), UM m → UA a → UM (restIR J k m a).1 ∧ UA (restIR J k m a).2
  | 0, _, _, h, ha => ⟨h, ha⟩
  | k + 1, m, a, h, ha => restIR_U k _ _ (restIL_U a m h ha).1 (restIL_U a m h ha).2
set_option maxRecDepth 100000 in
theorem restIR_len {J : Int} : ∀ (k : Nat) (m : List Int) (a : List Fr), (restIR J k m a).1.length = m.length ∧ (restIR J k m a).2.length = a.length
  | 0, _, _ => ⟨rfl, rfl⟩
  | k + 1, m, a => by
    have h := restIR_len (J := J) k (restIL J m a).1 (restIL J m a).2
    have h2 := restIL_len J a m
    exact ⟨h.1.trans h2.1, h.2.trans h2.2⟩
/-- How often a number was put in. -/
def cE (v : Int) (l : List Fr) : Nat := l.countP fun f => isPE f && decide (f.val = v)
/-- How often a number was taken out. -/
def cD (v : Int) (l : List Fr) : Nat := l.countP fun f => isTD f && decide (f.val = v)
set_option maxRecDepth 100000 in
theorem cE_take {l : List Fr} {j : Nat} (h : j < l.length) (v : Int) : cE v (l.take (j + 1)) = cE v (l.take j) + (if l[j].op = 3 ∧ l[j].res = 1 ∧ l[j].val = v then 1 else 0) := by
  unfold cE
  rw [List.take_succ_eq_append_getElem h, List.countP_append, List.countP_singleton]
  congr 1
  simp [isPE, and_assoc]
set_option maxRecDepth 100000 in
theorem cD_take {l : List Fr} {j : Nat} (h : j < l.length) (v : Int) : cD v (l.take (j + 1)) = cD v (l.take j) + (if l[j].op = 4 ∧ l[j].res = 1 ∧ l[j].val = v then 1 else 0) := by
  unfold cD
  rw [List.take_succ_eq_append_getElem h, List.countP_append, List.countP_singleton]
  congr 1
  simp [isTD, and_assoc]
set_option maxRecDepth 100000 in
theorem cU_take {l : List Int} {j : Nat} (h : j < l.length) (v : Int) : (l.take (j + 1)).countP (fun u => decide (u = v)) = (l.take j).countP (fun u => decide (u = v)) + (if l[j] = v then 1 else 0) := by
  rw [List.take_succ_eq_append_getElem h, List.countP_append, List.countP_singleton]
  congr 1
  simp
set_option maxRecDepth 100000 in
theorem fil_take {l : List Fr} {j : Nat} (h : j < l.length) : (l.take (j + 1)).filter isCall = (l.take j).filter isCall ++ (if 0 ≤ l[j].op then [l[j]] else []) := by
  rw [List.take_succ_eq_append_getElem h, List.filter_append]
  congr 1
  simp [isCall, List.filter_cons]
set_option maxRecDepth 100000 in
theorem plI_once {J : Int} {outs : List (List Bool)} (who : List Int) (h8 : outs.length ≤ 8) (h30 : ∀ l ∈ outs, l.length ≤ 30) :
    ((plI J (csI outs) who).1.length = 0 ∧ (plI J (csI outs) who).2.1.length = 0 ∧ (plI J (csI outs) who).2.2.length = 0) ∨
    ((plI J (csI outs) who).2.1.length = outs.length ∧ ∃ m' k, rsI J (plI J (csI outs) who).1 (plI J (csI outs) who).2.1 = (m', k) ∧ m'.length = (plI J (csI outs) who).1.length ∧ k.length = outs.length ∧ UM m'
      ∧ (∀ g ∈ k, g = fno ∨ (g.res ≠ 0 ∧ 0 ≤ g.op))
      ∧ (∃ L, ilst 1 1 J 0 m' = some L ∧ ilen 1 1 J 0 m' = L.length ∧ L.length ≤ 16 ∧ ∀ v, cE v ((plI J (csI outs) who).2.2 ++ k.filter isCall) ≤ 1 ∧ cD v ((plI J (csI outs) who).2.2 ++ k.filter isCall) + L.countP (fun u => decide (u = v)) = cE v ((plI J (csI outs) who).2.2 ++ k.filter isCall))
      ∧ ∀ f ∈ (plI J (csI outs) who).2.2 ++ k.filter isCall, f.res = 1 → ∃ p q : Nat, f.val = 100 * ((p : Int) + 1) + (q : Int) ∧ p < outs.length ∧ q < 30 ∧ ∃ l, outs[p]? = some l ∧ l[q]? = some false) := by
  have hU := plI_U (J := J) (csI_UF h8 h30).1 (csI_UF h8 h30).2 who
  rcases plI_cases (J := J) who h8 h30 with ⟨_, e⟩ | ⟨hm, h, H, nx, e, g⟩
  · rw [e]; exact .inl ⟨rfl, rfl, rfl⟩
  · right
    have hok := okm_iff.1 g.vi.ok
    obtain ⟨s', h', H', g', e1, e2, e3, e4⟩ := rest_tenI h8 h30 g
    rw [e] at hU ⊢
    obtain ⟨u1, u2, _⟩ := hU
    simp only at u1 u2 ⊢
    refine ⟨g.al, (restIR J 10 (playI J (csI outs) who).m (playI J (csI outs) who).a).1, (restIR J 10 (playI J (csI outs) who).m (playI J (csI outs) who).a).2, ?_, (restIR_len 10 _ _).1, (restIR_len 10 _ _).2.trans g.al, (restIR_U 10 _ _ u1 u2).1, e4, ?_, ?_⟩
    · unfold rsI
      rw [if_pos ⟨hm, by rw [hok.2, sz, if_pos hm]⟩]
    · obtain ⟨L, l1, l2, l3, _, _⟩ := g'.onceI h8 h30 e2 0
      rw [e1] at l1 l2
      refine ⟨L, l1, l2, l3, fun v => ?_⟩
      obtain ⟨L', k1, _, _, k4, k5⟩ := g'.onceI h8 h30 e2 v
      rw [e1, l1] at k1
      obtain rfl : L = L' := Option.some.inj k1
      rw [e3] at k4 k5
      exact ⟨k4, k5⟩
    · intro f hf hr
      rw [← e3] at hf
      obtain ⟨p, q, k1, l, k2, k3⟩ := g'.isOne hf hr
      have h1 := (List.getElem?_eq_some_iff.1 k2).1
      have h2 := (List.getElem?_eq_some_iff.1 k3).1
      have h3 := h30 l (List.mem_of_getElem? k2)
      exact ⟨p, q, k1, h1, by omega, l, k2, k3⟩
theorem u64_of {v : Int} (h0 : 0 ≤ v) (h1 : v < 18446744073709551616) : IntKind.u64.wrap v = v := by rw [IntKind.wrap_u64]; omega
end Go.Proofs.Ytppllanmgdhabaa
