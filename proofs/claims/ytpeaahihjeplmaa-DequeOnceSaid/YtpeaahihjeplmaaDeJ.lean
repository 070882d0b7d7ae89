/- What a rest keeps, and how many of some kind there are: on lists. -/
import Derived.Test.YtpeaahihjeplmaaOrderW
namespace Go.Proofs.Ytpeaahihjeplmaa
open Go.RowKit Go.Deep Go.Shelf
theorem restOne_len {W D J S : Int} : ∀ (n : Nat) (m : List Int) (f : Fr), (restOne W D J S n m f).1.length = m.length
  | 0, _, _ => rfl
  | n + 1, m, f => by
    unfold restOne
    split
    · rfl
    · rw [restOne_len n, deqS_len]
theorem restL_len {W D J S : Int} : ∀ (m : List Int) (a : List Fr), (restL W D J S m a).1.length = m.length ∧ (restL W D J S m a).2.length = a.length
  | _, [] => ⟨rfl, rfl⟩
  | m, f :: r => by
    obtain ⟨h1, h2⟩ := restL_len (W := W) (D := D) (J := J) (S := S) (restOne W D J S 20 m f).1 r
    unfold restL
    exact ⟨h1.trans (restOne_len _ _ _), by simp [h2]⟩
/-- How many of the calls are over and of this kind. -/
def ovr (o : Int) (l : List Fr) : Nat := (l.filter fun f => decide (f.op = o) && (f.res != 0)).length
theorem ovr_take {l : List Fr} {j : Nat} (h : j < l.length) (o : Int) : ovr o (l.take (j + 1)) = ovr o (l.take j) + (if l[j].op = o ∧ ¬ l[j].res = 0 then 1 else 0) := by
  unfold ovr
  rw [List.take_succ_eq_append_getElem h, List.filter_append, List.length_append]
  congr 1
  by_cases h1 : l[j].op = o
  · by_cases h2 : l[j].res = 0
    · simp [h1, h2]
    · simp [h1, h2]
  · simp [h1]
theorem ovr_le (o : Int) (l : List Fr) : ovr o l ≤ l.length := List.length_filter_le _ _
theorem play_may {D th : Int} {own : List Fr} {who : List Int} (h : plK D th = true) : plO D th own who = play D th own who ∧ may 1 D 1 0 = true ∧ 0 ≤ th := by
  unfold plO
  rw [if_pos h]
  unfold plK at h
  simp only [Bool.and_eq_true, decide_eq_true_eq] at h
  exact ⟨rfl, h.1, h.2.1⟩
theorem play_hard {D th : Int} {own : List Fr} {who : List Int} (h : plK D th = false) : plO D th own who = ⟨[], [], [], 0⟩ := by
  unfold plO
  rw [if_neg (by simp [h])]
/-- The cells of a play are as many as the layout says. -/
theorem play_rs {D th : Int} {pops : List Bool} (hm : may 1 D 1 0 = true) (hth : 0 ≤ th) (hp : pops.length ≤ 60) (who : List Int) : rsK D (play D th (cs pops) who).m = true := by
  obtain ⟨t, rfl⟩ := Int.eq_ofNat_of_zero_le hth
  have h := fold_PV (cs_UF pops hp) who 0 (start D t) (PV.start t hm)
  unfold rsK play
  simp only [Bool.and_eq_true, decide_eq_true_eq]
  refine ⟨hm, ?_⟩
  have := h.ml
  have := sz_lim' hm
  omega
/-- DequeBoth, on lists. -/
theorem both_list {D th : Int} (hm : may 1 D 1 0 = true) (hth : 0 ≤ th) (who : List Int) {n : List Int} {k : List Fr} (hr : restL 1 D 1 0 (play D th (cs [false, true]) ([0, 0, 0, 0] ++ who)).m (play D th (cs [false, true]) ([0, 0, 0, 0] ++ who)).a = (n, k)) :
    mny ((play D th (cs [false, true]) ([0, 0, 0, 0] ++ who)).over ++ k) 1 ≤ 1 ∧ (ovr 1 ((play D th (cs [false, true]) ([0, 0, 0, 0] ++ who)).over ++ k) = 0 ∨ mny ((play D th (cs [false, true]) ([0, 0, 0, 0] ++ who)).over ++ k) 1 = 1) := by
  obtain ⟨_, L, _, h2, h3, _⟩ := play_once hm (by simp) ([0, 0, 0, 0] ++ who) hr
  have a2 := h2 1
  have a3 := h3 1
  have hb := play_both hm hth who hr
  obtain ⟨o, ho, _⟩ := play_first (pops := [false, true]) (th := th) hm (by simp) [0, 0, 0, 0] who
  rw [play_four hm hth] at ho
  have hp : 1 ≤ (ob isPO ((play D th (cs [false, true]) ([0, 0, 0, 0] ++ who)).over ++ k)).count 1 := by
    rw [ho]
    simp [ob, isPO]
  unfold mny
  generalize (play D th (cs [false, true]) ([0, 0, 0, 0] ++ who)).over ++ k = l at *
  refine ⟨by omega, ?_⟩
  by_cases hq : ∃ g ∈ l, g.op = 1 ∧ g.res ≠ 0
  · right
    have := hb hq
    omega
  · left
    unfold ovr
    rw [List.length_eq_zero_iff, List.filter_eq_nil_iff]
    intro g hg hh
    exact hq ⟨g, hg, by simpa using hh⟩
end Go.Proofs.Ytpeaahihjeplmaa
