/- Waiting, step by step, on lists (layer 14). -/
import Derived.Test.YtgemaeibmgkneaaDqA
namespace Go.Proofs.Ytgemaeibmgkneaa
open Go.RowKit Go.Deep
/-- The place of a worker's park cell. -/
def pkI (D J w : Int) : Int := bg D J w + 2
set_option maxRecDepth 100000 in
theorem pkI_lim {W D J S : Int} {m : List Int} {w : Int} (h : okw W D J S m w = true) : 10 ≤ pkI D J w ∧ pkI D J w < m.length := by
  obtain ⟨hm, hl, h0, h1⟩ := okw_iff.1 h
  obtain ⟨hW, hD, hJ, hS⟩ := may_lim hm
  have e1 := bg_ge (D := D) (J := J) hD.1 hJ.1 h0
  have e2 := bg_step (D := D) (J := J) hD.1 h1
  unfold pkI
  omega
set_option maxRecDepth 100000 in
theorem pkI_ow {W D J S : Int} {m : List Int} {w : Int} (h : okw W D J S m w = true) : ow W D J S w 2 = pkI D J w := by
  obtain ⟨hm, hl, h0, h1⟩ := okw_iff.1 h
  unfold ow pkI
  rw [hm, show wi w 0 (W - 1) = true from wi_true.2 ⟨h0, by omega⟩]
  rfl
set_option maxRecDepth 100000 in
theorem okw_long {W D J S : Int} {m : List Int} {w : Int} (h : okw W D J S m w = true) : 10 < m.length := by
  have := pkI_lim h; omega
set_option maxRecDepth 100000 in
theorem okw_who {W D J S : Int} {m : List Int} {w : Int} (h : okw W D J S m w = true) : 0 ≤ w ∧ w < 8 := by
  obtain ⟨hm, _, h0, h1⟩ := okw_iff.1 h
  have := (may_lim hm).1
  omega
set_option maxRecDepth 100000 in
theorem okw_put {W D J S : Int} {m : List Int} {w : Int} (h : okw W D J S m w = true) (i v : Int) : okw W D J S (put m i v) w = true := by rw [okw_len (len_put _ _ _)]; exact h
set_option maxRecDepth 100000 in
theorem st_nat (n k : Nat) (hk : k < 16) : st (n : Int) k = ((n ||| 2 ^ k : Nat) : Int) := by
  unfold st
  rw [Int.toNat_natCast]
  by_cases hb : n / 2 ^ k % 2 = 0
  · rw [if_pos ⟨by omega, by omega, by exact_mod_cast hb⟩, nat_or_set n k hb, Int.natCast_add]; simp
  · rw [if_neg (fun hh => hb (by exact_mod_cast hh.2.2)), nat_or_has n k (by omega)]
set_option maxRecDepth 100000 in
theorem st_idem {e w : Int} (h : 0 ≤ e) (h0 : 0 ≤ w) (h1 : w < 16) : st (st e w) w = st e w := by
  obtain ⟨n, rfl⟩ := Int.eq_ofNat_of_zero_le h
  obtain ⟨k, rfl⟩ := Int.eq_ofNat_of_zero_le h0
  rw [st_nat n k (by omega), st_nat _ k (by omega), Nat.or_assoc, Nat.or_self]
set_option maxRecDepth 100000 in
theorem st_comm {e w v : Int} (h : 0 ≤ e) (h0 : 0 ≤ w) (h1 : w < 16) (h2 : 0 ≤ v) (h3 : v < 16) : st (st e w) v = st (st e v) w := by
  obtain ⟨n, rfl⟩ := Int.eq_ofNat_of_zero_le h
  obtain ⟨k, rfl⟩ := Int.eq_ofNat_of_zero_le h0
  obtain ⟨j, rfl⟩ := Int.eq_ofNat_of_zero_le h2
  rw [st_nat n k (by omega), st_nat n j (by omega), st_nat _ j (by omega), st_nat _ k (by omega), Nat.or_assoc, Nat.or_assoc, Nat.or_comm (2 ^ k)]
set_option maxRecDepth 100000 in
theorem st_epoch (e w : Int) : st e w / 65536 = e / 65536 := by
  unfold st
  split
  · rename_i c
    obtain ⟨k, rfl⟩ := Int.eq_ofNat_of_zero_le c.1
    have hk : k < 16 := by omega
    obtain ⟨_, _, c⟩ := c
    rw [Int.toNat_natCast] at *
    rcases pow_cases hk with rfl | rfl | rfl | rfl | rfl | rfl | rfl | rfl | rfl | rfl | rfl | rfl | rfl | rfl | rfl | rfl <;> simp at * <;> omega
  · rfl
set_option maxRecDepth 100000 in
/-- A bit is set, if setting it changes nothing. -/
theorem st_has (e : Int) (k : Nat) (hk : k < 16) : (st e k == e) = decide (e % 65536 / 2 ^ k % 2 = 1) := by
  rw [bit_mask e k hk]
  have hp := pow_lt hk
  unfold st
  rw [Int.toNat_natCast, Bool.eq_iff_iff]
  simp only [beq_iff_eq, decide_eq_true_eq]
  split <;> omega
/-- One step of one who waits. -/
def waitS (W D J S : Int) (m : List Int) (f : Fr) : List Int × Fr :=
  if goes W D J S m f 5 5 = true then
    if f.pc = 0 then (m, { f with x := at0 m 2, pc := 1 })
    else if f.pc = 1 then
      if at0 m 2 / 65536 = f.x / 65536 then (m, { f with y := at0 m 2, pc := 2 }) else (m, ed f 4 0)
    else if f.pc = 2 then
      if at0 m 2 = f.y then (put m 2 (st f.y f.who), { f with pc := 3 }) else (m, { f with pc := 1 })
    else if f.pc = 3 then
      if at0 m (pkI D J f.who) = 0 then (m, { f with y := 0 }) else (m, { f with y := at0 m (pkI D J f.who), pc := 4 })
    else (put m (pkI D J f.who) 0, ed f 1 0)
  else (m, f)
/-- It is parked. -/
def prk (f : Fr) : Bool := decide (f.op = 5) && decide (f.res = 0) && decide (f.pc = 3)
/-- Worker w waits. -/
def wts (W D J S : Int) (m : List Int) (w : Int) : Bool := okw W D J S m w && (st (at0 m 2) w == at0 m 2)
set_option maxRecDepth 100000 in
theorem waitS_len (W D J S : Int) (m : List Int) (f : Fr) : (waitS W D J S m f).1.length = m.length := by
  unfold waitS
  repeat' split
  all_goals simp [len_put]
set_option maxRecDepth 100000 in
theorem waitS_U {W D J S : Int} {m : List Int} {f : Fr} (hm : UM m) (hf : UF f) : UM (waitS W D J S m f).1 ∧ UF (waitS W D J S m f).2 := by
  obtain ⟨h1, h2, h3⟩ := hf
  have z : U 0 := by unfold U; omega
  unfold waitS
  repeat' split
  · exact ⟨hm, h1, at0_U hm 2, h3⟩
  · exact ⟨hm, h1, h2, at0_U hm 2⟩
  · exact ⟨hm, z, z, z⟩
  · exact ⟨put_U hm 2 (st_u f.y f.who h3), h1, h2, h3⟩
  · exact ⟨hm, h1, h2, h3⟩
  · exact ⟨hm, h1, h2, z⟩
  · exact ⟨hm, h1, h2, at0_U hm (pkI D J f.who)⟩
  · exact ⟨put_U hm (pkI D J f.who) z, z, z, z⟩
  · exact ⟨hm, h1, h2, h3⟩
set_option maxRecDepth 100000 in
theorem waitS_over {W D J S : Int} {m : List Int} {f : Fr} (h : f.res ≠ 0) : waitS W D J S m f = (m, f) := by
  unfold waitS
  rw [if_neg]
  intro h'
  exact h (goes_iff.1 h').2.1
set_option maxRecDepth 100000 in
theorem waitS_who (W D J S : Int) (m : List Int) (f : Fr) : (waitS W D J S m f).2.who = f.who := by
  unfold waitS
  repeat' split
  all_goals rfl
section
variable {W D J S : Int} {m : List Int} {w v x y : Int}
set_option maxRecDepth 100000 in
theorem waitS_0 (h : okw W D J S m w = true) : waitS W D J S m ⟨5, 0, w, v, x, y, 0⟩ = (m, ⟨5, 1, w, v, at0 m 2, y, 0⟩) := by
  unfold waitS
  rw [if_pos (goes_iff.2 ⟨h, rfl, rfl, by simp, by simp⟩), if_pos rfl]
set_option maxRecDepth 100000 in
theorem waitS_1 (h : okw W D J S m w = true) : waitS W D J S m ⟨5, 1, w, v, x, y, 0⟩ = if at0 m 2 / 65536 = x / 65536 then (m, ⟨5, 2, w, v, x, at0 m 2, 0⟩) else (m, ⟨5, 0, w, 0, 0, 0, 4⟩) := by
  unfold waitS
  rw [if_pos (goes_iff.2 ⟨h, rfl, rfl, by simp, by simp⟩), if_neg (by simp), if_pos rfl]; rfl
set_option maxRecDepth 100000 in
theorem waitS_2 (h : okw W D J S m w = true) : waitS W D J S m ⟨5, 2, w, v, x, y, 0⟩ = if at0 m 2 = y then (put m 2 (st y w), ⟨5, 3, w, v, x, y, 0⟩) else (m, ⟨5, 1, w, v, x, y, 0⟩) := by
  unfold waitS
  rw [if_pos (goes_iff.2 ⟨h, rfl, rfl, by simp, by simp⟩), if_neg (by simp), if_neg (by simp), if_pos rfl]
set_option maxRecDepth 100000 in
theorem waitS_3 (h : okw W D J S m w = true) : waitS W D J S m ⟨5, 3, w, v, x, y, 0⟩ = if at0 m (pkI D J w) = 0 then (m, ⟨5, 3, w, v, x, 0, 0⟩) else (m, ⟨5, 4, w, v, x, at0 m (pkI D J w), 0⟩) := by
  unfold waitS
  rw [if_pos (goes_iff.2 ⟨h, rfl, rfl, by simp, by simp⟩), if_neg (by simp), if_neg (by simp), if_neg (by simp), if_pos rfl]
set_option maxRecDepth 100000 in
theorem waitS_4 (h : okw W D J S m w = true) : waitS W D J S m ⟨5, 4, w, v, x, y, 0⟩ = (put m (pkI D J w) 0, ⟨5, 0, w, 0, 0, 0, 1⟩) := by
  unfold waitS
  rw [if_pos (goes_iff.2 ⟨h, rfl, rfl, by simp, by simp⟩), if_neg (by simp), if_neg (by simp), if_neg (by simp), if_neg (by simp)]; rfl
end
set_option maxRecDepth 100000 in
theorem waitS_stay {W D J S : Int} {m : List Int} {f : Fr} (h : goes W D J S m f 5 5 = false) : waitS W D J S m f = (m, f) := by
  unfold waitS; rw [h]; rfl
set_option maxRecDepth 100000 in
theorem goes_begun {W D J S : Int} {m : List Int} {w : Int} : goes W D J S m (fbg 5 w 0) 5 5 = okw W D J S m w := by
  unfold goes fbg; simp
set_option maxRecDepth 100000 in
/-- Three steps, alone, where the park cell is 0. -/
theorem wait_3 {W D J S : Int} {m : List Int} {w : Int} (h : okw W D J S m w = true) :
    itN (waitS W D J S) 3 (m, fbg 5 w 0) = (put m 2 (st (at0 m 2) w), ⟨5, 3, w, 0, at0 m 2, at0 m 2, 0⟩) := by
  have e1 : itN (waitS W D J S) 1 (m, fbg 5 w 0) = (m, ⟨5, 1, w, 0, at0 m 2, 0, 0⟩) := waitS_0 (v := 0) (x := 0) (y := 0) h
  have e2 := itN_one e1
  rw [waitS_1 h, if_pos rfl] at e2
  have e3 := itN_one e2
  rw [waitS_2 h, if_pos rfl] at e3
  exact e3
set_option maxRecDepth 100000 in
/-- Where the cells differ behind a step of waiting. -/
theorem waitS_cells {W D J S : Int} {m : List Int} {f : Fr} {k : Nat} (h : ¬ at0 (waitS W D J S m f).1 k = at0 m k) :
    goes W D J S m f 5 5 = true ∧ (f.pc = 2 ∧ (k : Int) = 2 ∧ at0 (waitS W D J S m f).1 k = st (at0 m k) f.who ∧ (waitS W D J S m f).2.pc = 3 ∨ f.pc = 4 ∧ (k : Int) = pkI D J f.who ∧ at0 (waitS W D J S m f).1 k = 0) := by
  by_cases hg : goes W D J S m f 5 5 = true
  · obtain ⟨hk, hr, ho, h0, h4⟩ := goes_iff.1 hg
    have hlong := okw_long hk
    have hq := pkI_lim hk
    refine ⟨hg, ?_⟩
    unfold waitS at h ⊢
    rw [if_pos hg] at h ⊢
    have hput : ∀ (i u : Int), ¬ at0 (put m i u) k = at0 m k → (k : Int) = i := fun i u h2 => by
      by_cases e : (k : Int) = i
      · exact e
      · exact absurd (at0_put_ne m u (fun e2 => e e2.symm)) h2
    split at h
    · exact absurd rfl h
    · split at h
      · split at h <;> exact absurd rfl h
      · split at h
        · split at h
          · rename_i c0 c1 c2 hx
            dsimp only at h
            have e := hput _ _ h
            rw [if_neg c0, if_neg c1, if_pos c2, if_pos hx]
            exact .inl ⟨c2, e, by rw [e, at0_put _ (by omega) (by omega), hx], rfl⟩
          · exact absurd rfl h
        · split at h
          · split at h <;> exact absurd rfl h
          · rename_i c0 c1 c2 c3
            dsimp only at h
            have e := hput _ _ h
            rw [if_neg c0, if_neg c1, if_neg c2, if_neg c3]
            exact .inr ⟨by omega, e, by rw [e, at0_put _ (by omega) (by omega)]⟩
  · exfalso
    apply h
    rw [waitS_stay (by simpa using hg)]
set_option maxRecDepth 100000 in
/-- Where the cells differ: at one place, or at none. -/
theorem wcells_dif (W D J S : Int) (m : List Int) (f : Fr) : ∃ dif : Int, (∀ k : Nat, k < m.length → (¬ at0 (waitS W D J S m f).1 k = at0 m k ↔ (k : Int) = dif)) ∧ (dif = -1 ∨ (0 ≤ dif ∧ dif < m.length ∧ goes W D J S m f 5 5 = true ∧ (f.pc = 2 ∧ dif = 2 ∧ at0 (waitS W D J S m f).1 2 = st (at0 m 2) f.who ∧ (waitS W D J S m f).2.pc = 3 ∨ f.pc = 4 ∧ dif = pkI D J f.who ∧ at0 (waitS W D J S m f).1 dif = 0))) := by
  by_cases h : ∃ k : Nat, k < m.length ∧ ¬ at0 (waitS W D J S m f).1 k = at0 m k
  · obtain ⟨k, hk, hd⟩ := h
    obtain ⟨hg, hc⟩ := waitS_cells hd
    refine ⟨(k : Int), fun i hi => ⟨fun hi2 => ?_, fun e => ?_⟩, .inr ⟨by omega, by omega, hg, ?_⟩⟩
    · obtain ⟨_, hc2⟩ := waitS_cells hi2
      omega
    · have : i = k := by omega
      subst this; exact hd
    · rcases hc with ⟨a, b, c, d⟩ | c
      · rw [b] at c
        exact .inl ⟨a, b, c, d⟩
      · exact .inr c
  · exact ⟨-1, fun i hi => ⟨fun h2 => absurd ⟨i, hi, h2⟩ h, fun e => by omega⟩, .inl rfl⟩
end Go.Proofs.Ytgemaeibmgkneaa
