/- Merged: WtM, WtT, NtM, EvM. -/
import Derived.Test.YtlpkccpijloidaaGreatDqB2
namespace Go.Proofs.YtlpkccpijloidaaGreat
set_option maxRecDepth 100000
open Go.RowKit Go.Deep
/-- The place of a worker's park cell. -/
def pkI (D J w : Int) : Int := bg D J w + 2
theorem pkI_lim {W D J S : Int} {m : List Int} {w : Int} (h : okw W D J S m w = true) : 10 ≤ pkI D J w ∧ pkI D J w < m.length := by
  obtain ⟨hm, hl, h0, h1⟩ := okw_iff.1 h
  obtain ⟨hW, hD, hJ, hS⟩ := may_lim hm
  have e1 := bg_ge (D := D) (J := J) hD.1 hJ.1 h0
  have e2 := bg_step (D := D) (J := J) hD.1 h1
  unfold pkI
  omega
theorem pkI_ow {W D J S : Int} {m : List Int} {w : Int} (h : okw W D J S m w = true) : ow W D J S w 2 = pkI D J w := by
  obtain ⟨hm, hl, h0, h1⟩ := okw_iff.1 h
  unfold ow pkI
  rw [hm, show wi w 0 (W - 1) = true from wi_true.2 ⟨h0, by omega⟩]
  rfl
theorem okw_long {W D J S : Int} {m : List Int} {w : Int} (h : okw W D J S m w = true) : 10 < m.length := by
  have := pkI_lim h; omega
theorem st_nat (n k : Nat) (hk : k < 16) : st (n : Int) k = ((n ||| 2 ^ k : Nat) : Int) := by
  unfold st
  rw [Int.toNat_natCast]
  by_cases hb : n / 2 ^ k % 2 = 0
  · rw [if_pos ⟨by omega, by omega, by exact_mod_cast hb⟩, nat_or_set n k hb, Int.natCast_add]; simp
  · rw [if_neg (fun hh => hb (by exact_mod_cast hh.2.2)), nat_or_has n k (by omega)]
theorem st_epoch (e w : Int) : st e w / 65536 = e / 65536 := by
  unfold st
  split
  · rename_i c
    obtain ⟨k, rfl⟩ := Int.eq_ofNat_of_zero_le c.1
    have hk : k < 16 := by omega
    obtain ⟨_, _, c⟩ := c
    rw [Int.toNat_natCast] at *
    rcases pow_cases hk with rfl | rfl | rfl | rfl | rfl | rfl | rfl | rfl | rfl | rfl | rfl | rfl | rfl | rfl | rfl | rfl <;> simp at * <;> omega
  · rfl
/-- A bit is set, if setting it changes nothing. -/
theorem st_has (e : Int) (k : Nat) (hk : k < 16) : (st e k == e) = decide (e % 65536 / 2 ^ k % 2 = 1) := by
  rw [bit_mask e k hk]
  have hp := pow_lt hk
  unfold st
  rw [Int.toNat_natCast, Bool.eq_iff_iff]
  simp only [beq_iff_eq, decide_eq_true_eq]
  split <;> omega
/-- One step of one who waits. -/
def waitS (W D J S : Int) (m : List Int) (f : Fr) : List Int × Fr :=
  if goes W D J S m f 5 5 = true then
    if f.pc = 0 then (m, { f with x := at0 m 2, pc := 1 })
    else if f.pc = 1 then
      if at0 m 2 / 65536 = f.x / 65536 then (m, { f with y := at0 m 2, pc := 2 }) else (m, ed f 4 0)
    else if f.pc = 2 then
      if at0 m 2 = f.y then (put m 2 (st f.y f.who), { f with pc := 3 }) else (m, { f with pc := 1 })
    else if f.pc = 3 then
      if at0 m (pkI D J f.who) = 0 then (m, { f with y := 0 }) else (m, { f with y := at0 m (pkI D J f.who), pc := 4 })
    else (put m (pkI D J f.who) 0, ed f 1 0)
  else (m, f)
/-- It is parked. -/
def prk (f : Fr) : Bool := decide (f.op = 5) && decide (f.res = 0) && decide (f.pc = 3)
/-- Worker w waits. -/
def wts (W D J S : Int) (m : List Int) (w : Int) : Bool := okw W D J S m w && (st (at0 m 2) w == at0 m 2)
theorem waitS_len (W D J S : Int) (m : List Int) (f : Fr) : (waitS W D J S m f).1.length = m.length := by
  unfold waitS
  repeat' split
  all_goals simp [len_put]
section
variable {W D J S : Int} {m : List Int} {w v x y : Int}
theorem waitS_0 (h : okw W D J S m w = true) : waitS W D J S m ⟨5, 0, w, v, x, y, 0⟩ = (m, ⟨5, 1, w, v, at0 m 2, y, 0⟩) := by
  unfold waitS
  rw [if_pos (goes_iff.2 ⟨h, rfl, rfl, by simp, by simp⟩), if_pos rfl]
theorem waitS_1 (h : okw W D J S m w = true) : waitS W D J S m ⟨5, 1, w, v, x, y, 0⟩ = if at0 m 2 / 65536 = x / 65536 then (m, ⟨5, 2, w, v, x, at0 m 2, 0⟩) else (m, ⟨5, 0, w, 0, 0, 0, 4⟩) := by
  unfold waitS
  rw [if_pos (goes_iff.2 ⟨h, rfl, rfl, by simp, by simp⟩), if_neg (by simp), if_pos rfl]; rfl
theorem waitS_2 (h : okw W D J S m w = true) : waitS W D J S m ⟨5, 2, w, v, x, y, 0⟩ = if at0 m 2 = y then (put m 2 (st y w), ⟨5, 3, w, v, x, y, 0⟩) else (m, ⟨5, 1, w, v, x, y, 0⟩) := by
  unfold waitS
  rw [if_pos (goes_iff.2 ⟨h, rfl, rfl, by simp, by simp⟩), if_neg (by simp), if_neg (by simp), if_pos rfl]
theorem waitS_3 (h : okw W D J S m w = true) : waitS W D J S m ⟨5, 3, w, v, x, y, 0⟩ = if at0 m (pkI D J w) = 0 then (m, ⟨5, 3, w, v, x, 0, 0⟩) else (m, ⟨5, 4, w, v, x, at0 m (pkI D J w), 0⟩) := by
  unfold waitS
  rw [if_pos (goes_iff.2 ⟨h, rfl, rfl, by simp, by simp⟩), if_neg (by simp), if_neg (by simp), if_neg (by simp), if_pos rfl]
theorem waitS_4 (h : okw W D J S m w = true) : waitS W D J S m ⟨5, 4, w, v, x, y, 0⟩ = (put m (pkI D J w) 0, ⟨5, 0, w, 0, 0, 0, 1⟩) := by
  unfold waitS
  rw [if_pos (goes_iff.2 ⟨h, rfl, rfl, by simp, by simp⟩), if_neg (by simp), if_neg (by simp), if_neg (by simp), if_neg (by simp)]; rfl
end
theorem waitS_stay {W D J S : Int} {m : List Int} {f : Fr} (h : goes W D J S m f 5 5 = false) : waitS W D J S m f = (m, f) := by
  unfold waitS; rw [h]; rfl
end Go.Proofs.YtlpkccpijloidaaGreat
namespace Go.Proofs.YtlpkccpijloidaaGreat
set_option maxRecDepth 100000
open Go.RowKit Go.Deep
end Go.Proofs.YtlpkccpijloidaaGreat
namespace Go.Proofs.YtlpkccpijloidaaGreat
set_option maxRecDepth 100000
open Go.RowKit Go.Deep
/-- A wake goes on. -/
def goesN (W D J S : Int) (m : List Int) (f : Fr) : Bool := okm W D J S m && decide (f.res = 0) && (decide (f.op = 6) || decide (f.op = 7)) && decide (0 ≤ f.pc) && decide (f.pc < 3)
theorem goesN_iff {W D J S : Int} {m : List Int} {f : Fr} : goesN W D J S m f = true ↔ okm W D J S m = true ∧ f.res = 0 ∧ (f.op = 6 ∨ f.op = 7) ∧ 0 ≤ f.pc ∧ f.pc < 3 := by
  unfold goesN
  simp only [Bool.and_eq_true, Bool.or_eq_true, decide_eq_true_eq]
  constructor
  · rintro ⟨⟨⟨⟨a, b⟩, c⟩, d⟩, e⟩; exact ⟨a, b, c, d, e⟩
  · rintro ⟨a, b, c, d, e⟩; exact ⟨⟨⟨⟨a, b⟩, c⟩, d⟩, e⟩
/-- The event's word behind a wake, and whom that wakes. -/
def nxN (op e : Int) : Int := if op = 6 then bp e else pk (e / 65536 + 1) 0
def whN (op e : Int) : Int := if op = 6 then lw e % 18446744073709551616 else e % 65536
/-- One step of a wake. -/
def noteS (W D J S : Int) (m : List Int) (f : Fr) : List Int × Fr :=
  if goesN W D J S m f = true then
    if f.pc = 0 then (m, { f with x := at0 m 2, pc := 1 })
    else if f.pc = 1 then
      if at0 m 2 = f.x then (put m 2 (nxN f.op f.x), if f.x % 65536 = 0 then ed f 3 0 else { f with y := whN f.op f.x, pc := 2 }) else (m, { f with pc := 0 })
    else if f.op = 6 then (put m (ow W D J S (wrap64 f.y) 2) 1, ed f 1 f.y)
    else (put m (ow W D J S (lw f.y) 2) 1, if rs f.y = 0 then ed f 1 (f.x % 65536) else { f with y := rs f.y })
  else (m, f)
/-- Worker w is owed a wake. -/
def owesN (f : Fr) (w : Int) : Bool := decide (f.res = 0) && decide (f.pc = 2) && (decide (0 ≤ w) && decide (w < 16)) && (if f.op = 6 then f.y == w else if f.op = 7 then st f.y w == f.y else false)
theorem noteS_len (W D J S : Int) (m : List Int) (f : Fr) : (noteS W D J S m f).1.length = m.length := by
  unfold noteS
  repeat' split
  all_goals simp [len_put]
theorem nxN_u (op e : Int) : U (nxN op e) := by
  unfold nxN
  split
  · exact bp_u _
  · exact pk_u _ _
theorem whN_u (op e : Int) : U (whN op e) := by
  unfold whN U
  split <;> omega
theorem rs_u (e : Int) : U (rs e) := by
  have := rs_range e
  unfold U; omega
theorem noteS_stay {W D J S : Int} {m : List Int} {f : Fr} (h : goesN W D J S m f = false) : noteS W D J S m f = (m, f) := by
  unfold noteS; rw [h]; rfl
section
variable {W D J S : Int} {m : List Int} {w v x y o : Int}
theorem noteS_0 (h : okm W D J S m = true) (ho : o = 6 ∨ o = 7) : noteS W D J S m ⟨o, 0, w, v, x, y, 0⟩ = (m, ⟨o, 1, w, v, at0 m 2, y, 0⟩) := by
  unfold noteS
  rw [if_pos (goesN_iff.2 ⟨h, rfl, ho, by simp, by simp⟩), if_pos rfl]
theorem noteS_1 (h : okm W D J S m = true) (ho : o = 6 ∨ o = 7) (hx : at0 m 2 = x) : noteS W D J S m ⟨o, 1, w, v, x, y, 0⟩ = (put m 2 (nxN o x), if x % 65536 = 0 then ⟨o, 0, w, 0, 0, 0, 3⟩ else ⟨o, 2, w, v, x, whN o x, 0⟩) := by
  unfold noteS
  rw [if_pos (goesN_iff.2 ⟨h, rfl, ho, by simp, by simp⟩), if_neg (by simp), if_pos rfl, if_pos hx]
  simp only [ed]
theorem noteS_1n (h : okm W D J S m = true) (ho : o = 6 ∨ o = 7) (hx : ¬ at0 m 2 = x) : noteS W D J S m ⟨o, 1, w, v, x, y, 0⟩ = (m, ⟨o, 0, w, v, x, y, 0⟩) := by
  unfold noteS
  rw [if_pos (goesN_iff.2 ⟨h, rfl, ho, by simp, by simp⟩), if_neg (by simp), if_pos rfl, if_neg hx]
theorem noteS_26 (h : okm W D J S m = true) : noteS W D J S m ⟨6, 2, w, v, x, y, 0⟩ = (put m (ow W D J S (wrap64 y) 2) 1, ⟨6, 0, w, y, 0, 0, 1⟩) := by
  unfold noteS
  rw [if_pos (goesN_iff.2 ⟨h, rfl, .inl rfl, by simp, by simp⟩), if_neg (by simp), if_neg (by simp), if_pos rfl]; rfl
theorem noteS_27 (h : okm W D J S m = true) : noteS W D J S m ⟨7, 2, w, v, x, y, 0⟩ = (put m (ow W D J S (lw y) 2) 1, if rs y = 0 then ⟨7, 0, w, x % 65536, 0, 0, 1⟩ else ⟨7, 2, w, v, x, rs y, 0⟩) := by
  unfold noteS
  rw [if_pos (goesN_iff.2 ⟨h, rfl, .inr rfl, by simp, by simp⟩), if_neg (by simp), if_neg (by simp), if_neg (by simp)]; rfl
end
theorem okm_of {W D J S : Int} {m : List Int} {w : Int} (h : okw W D J S m w = true) : okm W D J S m = true := by
  obtain ⟨a, b, _, _⟩ := okw_iff.1 h
  exact okm_iff.2 ⟨a, b⟩
theorem okw_of {W D J S : Int} {m : List Int} {w : Int} (h : okm W D J S m = true) (h0 : 0 ≤ w) (h1 : w < W) : okw W D J S m w = true := by
  obtain ⟨a, b⟩ := okm_iff.1 h
  exact okw_iff.2 ⟨a, b, h0, h1⟩
theorem okm_long10 {W D J S : Int} {m : List Int} (h : okm W D J S m = true) : 10 < m.length := by
  obtain ⟨a, _⟩ := okm_iff.1 h
  exact okw_long (okw_of (w := 0) h (Int.le_refl _) (by have := (may_lim a).1; omega))
/-- Where the park cell of anybody lies: nowhere, or at a worker's. -/
theorem ow_cases {W D J S : Int} {m : List Int} (h : okm W D J S m = true) (w : Int) : ow W D J S w 2 = -1 ∧ ¬ (0 ≤ w ∧ w < W) ∨ okw W D J S m w = true ∧ ow W D J S w 2 = pkI D J w := by
  by_cases hw : 0 ≤ w ∧ w < W
  · have := okw_of h hw.1 hw.2
    exact .inr ⟨this, pkI_ow this⟩
  · refine .inl ⟨?_, hw⟩
    unfold ow
    rw [show wi w 0 (W - 1) = false from wi_false.2 (by omega)]
    simp
theorem pkI_inj {W D J S : Int} {m : List Int} {w v : Int} (h1 : okw W D J S m w = true) (h : pkI D J w = pkI D J v) : w = v := by
  obtain ⟨hm, _, _, _⟩ := okw_iff.1 h1
  obtain ⟨hW, hD, hJ, hS⟩ := may_lim hm
  unfold pkI at h
  rcases Int.lt_trichotomy w v with c | c | c
  · have := bg_step (J := J) hD.1 c; omega
  · exact c
  · have := bg_step (J := J) hD.1 c; omega
/-- What lies in a worker's park cell behind a wake of anybody. -/
theorem at0_woken {W D J S : Int} {m : List Int} {w : Int} (h : okw W D J S m w = true) (v : Int) : at0 (put m (ow W D J S v 2) 1) (pkI D J w) = if v = w then 1 else at0 m (pkI D J w) := by
  have hp := pkI_lim h
  rcases ow_cases (okm_of h) v with ⟨e, hn⟩ | ⟨hv, e⟩
  · have hw := okw_iff.1 h
    rw [e, put_out _ (.inl (by omega)), if_neg]
    rintro rfl
    exact hn ⟨hw.2.2.1, hw.2.2.2⟩
  · rw [e]
    by_cases c : v = w
    · subst c
      rw [at0_put _ (by omega) hp.2, if_pos rfl]
    · rw [at0_put_ne _ _ (fun hh => c (pkI_inj hv hh)), if_neg c]
theorem at0_event {W D J S : Int} {m : List Int} (h : okm W D J S m = true) (v : Int) : at0 (put m (ow W D J S v 2) 1) 2 = at0 m 2 := by
  rcases ow_cases h v with ⟨e, hn⟩ | ⟨hv, e⟩
  · rw [e, put_out _ (.inl (by omega))]
  · have := pkI_lim hv
    rw [e, at0_put_ne _ _ (by omega)]
/-- Numbers without one bit, bit by bit. -/
theorem nat_bit_less {n k j : Nat} (h : n / 2 ^ k % 2 = 1) : (n - 2 ^ k) / 2 ^ j % 2 = 1 ↔ (n / 2 ^ j % 2 = 1 ∧ k ≠ j) := by
  obtain ⟨_, h2, h3⟩ := nat_less_or n k h
  have tb : ∀ a i : Nat, a.testBit i = decide (a / 2 ^ i % 2 = 1) := fun a i => by rw [Nat.testBit_eq_decide_div_mod_eq]
  by_cases c : k = j
  · subst c
    constructor
    · intro h4; omega
    · rintro ⟨_, h4⟩; exact absurd rfl h4
  · have := congrArg (fun a : Nat => a.testBit j) h3
    simp only [Nat.testBit_or, Nat.testBit_two_pow_of_ne c, Bool.or_false] at this
    rw [tb, tb] at this
    have h5 : ((n - 2 ^ k) / 2 ^ j % 2 = 1) ↔ (n / 2 ^ j % 2 = 1) := by simpa using this
    rw [h5]
    exact ⟨fun a => ⟨a, c⟩, fun a => a.1⟩
theorem rs_bit (e : Int) (j : Nat) (hj : j < 16) : rs e / 2 ^ j % 2 = 1 ↔ (e / 2 ^ j % 2 = 1 ∧ lw e ≠ j) := by
  rw [← bit_mask e j hj]
  have hl := lw_mask e
  have hm : 0 ≤ e % 65536 ∧ e % 65536 < 65536 := by omega
  unfold rs
  rw [← hl]
  generalize e % 65536 = y at hm
  obtain ⟨n, rfl⟩ := Int.eq_ofNat_of_zero_le hm.1
  rcases lw_cases (n : Int) with ⟨h1, h2⟩ | ⟨k, hk, h1, h2, h3⟩
  · rw [h1]
    have : n = 0 := by omega
    subst this
    simp
  · rw [h1, if_pos (by omega), Int.toNat_natCast]
    have hb : n / 2 ^ k % 2 = 1 := by exact_mod_cast h2
    have hle : 2 ^ k ≤ n := (nat_less_or n k hb).1
    rw [show ((n : Int) - 2 ^ k) = ((n - 2 ^ k : Nat) : Int) by rw [Int.natCast_sub hle]; simp]
    have e1 := nat_bit_less (j := j) hb
    constructor
    · intro h4
      obtain ⟨a, b⟩ := e1.1 (by exact_mod_cast h4)
      exact ⟨by exact_mod_cast a, by omega⟩
    · rintro ⟨a, b⟩
      exact_mod_cast e1.2 ⟨by exact_mod_cast a, by omega⟩
theorem nxN_epoch (o e : Int) : nxN o e / 65536 = (e / 65536 + 1) % 281474976710656 := by
  unfold nxN
  split
  · exact bp_epoch e
  · unfold pk; omega
theorem nxN_mask6 (e : Int) : nxN 6 e % 65536 = rs e := by unfold nxN; rw [if_pos rfl]; exact bp_mask e
theorem nxN_mask7 (e : Int) : nxN 7 e % 65536 = 0 := by unfold nxN pk; rw [if_neg (by simp)]; omega
end Go.Proofs.YtlpkccpijloidaaGreat
namespace Go.Proofs.YtlpkccpijloidaaGreat
set_option maxRecDepth 100000
open Go.RowKit Go.Deep
/-- Nobody's call. -/
def fnE : Fr := ⟨-1, 0, 0, 0, 0, 0, 0⟩
theorem getE_eq {a : List Fr} {i : Nat} (h : i < a.length) (x d : Fr) : (a.set i x).getD i d = x := by
  rw [List.getD_eq_getElem?_getD, List.getElem?_set_self h]; rfl
theorem getE_ne {a : List Fr} {i j : Nat} (h : i ≠ j) (x d : Fr) : (a.set i x).getD j d = a.getD j d := by
  rw [List.getD_eq_getElem?_getD, List.getElem?_set_ne h, ← List.getD_eq_getElem?_getD]
theorem countE_set {a : List Fr} {i : Nat} (hi : i < a.length) (p : Fr → Bool) (g : Fr) : (a.set i g).countP p + (if p (a.getD i fnE) = true then 1 else 0) = a.countP p + (if p g = true then 1 else 0) := by
  induction a generalizing i with
  | nil => simp at hi
  | cons f a ih =>
    cases i with
    | zero =>
      simp only [List.set_cons_zero, List.countP_cons, List.getD_cons_zero]
      omega
    | succ i =>
      have := ih (i := i) (by simpa using hi)
      simp only [List.set_cons_succ, List.countP_cons, List.getD_cons_succ]
      omega
/-- A step, by the call's Op. -/
def evS (W D J S : Int) (m : List Int) (f : Fr) : List Int × Fr := if f.op = 5 then waitS W D J S m f else noteS W D J S m f
theorem evS_len (W D J S : Int) (m : List Int) (f : Fr) : (evS W D J S m f).1.length = m.length := by
  unfold evS; split
  · exact waitS_len _ _ _ _ _ _
  · exact noteS_len _ _ _ _ _ _
/-- What a play has: the cells, the calls at hand, those that are over, and what is left of the lists. -/
structure PE where
  m : List Int
  a : List Fr
  over : List Fr
  left : List (List Int)
/-- Is it an Op that waits, or wakes? -/
def isEv (o : Int) : Bool := decide (5 ≤ o) && decide (o ≤ 7)
/-- The next call of a list (or none), and what is left of it then. -/
def nxtE (i : Int) : List Int → Fr × List Int
  | [] => (fnE, [])
  | o :: r => if isEv o = true then (fbg o i 0, r) else nxtE i r
/-- A call begins, if none is at hand. -/
def begE (s : PE) (i : Nat) : PE :=
  if (s.a.getD i fnE).op = -1 then { s with a := s.a.set i (nxtE i (s.left.getD i [])).1, left := s.left.set i (nxtE i (s.left.getD i [])).2 } else s
/-- One step of one who is at it. -/
def stepE (W : Int) (s : PE) (i : Nat) : PE :=
  if (evS W 1 1 0 s.m (s.a.getD i fnE)).2.res = 0 then ⟨(evS W 1 1 0 s.m (s.a.getD i fnE)).1, s.a.set i (evS W 1 1 0 s.m (s.a.getD i fnE)).2, s.over, s.left⟩
  else ⟨(evS W 1 1 0 s.m (s.a.getD i fnE)).1, s.a.set i fnE, s.over ++ [(evS W 1 1 0 s.m (s.a.getD i fnE)).2], s.left⟩
/-- One step, as one number of 'who' tells. -/
def playE1 (n : Nat) (s : PE) (i : Int) : PE := if 0 ≤ i ∧ i < n then stepE n (begE s i.toNat) i.toNat else s
/-- Ahead of all. -/
def startE (calls : List (List Int)) : PE := ⟨List.replicate (sz calls.length 1 1 0).toNat 0, List.replicate calls.length fnE, [], calls⟩
def playE (calls : List (List Int)) (who : List Int) : PE := who.foldl (playE1 calls.length) (startE calls)
/-- Is the bit of w set? Is there a wake for it? Will it notice one? -/
def bitE (m : List Int) (w : Nat) : Nat := if at0 m 2 / 2 ^ w % 2 = 1 then 1 else 0
def prkE (m : List Int) (w : Nat) : Nat := if at0 m (pkI 1 1 w) = 0 then 0 else 1
def owE (a : List Fr) (w : Nat) : Nat := a.countP fun f => owesN f w
def inE (f : Fr) : Nat := if f.op = 5 ∧ 3 ≤ f.pc then 1 else 0
def obE (b : Bool) : Nat := if b = true then 1 else 0
theorem pk11 (w : Int) : pkI 1 1 w = 10 + 4 * w := by unfold pkI bg; omega
theorem okE {n : Nat} {m : List Int} (h : okm n 1 1 0 m = true) : (m.length : Int) = 8 + 4 * n := by
  have := (okm_iff.1 h).2
  unfold bg at this
  omega
theorem prk_out {n : Nat} {m : List Int} (h : okm n 1 1 0 m = true) {w : Nat} (hw : n ≤ w) : at0 m (pkI 1 1 w) = 0 := by
  have := okE h
  exact at0_out (.inr (by rw [pk11]; omega))
theorem prkE_put {n : Nat} {m : List Int} (h : okm n 1 1 0 m = true) {i : Nat} (hi : i < n) (v : Int) (w : Nat) : at0 (put m (pkI 1 1 i) v) (pkI 1 1 w) = if w = i then v else at0 m (pkI 1 1 w) := by
  have hl := okE h
  by_cases c : w = i
  · subst c
    rw [if_pos rfl, pk11]
    exact at0_put _ (by omega) (by omega)
  · rw [if_neg c]
    exact at0_put_ne _ _ (by rw [pk11, pk11]; omega)
theorem prkE_put2 (m : List Int) (v : Int) (w : Nat) : at0 (put m 2 v) (pkI 1 1 w) = at0 m (pkI 1 1 w) := at0_put_ne _ _ (by rw [pk11]; omega)
theorem prkE_ow {n : Nat} {m : List Int} (h : okm n 1 1 0 m = true) (v : Int) (w : Nat) : at0 (put m (ow n 1 1 0 v 2) 1) (pkI 1 1 w) = if v = w ∧ w < n then 1 else at0 m (pkI 1 1 w) := by
  by_cases hw : w < n
  · rw [at0_woken (okw_of h (by omega) (by omega)) v]
    by_cases c : v = w
    · rw [if_pos c, if_pos ⟨c, hw⟩]
    · rw [if_neg c, if_neg (fun hh => c hh.1)]
  · rw [if_neg (fun hh => hw hh.2), prk_out h (by omega), prk_out (okm_put h _ _) (by omega)]
theorem st_bit {e : Int} (he : 0 ≤ e) {k j : Nat} (hk : k < 16) : st e k / 2 ^ j % 2 = 1 ↔ (e / 2 ^ j % 2 = 1 ∨ j = k) := by
  obtain ⟨n, rfl⟩ := Int.eq_ofNat_of_zero_le he
  rw [st_nat n k hk]
  have tb : ∀ a i : Nat, a.testBit i = decide (a / 2 ^ i % 2 = 1) := fun a i => by rw [Nat.testBit_eq_decide_div_mod_eq]
  have h := Nat.testBit_or n (2 ^ k) j
  rw [tb, tb, Nat.testBit_two_pow] at h
  have h2 : ((n ||| 2 ^ k) / 2 ^ j % 2 = 1) ↔ (n / 2 ^ j % 2 = 1 ∨ k = j) := by
    constructor
    · intro h3
      rw [decide_eq_true h3] at h
      rcases Bool.or_eq_true_iff.1 h.symm with h4 | h4
      · exact .inl (of_decide_eq_true h4)
      · exact .inr (of_decide_eq_true h4)
    · intro h3
      have : decide ((n ||| 2 ^ k) / 2 ^ j % 2 = 1) = true := by
        rw [h]
        rcases h3 with h4 | h4
        · simp [h4]
        · simp [h4]
      exact of_decide_eq_true this
  constructor
  · intro h3
    rcases h2.1 (by exact_mod_cast h3) with h4 | h4
    · exact .inl (by exact_mod_cast h4)
    · exact .inr h4.symm
  · intro h3
    have := h2.2 (h3.elim (fun h4 => .inl (by exact_mod_cast h4)) (fun h4 => .inr h4.symm))
    exact_mod_cast this
theorem nx_bitE (o E : Int) (k : Nat) (hk : k < 16) (ho : o = 6 ∨ o = 7) : nxN o E / 2 ^ k % 2 = 1 ↔ (o = 6 ∧ E / 2 ^ k % 2 = 1 ∧ lw E ≠ k) := by
  rw [← bit_mask (nxN o E) k hk]
  rcases ho with rfl | rfl
  · rw [nxN_mask6, rs_bit E k hk]; simp
  · rw [nxN_mask7]; simp
theorem lw_some {e : Int} (h : e % 65536 ≠ 0) : ∃ k : Nat, k < 16 ∧ lw e = k ∧ e / 2 ^ k % 2 = 1 := by
  rcases lw_cases e with ⟨_, h2⟩ | ⟨k, hk, h1, h2, _⟩
  · exact absurd h2 h
  · exact ⟨k, hk, h1, h2⟩
theorem owes_off {f : Fr} {w : Nat} (h : f.pc ≠ 2 ∨ f.op = 5 ∨ f.res ≠ 0 ∨ f.op = -1) : owesN f w = false := by
  unfold owesN
  rcases h with h | h | h | h
  · simp [h]
  · simp [h]
  · simp [h]
  · simp [h]
theorem owes_on6 {q v x y : Int} {w : Nat} (hw : w < 16) : owesN ⟨6, 2, q, v, x, y, 0⟩ w = decide (y = w) := by
  unfold owesN
  have h1 : decide ((0 : Int) ≤ (w : Int)) = true := by simp
  have h2 : decide ((w : Int) < 16) = true := by simp; omega
  rw [h1, h2, Bool.eq_iff_iff]; simp
theorem owes_on7 {q v x y : Int} {w : Nat} (hw : w < 16) : owesN ⟨7, 2, q, v, x, y, 0⟩ w = decide (y / 2 ^ w % 2 = 1) := by
  unfold owesN
  have h1 : decide ((0 : Int) ≤ (w : Int)) = true := by simp
  have h2 : decide ((w : Int) < 16) = true := by simp; omega
  rw [h1, h2]
  simp only [decide_true, Bool.true_and, Bool.and_self, show ¬ ((7 : Int) = 6) by decide, if_false, if_true]
  rw [st_has y w hw, bit_mask y w hw]
/-- A call at hand, in its place. -/
structure FI (m : List Int) (t : Nat) (i : Nat) (f : Fr) : Prop where
  res : f.res = 0
  who : f.who = i
  uf : UF f
  ops : f.op = 5 ∨ f.op = 6 ∨ f.op = 7
  pc0 : 0 ≤ f.pc
  pc5 : f.op = 5 → f.pc < 5
  pc3 : f.op ≠ 5 → f.pc < 3
  ep : f.op = 5 → f.x / 65536 ≤ at0 m 2 / 65536
  p4 : f.op = 5 → f.pc = 4 → at0 m (pkI 1 1 i) = 1
  y6 : f.op = 6 → f.pc = 2 → ∃ k : Nat, k < 16 ∧ f.y = k
  y7 : f.op = 7 → f.pc = 2 → 0 < f.y ∧ f.y < 65536
/-- What holds between two steps, t at most behind the beginning. -/
structure SI (n : Nat) (m : List Int) (a : List Fr) (t : Nat) : Prop where
  n1 : 1 ≤ n
  n8 : n ≤ 8
  ok : okm n 1 1 0 m = true
  um : UM m
  al : a.length = n
  fi : ∀ i, i < n → a.getD i fnE = fnE ∨ FI m t i (a.getD i fnE)
  sg : ∀ w, w < 16 → bitE m w + owE a w + prkE m w = inE (a.getD w fnE)
  pz : ∀ w : Nat, at0 m (pkI 1 1 w) = 0 ∨ at0 m (pkI 1 1 w) = 1
  ep : at0 m 2 / 65536 ≤ t
theorem FI.keep {m m' : List Int} {t t' : Nat} {i : Nat} {f : Fr} (h : FI m t i f) (he : at0 m 2 / 65536 ≤ at0 m' 2 / 65536) (hp : at0 m (pkI 1 1 i) = 1 → at0 m' (pkI 1 1 i) = 1) : FI m' t' i f :=
  ⟨h.res, h.who, h.uf, h.ops, h.pc0, h.pc5, h.pc3, fun e => Int.le_trans (h.ep e) he, fun e1 e2 => hp (h.p4 e1 e2), h.y6, h.y7⟩
/-- One call's place turns, and the cells. -/
theorem SI.upd {n : Nat} {m m' : List Int} {a : List Fr} {t : Nat} (s : SI n m a t) {i : Nat} (hi : i < n) {g : Fr} (ok : okm n 1 1 0 m' = true) (um : UM m') (fi : g = fnE ∨ FI m' (t + 1) i g)
    (he : at0 m 2 / 65536 ≤ at0 m' 2 / 65536) (he' : at0 m' 2 / 65536 ≤ at0 m 2 / 65536 + 1) (hp : ∀ w : Nat, w ≠ i → at0 m (pkI 1 1 w) = 1 → at0 m' (pkI 1 1 w) = 1) (pz : ∀ w : Nat, at0 m' (pkI 1 1 w) = 0 ∨ at0 m' (pkI 1 1 w) = 1)
    (sg : ∀ w, w < 16 → bitE m' w + prkE m' w + obE (owesN g w) + (if w = i then inE (a.getD i fnE) else 0) = bitE m w + prkE m w + obE (owesN (a.getD i fnE) w) + (if w = i then inE g else 0)) : SI n m' (a.set i g) (t + 1) := by
  have hil : i < a.length := by rw [s.al]; exact hi
  refine ⟨s.n1, s.n8, ok, um, by simp [s.al], fun j hj => ?_, fun w hw => ?_, pz, by have := s.ep; omega⟩
  · by_cases c : i = j
    · subst c
      rw [getE_eq hil]; exact fi
    · rw [getE_ne c]
      rcases s.fi j hj with h | h
      · exact .inl h
      · exact .inr (h.keep he (hp j (fun e => c e.symm)))
  · have h1 := s.sg w hw
    have h2 := sg w hw
    have h3 := countE_set hil (fun f => owesN f w) g
    have h4 : inE ((a.set i g).getD w fnE) = if w = i then inE g else inE (a.getD w fnE) := by
      by_cases c : w = i
      · subst c; rw [getE_eq hil, if_pos rfl]
      · rw [getE_ne (fun e => c e.symm), if_neg c]
    rw [h4]
    unfold owE at h1 ⊢
    unfold obE at h2
    by_cases c : w = i
    · subst c
      rw [if_pos rfl] at h2 ⊢
      rw [if_pos rfl] at h2
      omega
    · rw [if_neg c] at h2 ⊢
      rw [if_neg c] at h2
      omega
/-- What a step has done: to whom it is over, and to the park cells. -/
def Did (n : Nat) (m : List Int) (f : Fr) (m' : List Int) (g : Fr) : Prop :=
  g.op = f.op ∧ g.who = f.who ∧ (f.op = 5 → g.res = 0 ∨ g.res = 1 ∨ g.res = 4) ∧ (f.op ≠ 5 → g.res = 0 ∨ g.res = 1 ∨ g.res = 3)
    ∧ (f.op ≠ 7 → (g.res = 1 ∧ ((f.op = 5 ∧ ∃ i : Nat, i < n ∧ f.who = i ∧ at0 m (pkI 1 1 i) = 1 ∧ ∀ w : Nat, at0 m' (pkI 1 1 w) = if w = i then 0 else at0 m (pkI 1 1 w))
        ∨ (f.op = 6 ∧ ∃ k : Nat, k < n ∧ g.val = k ∧ at0 m (pkI 1 1 k) = 0 ∧ ∀ w : Nat, at0 m' (pkI 1 1 w) = if w = k then 1 else at0 m (pkI 1 1 w))))
      ∨ (g.res ≠ 1 ∧ ∀ w : Nat, at0 m' (pkI 1 1 w) = at0 m (pkI 1 1 w)))
/-- What a step leaves of one who is at it. -/
def left1 (g : Fr) : Fr := if g.res = 0 then g else fnE
theorem evS_5 {W D J S : Int} {m : List Int} {f : Fr} (h : f.op = 5) : evS W D J S m f = waitS W D J S m f := by unfold evS; rw [if_pos h]
theorem evS_n {W D J S : Int} {m : List Int} {f : Fr} (h : f.op ≠ 5) : evS W D J S m f = noteS W D J S m f := by unfold evS; rw [if_neg h]
theorem evS_no (W : Int) (m : List Int) : evS W 1 1 0 m fnE = (m, fnE) := by
  rw [evS_n (by decide), noteS_stay]
  unfold goesN fnE
  simp
theorem left1_0 {o p q v x y : Int} : left1 ⟨o, p, q, v, x, y, 0⟩ = ⟨o, p, q, v, x, y, 0⟩ := if_pos rfl
theorem left1_n {o p q v x y r : Int} (h : r ≠ 0) : left1 ⟨o, p, q, v, x, y, r⟩ = fnE := if_neg h
theorem Did.quiet {n : Nat} {m m' : List Int} {o p q v x y p' v' x' y' r : Int} (h5 : o = 5 → r = 0 ∨ r = 4) (h6 : o ≠ 5 → r = 0 ∨ r = 3) (hp : ∀ w : Nat, at0 m' (pkI 1 1 w) = at0 m (pkI 1 1 w)) : Did n m ⟨o, p, q, v, x, y, 0⟩ m' ⟨o, p', q, v', x', y', r⟩ := by
  refine ⟨rfl, rfl, fun h => ?_, fun h => ?_, fun _ => .inr ⟨?_, hp⟩⟩
  · rcases h5 h with h | h
    · exact .inl h
    · exact .inr (.inr h)
  · rcases h6 h with h | h
    · exact .inl h
    · exact .inr (.inr h)
  · show r ≠ 1
    by_cases c : o = 5
    · have := h5 c; omega
    · have := h6 c; omega
section
variable {n : Nat} {m : List Int} {a : List Fr} {t : Nat}
theorem FI.w {i : Nat} {p v x y : Int} (uf : UF ⟨5, p, i, v, x, y, 0⟩) (h0 : 0 ≤ p) (h5 : p < 5) (hep : x / 65536 ≤ at0 m 2 / 65536) (h4 : p = 4 → at0 m (pkI 1 1 i) = 1) : FI m t i ⟨5, p, i, v, x, y, 0⟩ :=
  ⟨rfl, rfl, uf, .inl rfl, h0, fun _ => h5, fun h => absurd rfl h, fun _ => hep, fun _ h => h4 h, fun h => absurd (show (5 : Int) = 6 from h) (by decide), fun h => absurd (show (5 : Int) = 7 from h) (by decide)⟩
theorem FI.nt {i : Nat} {o p v x y : Int} (ho : o = 6 ∨ o = 7) (uf : UF ⟨o, p, i, v, x, y, 0⟩) (h0 : 0 ≤ p) (h3 : p < 3) (y6 : o = 6 → p = 2 → ∃ k : Nat, k < 16 ∧ y = k) (y7 : o = 7 → p = 2 → 0 < y ∧ y < 65536) : FI m t i ⟨o, p, i, v, x, y, 0⟩ :=
  have q5 : o ≠ 5 := by clear y6 y7; omega
  ⟨rfl, rfl, uf, .inr ho, h0, fun h => absurd h q5, fun _ => h3, fun h => absurd h q5, fun h => absurd h q5, y6, y7⟩
theorem SI.same (s : SI n m a t) {i : Nat} (hi : i < n) {g : Fr} (fi : g = fnE ∨ FI m (t + 1) i g) (h : ∀ w : Nat, w < 16 → obE (owesN g w) + (if w = i then inE (a.getD i fnE) else 0) = obE (owesN (a.getD i fnE) w) + (if w = i then inE g else 0)) : SI n m (a.set i g) (t + 1) :=
  s.upd hi s.ok s.um fi (Int.le_refl _) (by omega) (fun _ _ h => h) s.pz (fun w hw => by have := h w hw; omega)
theorem SI.long (s : SI n m a t) : 10 < m.length := okm_long10 s.ok
theorem SI.at (s : SI n m a t) {i : Nat} (hi : i < n) {f : Fr} (hf : a.getD i fnE = f) (ho : f.op ≠ -1) : FI m t i f := by
  rcases s.fi i hi with h | h
  · rw [hf] at h; subst h; exact absurd rfl ho
  · rw [hf] at h; exact h
theorem off5 (p q v x y r : Int) (w : Nat) : owesN ⟨5, p, q, v, x, y, r⟩ w = false := owes_off (.inr (.inl rfl))
theorem offE (w : Nat) : owesN fnE w = false := owes_off (.inr (.inr (.inr rfl)))
theorem in_lo {p q v x y r : Int} (h : p < 3) : inE ⟨5, p, q, v, x, y, r⟩ = 0 := if_neg (fun hh => by have : (3 : Int) ≤ p := hh.2; omega)
theorem in_hi {p q v x y r : Int} (h : 3 ≤ p) : inE ⟨5, p, q, v, x, y, r⟩ = 1 := if_pos ⟨rfl, h⟩
theorem in_no {o p q v x y r : Int} (h : o ≠ 5) : inE ⟨o, p, q, v, x, y, r⟩ = 0 := if_neg (fun hh => h hh.1)
theorem inE_no : inE fnE = 0 := rfl
/-- A step of one who waits. -/
theorem SI.wait (s : SI n m a t) {i : Nat} (hi : i < n) {p v x y : Int} (hf : a.getD i fnE = ⟨5, p, i, v, x, y, 0⟩) :
    ∃ m' g, waitS n 1 1 0 m ⟨5, p, i, v, x, y, 0⟩ = (m', g) ∧ SI n m' (a.set i (left1 g)) (t + 1) ∧ Did n m ⟨5, p, i, v, x, y, 0⟩ m' g := by
  have F := s.at hi hf (by show (5 : Int) ≠ -1; decide)
  have hk := okw_of s.ok (w := i) (by omega) (by omega)
  have hl := s.long
  have z : U 0 := by unfold U; omega
  have uf := F.uf
  have hep : x / 65536 ≤ at0 m 2 / 65536 := F.ep rfl
  have h0 : 0 ≤ p := F.pc0
  have h5 : p < 5 := F.pc5 rfl
  rcases (show p = 0 ∨ p = 1 ∨ p = 2 ∨ p = 3 ∨ p = 4 by omega) with rfl | rfl | rfl | rfl | rfl
  · refine ⟨m, ⟨5, 1, i, v, at0 m 2, y, 0⟩, waitS_0 hk, ?_, Did.quiet (by simp) (by simp) (fun _ => rfl)⟩
    rw [left1_0]
    refine s.same hi (.inr (FI.w ⟨uf.1, at0_U s.um 2, uf.2.2⟩ (by omega) (by omega) (Int.le_refl _) (by omega))) (fun w _ => ?_)
    rw [hf, off5, off5, in_lo (by omega), in_lo (by omega)]
  · by_cases e : at0 m 2 / 65536 = x / 65536
    · refine ⟨m, ⟨5, 2, i, v, x, at0 m 2, 0⟩, (waitS_1 hk).trans (by rw [if_pos e]), ?_, Did.quiet (by simp) (by simp) (fun _ => rfl)⟩
      rw [left1_0]
      refine s.same hi (.inr (FI.w ⟨uf.1, uf.2.1, at0_U s.um 2⟩ (by omega) (by omega) hep (by omega))) (fun w _ => ?_)
      rw [hf, off5, off5, in_lo (by omega), in_lo (by omega)]
    · refine ⟨m, ⟨5, 0, i, 0, 0, 0, 4⟩, (waitS_1 hk).trans (by rw [if_neg e]), ?_, Did.quiet (by simp) (by simp) (fun _ => rfl)⟩
      rw [left1_n (by omega)]
      refine s.same hi (.inl rfl) (fun w _ => ?_)
      rw [hf, off5, offE, in_lo (by omega), inE_no]
  · by_cases e : at0 m 2 = y
    · refine ⟨put m 2 (st y i), ⟨5, 3, i, v, x, y, 0⟩, (waitS_2 hk).trans (by rw [if_pos e]), ?_, Did.quiet (by simp) (by simp) (fun w => prkE_put2 _ _ _)⟩
      rw [left1_0]
      have hev : at0 (put m 2 (st y i)) 2 = st y i := at0_put _ (by omega) (by omega)
      have hee : st y i / 65536 = at0 m 2 / 65536 := by rw [st_epoch, e]
      have hi16 : i < 16 := by have := s.n8; omega
      refine s.upd hi (okm_put s.ok _ _) (put_U s.um 2 (st_u y i uf.2.2)) (.inr (FI.w uf (by omega) (by omega) (by rw [hev, hee]; exact hep) (by omega)))
        (by rw [hev, hee]; omega) (by rw [hev, hee]; omega) (fun w _ h => by rw [prkE_put2]; exact h) (fun w => by rw [prkE_put2]; exact s.pz w) (fun w hw => ?_)
      have hs := s.sg w hw
      rw [hf, off5, off5, in_lo (by omega), in_hi (by omega)]
      have hb : bitE (put m 2 (st y i)) w = if w = i then 1 else bitE m w := by
        unfold bitE
        rw [hev, ← e]
        have := st_bit (e := at0 m 2) (at0_U s.um 2).1 (k := i) (j := w) hi16
        by_cases c : w = i
        · rw [if_pos c, if_pos (this.2 (.inr c))]
        · rw [if_neg c]
          by_cases c2 : at0 m 2 / 2 ^ w % 2 = 1
          · rw [if_pos (this.2 (.inl c2)), if_pos c2]
          · rw [if_neg (fun h => (this.1 h).elim c2 c), if_neg c2]
      have hpk : prkE (put m 2 (st y i)) w = prkE m w := by unfold prkE; rw [prkE_put2]
      rw [hb, hpk]
      by_cases c : w = i
      · subst c
        rw [hf, in_lo (by omega)] at hs
        rw [if_pos rfl, if_pos rfl, if_pos rfl]
        omega
      · rw [if_neg c, if_neg c, if_neg c]
    · refine ⟨m, ⟨5, 1, i, v, x, y, 0⟩, (waitS_2 hk).trans (by rw [if_neg e]), ?_, Did.quiet (by simp) (by simp) (fun _ => rfl)⟩
      rw [left1_0]
      refine s.same hi (.inr (FI.w uf (by omega) (by omega) hep (by omega))) (fun w _ => ?_)
      rw [hf, off5, off5, in_lo (by omega), in_lo (by omega)]
  · by_cases e : at0 m (pkI 1 1 i) = 0
    · refine ⟨m, ⟨5, 3, i, v, x, 0, 0⟩, (waitS_3 hk).trans (by rw [if_pos e]), ?_, Did.quiet (by simp) (by simp) (fun _ => rfl)⟩
      rw [left1_0]
      refine s.same hi (.inr (FI.w ⟨uf.1, uf.2.1, z⟩ (by omega) (by omega) hep (by omega))) (fun w _ => ?_)
      rw [hf, off5, off5, in_hi (by omega), in_hi (by omega)]
    · refine ⟨m, ⟨5, 4, i, v, x, at0 m (pkI 1 1 i), 0⟩, (waitS_3 hk).trans (by rw [if_neg e]), ?_, Did.quiet (by simp) (by simp) (fun _ => rfl)⟩
      rw [left1_0]
      refine s.same hi (.inr (FI.w ⟨uf.1, uf.2.1, at0_U s.um (pkI 1 1 i)⟩ (by omega) (by omega) hep (fun _ => (s.pz i).resolve_left e))) (fun w _ => ?_)
      rw [hf, off5, off5, in_hi (by omega), in_hi (by omega)]
  · have e1 : at0 m (pkI 1 1 i) = 1 := F.p4 rfl rfl
    have hpp := fun w : Nat => prkE_put s.ok hi 0 w
    refine ⟨put m (pkI 1 1 i) 0, ⟨5, 0, i, 0, 0, 0, 1⟩, waitS_4 hk, ?_, rfl, rfl, fun _ => .inr (.inl rfl), fun h => absurd rfl h, fun _ => .inl ⟨rfl, .inl ⟨rfl, i, hi, rfl, e1, hpp⟩⟩⟩
    rw [left1_n (by omega)]
    have hev : at0 (put m (pkI 1 1 i) 0) 2 = at0 m 2 := at0_put_ne _ _ (by rw [pk11]; omega)
    refine s.upd hi (okm_put s.ok _ _) (put_U s.um _ z) (.inl rfl) (by rw [hev]; omega) (by rw [hev]; omega) (fun w hw h => by rw [hpp, if_neg hw]; exact h) (fun w => by rw [hpp]; split; exact .inl rfl; exact s.pz w) (fun w hw => ?_)
    rw [hf, off5, offE, inE_no, in_hi (by omega)]
    have hb : bitE (put m (pkI 1 1 i) 0) w = bitE m w := by unfold bitE; rw [hev]
    rw [hb]
    by_cases c : w = i
    · subst c
      have h1 : prkE (put m (pkI 1 1 w) 0) w = 0 := by unfold prkE; rw [hpp, if_pos rfl, if_pos rfl]
      have h2 : prkE m w = 1 := by unfold prkE; rw [e1]; rfl
      rw [if_pos rfl, if_pos rfl, h1, h2]; omega
    · have h1 : prkE (put m (pkI 1 1 i) 0) w = prkE m w := by unfold prkE; rw [hpp, if_neg c]
      rw [if_neg c, if_neg c, h1]
/-- A step of one who wakes. -/
theorem SI.note (s : SI n m a t) {i : Nat} (hi : i < n) {o p v x y : Int} (ho : o = 6 ∨ o = 7) (hf : a.getD i fnE = ⟨o, p, i, v, x, y, 0⟩) (ht : t < 100000) :
    ∃ m' g, noteS n 1 1 0 m ⟨o, p, i, v, x, y, 0⟩ = (m', g) ∧ SI n m' (a.set i (left1 g)) (t + 1) ∧ Did n m ⟨o, p, i, v, x, y, 0⟩ m' g := by
  have F := s.at hi hf (by show o ≠ -1; omega)
  have hl := s.long
  have z : U 0 := by unfold U; omega
  have one : U 1 := by unfold U; omega
  have uf := F.uf
  have h0 : 0 ≤ p := F.pc0
  have h3 : p < 3 := F.pc3 (by show o ≠ 5; omega)
  have q5 : o ≠ 5 := by omega
  have hue := at0_U s.um 2
  have off : ∀ (p' v' x' y' r' : Int) (w : Nat), p' ≠ 2 → owesN ⟨o, p', i, v', x', y', r'⟩ w = false := fun _ _ _ _ _ w h => owes_off (.inl h)
  rcases (show p = 0 ∨ p = 1 ∨ p = 2 by omega) with rfl | rfl | rfl
  · refine ⟨m, ⟨o, 1, i, v, at0 m 2, y, 0⟩, noteS_0 s.ok ho, ?_, Did.quiet (fun h => absurd h q5) (by simp) (fun _ => rfl)⟩
    rw [left1_0]
    refine s.same hi (.inr (FI.nt ho ⟨uf.1, at0_U s.um 2, uf.2.2⟩ (by omega) (by omega) (by omega) (by omega))) (fun w _ => ?_)
    rw [hf, off _ _ _ _ _ _ (by omega), off _ _ _ _ _ _ (by omega), in_no q5, in_no q5]
  · by_cases e : at0 m 2 = x
    · have hev : at0 (put m 2 (nxN o x)) 2 = nxN o x := at0_put _ (by omega) (by omega)
      have hee : nxN o x / 65536 = at0 m 2 / 65536 + 1 := by
        rw [nxN_epoch, ← e]
        have := s.ep
        unfold U at hue
        omega
      have hpk : ∀ w : Nat, prkE (put m 2 (nxN o x)) w = prkE m w := fun w => by unfold prkE; rw [prkE_put2]
      have hbit : ∀ w : Nat, w < 16 → (bitE (put m 2 (nxN o x)) w = if o = 6 ∧ at0 m 2 / 2 ^ w % 2 = 1 ∧ lw (at0 m 2) ≠ w then 1 else 0) := fun w hw => by
        unfold bitE
        rw [hev, ← e]
        have := nx_bitE o (at0 m 2) w hw ho
        by_cases c : o = 6 ∧ at0 m 2 / 2 ^ w % 2 = 1 ∧ lw (at0 m 2) ≠ w
        · rw [if_pos c, if_pos (this.2 c)]
        · rw [if_neg c, if_neg (fun h => c (this.1 h))]
      by_cases hz : x % 65536 = 0
      · refine ⟨put m 2 (nxN o x), ⟨o, 0, i, 0, 0, 0, 3⟩, (noteS_1 s.ok ho e).trans (by rw [if_pos hz]), ?_, Did.quiet (fun h => absurd h q5) (by simp) (fun w => prkE_put2 _ _ _)⟩
        rw [left1_n (by omega)]
        refine s.upd hi (okm_put s.ok _ _) (put_U s.um 2 (nxN_u _ _)) (.inl rfl) (by rw [hev, hee]; omega) (by rw [hev, hee]; omega) (fun w _ h => by rw [prkE_put2]; exact h) (fun w => by rw [prkE_put2]; exact s.pz w) (fun w hw => ?_)
        have hb0 : ¬ at0 m 2 / 2 ^ w % 2 = 1 := by
          rw [← bit_mask _ w hw, e, hz]; simp
        have hb1 : bitE m w = 0 := if_neg hb0
        rw [hf, off _ _ _ _ _ _ (by omega), offE, inE_no, in_no q5, hpk, hbit w hw, if_neg (fun h => hb0 h.2.1), hb1]
      · obtain ⟨k, hk, hlk, hbk⟩ := lw_some hz
        have hwh : o = 6 → whN o x = k := fun h => by unfold whN; rw [if_pos h, hlk]; omega
        have hwa : o = 7 → whN o x = x % 65536 := fun h => by unfold whN; rw [if_neg (by omega)]
        refine ⟨put m 2 (nxN o x), ⟨o, 2, i, v, x, whN o x, 0⟩, (noteS_1 s.ok ho e).trans (by rw [if_neg hz]), ?_, Did.quiet (fun h => absurd h q5) (by simp) (fun w => prkE_put2 _ _ _)⟩
        rw [left1_0]
        refine s.upd hi (okm_put s.ok _ _) (put_U s.um 2 (nxN_u _ _)) (.inr (FI.nt ho ⟨uf.1, uf.2.1, whN_u _ _⟩ (by omega) (by omega) (fun h _ => ⟨k, hk, hwh h⟩) (fun h _ => by rw [hwa h]; omega)))
          (by rw [hev, hee]; omega) (by rw [hev, hee]; omega) (fun w _ h => by rw [prkE_put2]; exact h) (fun w => by rw [prkE_put2]; exact s.pz w) (fun w hw => ?_)
        rw [hf, off 1 _ _ _ _ _ (by omega), in_no q5, in_no q5, hpk, hbit w hw]
        have hbm : bitE m w = if at0 m 2 / 2 ^ w % 2 = 1 then 1 else 0 := rfl
        rw [hbm]
        rcases ho with rfl | rfl
        · rw [hwh rfl, owes_on6 hw, e, hlk]
          by_cases c : (k : Int) = (w : Int)
          · have : k = w := by omega
            subst this
            rw [if_neg (fun h => h.2.2 rfl), if_pos hbk]
            simp [obE]; omega
          · by_cases c2 : x / 2 ^ w % 2 = 1
            · rw [if_pos ⟨rfl, c2, c⟩, if_pos c2]; simp [obE, c]
            · rw [if_neg (fun h => c2 h.2.1), if_neg c2]; simp [obE, c]
        · rw [hwa rfl, owes_on7 hw, bit_mask _ w hw, e, if_neg (fun h => absurd h.1 (by decide))]
          by_cases c2 : x / 2 ^ w % 2 = 1
          · rw [if_pos c2]; simp [obE, c2]; omega
          · rw [if_neg c2]; simp [obE, c2]
    · refine ⟨m, ⟨o, 0, i, v, x, y, 0⟩, noteS_1n s.ok ho e, ?_, Did.quiet (fun h => absurd h q5) (by simp) (fun _ => rfl)⟩
      rw [left1_0]
      refine s.same hi (.inr (FI.nt ho uf (by omega) (by omega) (by omega) (by omega))) (fun w _ => ?_)
      rw [hf, off _ _ _ _ _ _ (by omega), off _ _ _ _ _ _ (by omega), in_no q5, in_no q5]
  · have hil : i < a.length := by rw [s.al]; exact hi
    have hbit : ∀ (u : Int) (w : Nat), bitE (put m (ow n 1 1 0 u 2) 1) w = bitE m w := fun u w => by unfold bitE; rw [at0_event s.ok]
    have hev := fun u => at0_event s.ok u
    -- whom it owes one, it is a worker, whose park cell is 0, and its bit is not set
    have owed : ∀ w : Nat, w < 16 → owesN ⟨o, 2, i, v, x, y, 0⟩ w = true → w < n ∧ at0 m (pkI 1 1 w) = 0 := fun w hw h => by
      have hs := s.sg w hw
      have h4 : 1 ≤ owE a w := by
        unfold owE
        apply List.countP_pos_iff.2
        refine ⟨a.getD i fnE, ?_, by rw [hf]; exact h⟩
        rw [List.getD_eq_getElem?_getD, List.getElem?_eq_getElem hil]
        exact List.getElem_mem hil
      have h5 : inE (a.getD w fnE) ≤ 1 := by unfold inE; split <;> omega
      constructor
      · refine Decidable.byContradiction fun hc => ?_
        have : a.getD w fnE = fnE := by rw [List.getD_eq_getElem?_getD, List.getElem?_eq_none (by rw [s.al]; omega)]; rfl
        rw [this, inE_no] at hs
        omega
      · refine Decidable.byContradiction fun hc => ?_
        have : prkE m w = 1 := if_neg hc
        omega
    rcases ho with rfl | rfl
    · obtain ⟨k, hk, hy⟩ := F.y6 rfl rfl
      have hy : y = k := hy
      subst hy
      have hown : owesN ⟨6, 2, i, v, x, k, 0⟩ k = true := by rw [owes_on6 hk]; simp
      obtain ⟨hkn, hk0⟩ := owed k hk hown
      have hwr : wrap64 (k : Int) = k := by unfold wrap64; omega
      have e3 := noteS_26 (w := i) (v := v) (x := x) (y := (k : Int)) s.ok
      rw [hwr] at e3
      have hpp : ∀ w : Nat, at0 (put m (ow n 1 1 0 k 2) 1) (pkI 1 1 w) = if w = k then 1 else at0 m (pkI 1 1 w) := fun w => by
        rw [prkE_ow s.ok]
        by_cases c : w = k
        · subst c; rw [if_pos ⟨rfl, hkn⟩, if_pos rfl]
        · rw [if_neg (fun h => c (by omega)), if_neg c]
      refine ⟨_, _, e3, ?_, rfl, rfl, fun h => absurd (show (6 : Int) = 5 from h) (by decide), fun _ => .inr (.inl rfl), fun _ => .inl ⟨rfl, .inr ⟨rfl, k, hkn, rfl, hk0, hpp⟩⟩⟩
      rw [left1_n (by omega)]
      refine s.upd hi (okm_put s.ok _ _) (put_U s.um _ one) (.inl rfl) (by rw [hev]; omega) (by rw [hev]; omega) (fun w _ h => by rw [hpp]; split; rfl; exact h) (fun w => by rw [hpp]; split; exact .inr rfl; exact s.pz w) (fun w hw => ?_)
      rw [hf, offE, inE_no, in_no q5, hbit, owes_on6 hw]
      by_cases c : w = k
      · subst c
        have h1 : prkE (put m (ow n 1 1 0 w 2) 1) w = 1 := by unfold prkE; rw [hpp, if_pos rfl]; rfl
        have h2 : prkE m w = 0 := if_pos hk0
        rw [h1, h2]; simp [obE]
      · have h1 : prkE (put m (ow n 1 1 0 k 2) 1) w = prkE m w := by unfold prkE; rw [hpp, if_neg c]
        have c' : ¬ (k : Int) = (w : Int) := by omega
        rw [h1]; simp [obE, c']
    · obtain ⟨y0, y1⟩ := F.y7 rfl rfl
      have y0 : 0 < y := y0
      have y1 : y < 65536 := y1
      have hy : y % 65536 ≠ 0 := by omega
      obtain ⟨k, hk, hlk, hbk⟩ := lw_some hy
      have hown : owesN ⟨7, 2, i, v, x, y, 0⟩ k = true := by rw [owes_on7 hk]; simp [hbk]
      obtain ⟨hkn, hk0⟩ := owed k hk hown
      have e3 := noteS_27 (w := i) (v := v) (x := x) (y := y) s.ok
      rw [hlk] at e3
      have hpp : ∀ w : Nat, at0 (put m (ow n 1 1 0 k 2) 1) (pkI 1 1 w) = if w = k then 1 else at0 m (pkI 1 1 w) := fun w => by
        rw [prkE_ow s.ok]
        by_cases c : w = k
        · subst c; rw [if_pos ⟨rfl, hkn⟩, if_pos rfl]
        · rw [if_neg (fun h => c (by omega)), if_neg c]
      have rr := rs_range y
      have key : ∀ g' : Fr, (g' = fnE ∨ FI (put m (ow n 1 1 0 k 2) 1) (t + 1) i g') → (∀ w : Nat, w < 16 → (owesN g' w = decide (rs y / 2 ^ w % 2 = 1))) → inE g' = 0 → SI n (put m (ow n 1 1 0 k 2) 1) (a.set i g') (t + 1) := by
        intro g' hg ho' hi'
        refine s.upd hi (okm_put s.ok _ _) (put_U s.um _ one) hg (by rw [hev]; omega) (by rw [hev]; omega) (fun w _ h => by rw [hpp]; split; rfl; exact h) (fun w => by rw [hpp]; split; exact .inr rfl; exact s.pz w) (fun w hw => ?_)
        rw [hf, hi', in_no q5, hbit, owes_on7 hw, ho' w hw]
        have hb := rs_bit y w hw
        rw [hlk] at hb
        by_cases c : w = k
        · subst c
          have h1 : prkE (put m (ow n 1 1 0 w 2) 1) w = 1 := by unfold prkE; rw [hpp, if_pos rfl]; rfl
          have h2 : prkE m w = 0 := if_pos hk0
          have h3 : ¬ rs y / 2 ^ w % 2 = 1 := fun h => (hb.1 h).2 rfl
          rw [h1, h2]; simp [obE, hbk, h3]
        · have h1 : prkE (put m (ow n 1 1 0 k 2) 1) w = prkE m w := by unfold prkE; rw [hpp, if_neg c]
          rw [h1]
          by_cases c2 : y / 2 ^ w % 2 = 1
          · have h3 : rs y / 2 ^ w % 2 = 1 := hb.2 ⟨c2, by omega⟩
            simp [obE, c2, h3]
          · have h3 : ¬ rs y / 2 ^ w % 2 = 1 := fun h => c2 (hb.1 h).1
            simp [obE, c2, h3]
      by_cases hr : rs y = 0
      · refine ⟨put m (ow n 1 1 0 k 2) 1, ⟨7, 0, i, x % 65536, 0, 0, 1⟩, e3.trans (by rw [if_pos hr]), ?_, rfl, rfl, fun h => absurd (show (7 : Int) = 5 from h) (by decide), fun _ => .inr (.inl rfl), fun h => absurd rfl h⟩
        rw [left1_n (by omega)]
        exact key _ (.inl rfl) (fun w _ => by rw [offE, hr]; simp) inE_no
      · refine ⟨put m (ow n 1 1 0 k 2) 1, ⟨7, 2, i, v, x, rs y, 0⟩, e3.trans (by rw [if_neg hr]), ?_, rfl, rfl, fun h => absurd (show (7 : Int) = 5 from h) (by decide), fun _ => .inl rfl, fun h => absurd rfl h⟩
        rw [left1_0]
        exact key _ (.inr (FI.nt (.inr rfl) ⟨uf.1, uf.2.1, rs_u y⟩ (by omega) (by omega) (by omega) (fun _ _ => by omega))) (fun w hw => owes_on7 hw) (in_no q5)
/-- A step of anybody. -/
theorem SI.step (s : SI n m a t) (ht : t < 100000) {i : Nat} (hi : i < n) :
    ∃ m' g, evS n 1 1 0 m (a.getD i fnE) = (m', g) ∧ SI n m' (a.set i (left1 g)) (t + 1) ∧ (a.getD i fnE = fnE ∧ m' = m ∧ g = fnE ∨ FI m t i (a.getD i fnE) ∧ Did n m (a.getD i fnE) m' g) := by
  rcases s.fi i hi with h | h
  · refine ⟨m, fnE, by rw [h]; exact evS_no _ _, ?_, .inl ⟨h, rfl, rfl⟩⟩
    exact s.same hi (.inl rfl) (fun w _ => by rw [h]; rfl)
  · obtain ⟨f, hf⟩ : ∃ f, a.getD i fnE = f := ⟨_, rfl⟩
    rw [hf] at h ⊢
    obtain ⟨o, p, q, v, x, y, r⟩ := f
    have hr : r = 0 := h.res
    have hw : q = i := h.who
    subst hr hw
    rcases h.ops with h5 | h5
    · have h5 : o = 5 := h5
      subst h5
      rw [evS_5 rfl]
      obtain ⟨m', g, e1, e2, e3⟩ := s.wait hi hf
      exact ⟨m', g, e1, e2, .inr ⟨h, e3⟩⟩
    · have h5 : o = 6 ∨ o = 7 := h5
      rw [evS_n (by show o ≠ 5; omega)]
      obtain ⟨m', g, e1, e2, e3⟩ := s.note hi h5 hf ht
      exact ⟨m', g, e1, e2, .inr ⟨h, e3⟩⟩
end
end Go.Proofs.YtlpkccpijloidaaGreat
