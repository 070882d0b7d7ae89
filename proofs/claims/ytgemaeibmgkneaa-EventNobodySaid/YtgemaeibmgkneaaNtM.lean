/- Waking, step by step, on lists (layer 15). -/
import Derived.Test.YtgemaeibmgkneaaWtM
import Derived.Test.YtgemaeibmgkneaaInA
namespace Go.Proofs.Ytgemaeibmgkneaa
open Go.RowKit Go.Deep
/-- A wake goes on. -/
def goesN (W D J S : Int) (m : List Int) (f : Fr) : Bool := okm W D J S m && decide (f.res = 0) && (decide (f.op = 6) || decide (f.op = 7)) && decide (0 ≤ f.pc) && decide (f.pc < 3)
set_option maxRecDepth 100000 in
theorem goesN_iff {W D J S : Int} {m : List Int} {f : Fr} : goesN W D J S m f = true ↔ okm W D J S m = true ∧ f.res = 0 ∧ (f.op = 6 ∨ f.op = 7) ∧ 0 ≤ f.pc ∧ f.pc < 3 := by
  unfold goesN
  simp only [Bool.and_eq_true, Bool.or_eq_true, decide_eq_true_eq]
  constructor
  · rintro ⟨⟨⟨⟨a, b⟩, c⟩, d⟩, e⟩; exact ⟨a, b, c, d, e⟩
  · rintro ⟨a, b, c, d, e⟩; exact ⟨⟨⟨⟨a, b⟩, c⟩, d⟩, e⟩
/-- The event's word behind a wake, and whom that wakes. -/
def nxN (op e : Int) : Int := if op = 6 then bp e else pk (e / 65536 + 1) 0
def whN (op e : Int) : Int := if op = 6 then lw e % 18446744073709551616 else e % 65536
/-- One step of a wake. -/
def noteS (W D J S : Int) (m : List Int) (f : Fr) : List Int × Fr :=
  if goesN W D J S m f = true then
    if f.pc = 0 then (m, { f with x := at0 m 2, pc := 1 })
    else if f.pc = 1 then
      if at0 m 2 = f.x then (put m 2 (nxN f.op f.x), if f.x % 65536 = 0 then ed f 3 0 else { f with y := whN f.op f.x, pc := 2 }) else (m, { f with pc := 0 })
    else if f.op = 6 then (put m (ow W D J S (wrap64 f.y) 2) 1, ed f 1 f.y)
    else (put m (ow W D J S (lw f.y) 2) 1, if rs f.y = 0 then ed f 1 (f.x % 65536) else { f with y := rs f.y })
  else (m, f)
/-- Worker w is owed a wake. -/
def owesN (f : Fr) (w : Int) : Bool := decide (f.res = 0) && decide (f.pc = 2) && (decide (0 ≤ w) && decide (w < 16)) && (if f.op = 6 then f.y == w else if f.op = 7 then st f.y w == f.y else false)
set_option maxRecDepth 100000 in
theorem noteS_len (W D J S : Int) (m : List Int) (f : Fr) : (noteS W D J S m f).1.length = m.length := by
  unfold noteS
  repeat' split
  all_goals simp [len_put]
set_option maxRecDepth 100000 in
theorem nxN_u (op e : Int) : U (nxN op e) := by
  unfold nxN
  split
  · exact bp_u _
  · exact pk_u _ _
set_option maxRecDepth 100000 in
theorem whN_u (op e : Int) : U (whN op e) := by
  unfold whN U
  split <;> omega
set_option maxRecDepth 100000 in
theorem rs_u (e : Int) : U (rs e) := by
  have := rs_range e
  unfold U; omega
set_option maxRecDepth 100000 in
theorem noteS_U {W D J S : Int} {m : List Int} {f : Fr} (hm : UM m) (hf : UF f) : UM (noteS W D J S m f).1 ∧ UF (noteS W D J S m f).2 := by
  obtain ⟨h1, h2, h3⟩ := hf
  have z : U 0 := by unfold U; omega
  have o : U 1 := by unfold U; omega
  have k : U (f.x % 65536) := by unfold U; omega
  unfold noteS
  repeat' split
  · exact ⟨hm, h1, at0_U hm 2, h3⟩
  · exact ⟨put_U hm 2 (nxN_u _ _), z, z, z⟩
  · exact ⟨put_U hm 2 (nxN_u _ _), h1, h2, whN_u _ _⟩
  · exact ⟨hm, h1, h2, h3⟩
  · exact ⟨put_U hm _ o, h3, z, z⟩
  · exact ⟨put_U hm _ o, k, z, z⟩
  · exact ⟨put_U hm _ o, h1, h2, rs_u _⟩
  · exact ⟨hm, h1, h2, h3⟩
set_option maxRecDepth 100000 in
theorem noteS_stay {W D J S : Int} {m : List Int} {f : Fr} (h : goesN W D J S m f = false) : noteS W D J S m f = (m, f) := by
  unfold noteS; rw [h]; rfl
set_option maxRecDepth 100000 in
theorem noteS_over {W D J S : Int} (m : List Int) (f : Fr) (h : f.res ≠ 0) : noteS W D J S m f = (m, f) := by
  unfold noteS
  rw [if_neg]
  intro h'
  exact h (goesN_iff.1 h').2.1
section
variable {W D J S : Int} {m : List Int} {w v x y o : Int}
set_option maxRecDepth 100000 in
theorem noteS_0 (h : okm W D J S m = true) (ho : o = 6 ∨ o = 7) : noteS W D J S m ⟨o, 0, w, v, x, y, 0⟩ = (m, ⟨o, 1, w, v, at0 m 2, y, 0⟩) := by
  unfold noteS
  rw [if_pos (goesN_iff.2 ⟨h, rfl, ho, by simp, by simp⟩), if_pos rfl]
set_option maxRecDepth 100000 in
theorem noteS_1 (h : okm W D J S m = true) (ho : o = 6 ∨ o = 7) (hx : at0 m 2 = x) : noteS W D J S m ⟨o, 1, w, v, x, y, 0⟩ = (put m 2 (nxN o x), if x % 65536 = 0 then ⟨o, 0, w, 0, 0, 0, 3⟩ else ⟨o, 2, w, v, x, whN o x, 0⟩) := by
  unfold noteS
  rw [if_pos (goesN_iff.2 ⟨h, rfl, ho, by simp, by simp⟩), if_neg (by simp), if_pos rfl, if_pos hx]
  simp only [ed]
set_option maxRecDepth 100000 in
theorem noteS_1n (h : okm W D J S m = true) (ho : o = 6 ∨ o = 7) (hx : ¬ at0 m 2 = x) : noteS W D J S m ⟨o, 1, w, v, x, y, 0⟩ = (m, ⟨o, 0, w, v, x, y, 0⟩) := by
  unfold noteS
  rw [if_pos (goesN_iff.2 ⟨h, rfl, ho, by simp, by simp⟩), if_neg (by simp), if_pos rfl, if_neg hx]
set_option maxRecDepth 100000 in
theorem noteS_26 (h : okm W D J S m = true) : noteS W D J S m ⟨6, 2, w, v, x, y, 0⟩ = (put m (ow W D J S (wrap64 y) 2) 1, ⟨6, 0, w, y, 0, 0, 1⟩) := by
  unfold noteS
  rw [if_pos (goesN_iff.2 ⟨h, rfl, .inl rfl, by simp, by simp⟩), if_neg (by simp), if_neg (by simp), if_pos rfl]; rfl
set_option maxRecDepth 100000 in
theorem noteS_27 (h : okm W D J S m = true) : noteS W D J S m ⟨7, 2, w, v, x, y, 0⟩ = (put m (ow W D J S (lw y) 2) 1, if rs y = 0 then ⟨7, 0, w, x % 65536, 0, 0, 1⟩ else ⟨7, 2, w, v, x, rs y, 0⟩) := by
  unfold noteS
  rw [if_pos (goesN_iff.2 ⟨h, rfl, .inr rfl, by simp, by simp⟩), if_neg (by simp), if_neg (by simp), if_neg (by simp)]; rfl
end
set_option maxRecDepth 100000 in
theorem goesN_begun {W D J S : Int} {m : List Int} {o : Int} (ho : o = 6 ∨ o = 7) : goesN W D J S m (fbg o 0 0) = okm W D J S m := by
  unfold goesN fbg
  rcases ho with rfl | rfl <;> simp
set_option maxRecDepth 100000 in
theorem okm_of {W D J S : Int} {m : List Int} {w : Int} (h : okw W D J S m w = true) : okm W D J S m = true := by
  obtain ⟨a, b, _, _⟩ := okw_iff.1 h
  exact okm_iff.2 ⟨a, b⟩
set_option maxRecDepth 100000 in
theorem okw_of {W D J S : Int} {m : List Int} {w : Int} (h : okm W D J S m = true) (h0 : 0 ≤ w) (h1 : w < W) : okw W D J S m w = true := by
  obtain ⟨a, b⟩ := okm_iff.1 h
  exact okw_iff.2 ⟨a, b, h0, h1⟩
set_option maxRecDepth 100000 in
theorem okm_long10 {W D J S : Int} {m : List Int} (h : okm W D J S m = true) : 10 < m.length := by
  obtain ⟨a, _⟩ := okm_iff.1 h
  exact okw_long (okw_of (w := 0) h (Int.le_refl _) (by have := (may_lim a).1; omega))
set_option maxRecDepth 100000 in
/-- Where the park cell of anybody lies: nowhere, or at a worker's. -/
theorem ow_cases {W D J S : Int} {m : List Int} (h : okm W D J S m = true) (w : Int) : ow W D J S w 2 = -1 ∧ ¬ (0 ≤ w ∧ w < W) ∨ okw W D J S m w = true ∧ ow W D J S w 2 = pkI D J w := by
  by_cases hw : 0 ≤ w ∧ w < W
  · have := okw_of h hw.1 hw.2
    exact .inr ⟨this, pkI_ow this⟩
  · refine .inl ⟨?_, hw⟩
    unfold ow
    rw [show wi w 0 (W - 1) = false from wi_false.2 (by omega)]
    simp
set_option maxRecDepth 100000 in
theorem pkI_inj {W D J S : Int} {m : List Int} {w v : Int} (h1 : okw W D J S m w = true) (h : pkI D J w = pkI D J v) : w = v := by
  obtain ⟨hm, _, _, _⟩ := okw_iff.1 h1
  obtain ⟨hW, hD, hJ, hS⟩ := may_lim hm
  unfold pkI at h
  rcases Int.lt_trichotomy w v with c | c | c
  · have := bg_step (J := J) hD.1 c; omega
  · exact c
  · have := bg_step (J := J) hD.1 c; omega
set_option maxRecDepth 100000 in
/-- What lies in a worker's park cell behind a wake of anybody. -/
theorem at0_woken {W D J S : Int} {m : List Int} {w : Int} (h : okw W D J S m w = true) (v : Int) : at0 (put m (ow W D J S v 2) 1) (pkI D J w) = if v = w then 1 else at0 m (pkI D J w) := by
  have hp := pkI_lim h
  rcases ow_cases (okm_of h) v with ⟨e, hn⟩ | ⟨hv, e⟩
  · have hw := okw_iff.1 h
    rw [e, put_out _ (.inl (by omega)), if_neg]
    rintro rfl
    exact hn ⟨hw.2.2.1, hw.2.2.2⟩
  · rw [e]
    by_cases c : v = w
    · subst c
      rw [at0_put _ (by omega) hp.2, if_pos rfl]
    · rw [at0_put_ne _ _ (fun hh => c (pkI_inj hv hh)), if_neg c]
set_option maxRecDepth 100000 in
theorem at0_event {W D J S : Int} {m : List Int} (h : okm W D J S m = true) (v : Int) : at0 (put m (ow W D J S v 2) 1) 2 = at0 m 2 := by
  rcases ow_cases h v with ⟨e, hn⟩ | ⟨hv, e⟩
  · rw [e, put_out _ (.inl (by omega))]
  · have := pkI_lim hv
    rw [e, at0_put_ne _ _ (by omega)]
set_option maxRecDepth 100000 in
/-- Numbers without one bit, bit by bit. -/
theorem nat_bit_less {n k j : Nat} (h : n / 2 ^ k % 2 = 1) : (n - 2 ^ k) / 2 ^ j % 2 = 1 ↔ (n / 2 ^ j % 2 = 1 ∧ k ≠ j) := by
  obtain ⟨_, h2, h3⟩ := nat_less_or n k h
  have tb : ∀ a i : Nat, a.testBit i = decide (a / 2 ^ i % 2 = 1) := fun a i => by rw [Nat.testBit_eq_decide_div_mod_eq]
  by_cases c : k = j
  · subst c
    constructor
    · intro h4; omega
    · rintro ⟨_, h4⟩; exact absurd rfl h4
  · have := congrArg (fun a : Nat => a.testBit j) h3
    simp only [Nat.testBit_or, Nat.testBit_two_pow_of_ne c, Bool.or_false] at this
    rw [tb, tb] at this
    have h5 : ((n - 2 ^ k) / 2 ^ j % 2 = 1) ↔ (n / 2 ^ j % 2 = 1) := by simpa using this
    rw [h5]
    exact ⟨fun a => ⟨a, c⟩, fun a => a.1⟩
set_option maxRecDepth 100000 in
theorem rs_bit (e : Int) (j : Nat) (hj : j < 16) : rs e / 2 ^ j % 2 = 1 ↔ (e / 2 ^ j % 2 = 1 ∧ lw e ≠ j) := by
  rw [← bit_mask e j hj]
  have hl := lw_mask e
  have hm : 0 ≤ e % 65536 ∧ e % 65536 < 65536 := by omega
  unfold rs
  rw [← hl]
  generalize e % 65536 = y at hm
  obtain ⟨n, rfl⟩ := Int.eq_ofNat_of_zero_le hm.1
  rcases lw_cases (n : Int) with ⟨h1, h2⟩ | ⟨k, hk, h1, h2, h3⟩
  · rw [h1]
    have : n = 0 := by omega
    subst this
    simp
  · rw [h1, if_pos (by omega), Int.toNat_natCast]
    have hb : n / 2 ^ k % 2 = 1 := by exact_mod_cast h2
    have hle : 2 ^ k ≤ n := (nat_less_or n k hb).1
    rw [show ((n : Int) - 2 ^ k) = ((n - 2 ^ k : Nat) : Int) by rw [Int.natCast_sub hle]; simp]
    have e1 := nat_bit_less (j := j) hb
    constructor
    · intro h4
      obtain ⟨a, b⟩ := e1.1 (by exact_mod_cast h4)
      exact ⟨by exact_mod_cast a, by omega⟩
    · rintro ⟨a, b⟩
      exact_mod_cast e1.2 ⟨by exact_mod_cast a, by omega⟩
set_option maxRecDepth 100000 in
theorem rs_zero {e : Int} (h : rs e = 0) (h0 : e % 65536 ≠ 0) (j : Nat) (hj : j < 16) : e / 2 ^ j % 2 = 1 ↔ lw e = j := by
  rcases lw_cases e with ⟨_, h2⟩ | ⟨k, hk, h1, h2, h3⟩
  · exact absurd h2 h0
  · constructor
    · intro hb
      refine Decidable.byContradiction fun hc => ?_
      have := (rs_bit e j hj).2 ⟨hb, hc⟩
      rw [h] at this
      simp at this
    · intro hl
      have : k = j := by omega
      subst this
      exact h2
set_option maxRecDepth 100000 in
theorem rs_less {y : Int} {k : Nat} (hk : k < 16) (h0 : 0 < y) (h1 : y < 65536) (h : y % 2 ^ (16 - (k + 1)) = 0) : rs y % 2 ^ (16 - k) = 0 ∧ rs y < y := by
  have hy : y % 65536 = y := by omega
  rcases lw_cases y with ⟨_, h2⟩ | ⟨l, hl, e1, h2, h3⟩
  · omega
  · have hrs : rs y = y - 2 ^ l := by unfold rs; rw [e1, if_pos (by omega), Int.toNat_natCast, hy]
    rw [hrs]
    have hl2 : 15 - k ≤ l := by
      refine Decidable.byContradiction fun hc => ?_
      rcases pow_cases hl with rfl | rfl | rfl | rfl | rfl | rfl | rfl | rfl | rfl | rfl | rfl | rfl | rfl | rfl | rfl | rfl <;>
      rcases pow_cases hk with rfl | rfl | rfl | rfl | rfl | rfl | rfl | rfl | rfl | rfl | rfl | rfl | rfl | rfl | rfl | rfl <;> simp at h h2 hc <;> omega
    refine ⟨?_, by have := pow_lt hl; omega⟩
    have hd : (y - 2 ^ l) % 2 ^ (l + 1) = 0 := by
      rw [Int.pow_succ]
      clear hl2 h e1 hrs
      rcases pow_cases hl with rfl | rfl | rfl | rfl | rfl | rfl | rfl | rfl | rfl | rfl | rfl | rfl | rfl | rfl | rfl | rfl <;> simp at h2 h3 ⊢ <;> omega
    have hdv : (2 : Int) ^ (16 - k) ∣ 2 ^ (l + 1) := by
      rw [show l + 1 = (16 - k) + (l + 1 - (16 - k)) by omega, Int.pow_add]
      exact Int.dvd_mul_right _ _
    exact Int.emod_eq_zero_of_dvd (Int.dvd_trans hdv (Int.dvd_of_emod_eq_zero hd))
set_option maxRecDepth 100000 in
theorem itN_front (g : List Int → Fr → List Int × Fr) (k : Nat) (s : List Int × Fr) : itN g (k + 1) s = itN g k (g s.1 s.2) := by
  induction k with
  | zero => rfl
  | succ k ih => show g (itN g (k + 1) s).1 (itN g (k + 1) s).2 = _; rw [ih]; rfl
set_option maxRecDepth 100000 in
/-- OpAll, from its mask on: as many steps as bits may be set. -/
theorem all_wakes {W D J S : Int} (k : Nat) (hk : k ≤ 16) : ∀ (m : List Int) (x y : Int), okm W D J S m = true → 0 < y → y < 65536 → y % 2 ^ (16 - k) = 0 →
    (itN (noteS W D J S) k (m, ⟨7, 2, 0, 0, x, y, 0⟩)).2.res = 1 ∧ at0 (itN (noteS W D J S) k (m, ⟨7, 2, 0, 0, x, y, 0⟩)).1 2 = at0 m 2
      ∧ ∀ w : Nat, okw W D J S m w = true → at0 (itN (noteS W D J S) k (m, ⟨7, 2, 0, 0, x, y, 0⟩)).1 (pkI D J w) = if y / 2 ^ w % 2 = 1 then 1 else at0 m (pkI D J w) := by
  induction k with
  | zero => intro m x y _ h0 h1 h2; simp at h2; omega
  | succ k ih =>
    intro m x y hm h0 h1 h2
    have hy : y % 65536 ≠ 0 := by omega
    obtain ⟨h3, h4⟩ := rs_less (k := k) (by omega) h0 h1 h2
    have hok := okm_put hm (ow W D J S (lw y) 2) 1
    rw [itN_front, show noteS W D J S m ⟨7, 2, 0, 0, x, y, 0⟩ = _ from noteS_27 hm]
    by_cases hr : rs y = 0
    · rw [if_pos hr]
      have hst : itN (noteS W D J S) k (put m (ow W D J S (lw y) 2) 1, ⟨7, 0, 0, x % 65536, 0, 0, 1⟩) = (put m (ow W D J S (lw y) 2) 1, ⟨7, 0, 0, x % 65536, 0, 0, 1⟩) := by
        have := itN_stay (g := noteS W D J S) noteS_over (k := 0) (s := (put m (ow W D J S (lw y) 2) 1, ⟨7, 0, 0, x % 65536, 0, 0, 1⟩)) (by simp [itN]) k
        rw [Nat.zero_add] at this
        exact this
      rw [hst]
      refine ⟨rfl, at0_event hm _, fun w hw => ?_⟩
      have hw8 := okw_who hw
      show at0 (put m (ow W D J S (lw y) 2) 1) (pkI D J w) = _
      rw [at0_woken hw]
      have hz := rs_zero hr hy w (by omega)
      by_cases c1 : y / 2 ^ w % 2 = 1
      · rw [if_pos c1, if_pos (hz.1 c1)]
      · rw [if_neg c1, if_neg (fun hh => c1 (hz.2 hh))]
    · rw [if_neg hr]
      have hr0 := rs_range y
      obtain ⟨a, b, c⟩ := ih (by omega) (put m (ow W D J S (lw y) 2) 1) x (rs y) hok (by omega) (by omega) h3
      refine ⟨a, by rw [b, at0_event hm], fun w hw => ?_⟩
      have hw8 := okw_who hw
      rw [c w (okw_put hw _ _), at0_woken hw]
      have hb := rs_bit y w (by omega)
      by_cases c1 : y / 2 ^ w % 2 = 1
      · rw [if_pos c1]
        by_cases c2 : lw y = w
        · rw [if_pos c2]; split <;> rfl
        · rw [if_pos (hb.2 ⟨c1, c2⟩)]
      · rw [if_neg c1, if_neg (fun hh => c1 (hb.1 hh).1), if_neg]
        intro hl
        rcases lw_cases y with ⟨_, e⟩ | ⟨l, hl2, e1, e2, _⟩
        · exact hy e
        · have : l = w := by omega
          subst this
          exact c1 e2
set_option maxRecDepth 100000 in
theorem nxN_epoch (o e : Int) : nxN o e / 65536 = (e / 65536 + 1) % 281474976710656 := by
  unfold nxN
  split
  · exact bp_epoch e
  · unfold pk; omega
set_option maxRecDepth 100000 in
theorem nxN_mask6 (e : Int) : nxN 6 e % 65536 = rs e := by unfold nxN; rw [if_pos rfl]; exact bp_mask e
set_option maxRecDepth 100000 in
theorem nxN_mask7 (e : Int) : nxN 7 e % 65536 = 0 := by unfold nxN pk; rw [if_neg (by simp)]; omega
set_option maxRecDepth 100000 in
/-- A wake, alone, up to 20 steps. -/
theorem alone_20 {W D J S : Int} {m : List Int} {o : Int} (h : okm W D J S m = true) (ho : o = 6 ∨ o = 7) :
    ∃ n g, itN (noteS W D J S) 20 (m, fbg o 0 0) = (n, g) ∧ g.res = (if at0 m 2 % 65536 = 0 then 3 else 1) ∧ at0 n 2 = nxN o (at0 m 2)
      ∧ ∀ w : Nat, okw W D J S m w = true → at0 n (pkI D J w) = if at0 m 2 / 2 ^ w % 2 = 1 ∧ (o = 7 ∨ lw (at0 m 2) = w) then 1 else at0 m (pkI D J w) := by
  have hlong := okm_long10 h
  have e1 : noteS W D J S m (fbg o 0 0) = (m, ⟨o, 1, 0, 0, at0 m 2, 0, 0⟩) := noteS_0 (w := 0) (v := 0) (x := 0) (y := 0) h ho
  have e2 := noteS_1 (w := 0) (v := 0) (y := 0) h ho (rfl : at0 m 2 = at0 m 2)
  have f2 : ∀ k, itN (noteS W D J S) (k + 2) (m, fbg o 0 0) = itN (noteS W D J S) k (put m 2 (nxN o (at0 m 2)), if at0 m 2 % 65536 = 0 then ⟨o, 0, 0, 0, 0, 0, 3⟩ else ⟨o, 2, 0, 0, at0 m 2, whN o (at0 m 2), 0⟩) := fun k => by
    rw [show k + 2 = (k + 1) + 1 from rfl, itN_front, e1, itN_front, e2]
  have hev : at0 (put m 2 (nxN o (at0 m 2))) 2 = nxN o (at0 m 2) := at0_put _ (by omega) (by omega)
  have hpk : ∀ w : Nat, okw W D J S m w = true → at0 (put m 2 (nxN o (at0 m 2))) (pkI D J w) = at0 m (pkI D J w) := fun w hw => at0_put_ne _ _ (by have := pkI_lim hw; omega)
  have bits0 : at0 m 2 % 65536 = 0 → ∀ w : Nat, w < 16 → ¬ at0 m 2 / 2 ^ w % 2 = 1 := fun hz w hw hb => by
    rw [← bit_mask _ w hw, hz] at hb; simp at hb
  by_cases hz : at0 m 2 % 65536 = 0
  · refine ⟨put m 2 (nxN o (at0 m 2)), ⟨o, 0, 0, 0, 0, 0, 3⟩, ?_, by rw [if_pos hz], hev, fun w hw => ?_⟩
    · rw [show (20 : Nat) = 18 + 2 from rfl, f2, if_pos hz]
      exact itN_stay (g := noteS W D J S) noteS_over (k := 0) (s := (put m 2 (nxN o (at0 m 2)), ⟨o, 0, 0, 0, 0, 0, 3⟩)) (by simp [itN]) 18
    · have := okw_who hw
      rw [hpk w hw, if_neg (fun hh => bits0 hz w (by omega) hh.1)]
  · have hm2 := okm_put h 2 (nxN o (at0 m 2))
    rcases ho with rfl | rfl
    · have hl : 0 ≤ lw (at0 m 2) ∧ lw (at0 m 2) < 16 ∧ at0 m 2 / 2 ^ (lw (at0 m 2)).toNat % 2 = 1 := by
        rcases lw_cases (at0 m 2) with ⟨_, hh⟩ | ⟨k, hk, a, b, _⟩
        · exact absurd hh hz
        · rw [a]; exact ⟨by omega, by omega, by rw [Int.toNat_natCast]; exact b⟩
      have hwh : whN 6 (at0 m 2) = lw (at0 m 2) := by unfold whN; rw [if_pos rfl]; omega
      have hwr : wrap64 (lw (at0 m 2)) = lw (at0 m 2) := by unfold wrap64; omega
      have e3 := noteS_26 (w := 0) (v := 0) (x := at0 m 2) (y := lw (at0 m 2)) hm2
      rw [hwr] at e3
      refine ⟨put (put m 2 (nxN 6 (at0 m 2))) (ow W D J S (lw (at0 m 2)) 2) 1, ⟨6, 0, 0, lw (at0 m 2), 0, 0, 1⟩, ?_, by rw [if_neg hz], ?_, fun w hw => ?_⟩
      · rw [show (20 : Nat) = (17 + 1) + 2 from rfl, f2, if_neg hz, hwh, itN_front, e3]
        exact itN_stay (g := noteS W D J S) noteS_over (k := 0) (s := (put (put m 2 (nxN 6 (at0 m 2))) (ow W D J S (lw (at0 m 2)) 2) 1, ⟨6, 0, 0, lw (at0 m 2), 0, 0, 1⟩)) (by simp [itN]) 17
      · rw [at0_event hm2, hev]
      · rw [at0_woken (okw_put hw _ _), hpk w hw]
        by_cases c : lw (at0 m 2) = w
        · rw [if_pos c, if_pos]
          have := hl.2.2
          rw [c, Int.toNat_natCast] at this
          exact ⟨this, .inr c⟩
        · rw [if_neg c, if_neg]
          rintro ⟨_, hh | hh⟩
          · exact absurd hh (by simp)
          · exact c hh
    · have hwh : whN 7 (at0 m 2) = at0 m 2 % 65536 := by unfold whN; rw [if_neg (by simp)]
      obtain ⟨a, b, c⟩ := all_wakes (W := W) (D := D) (J := J) (S := S) 16 (by omega) (put m 2 (nxN 7 (at0 m 2))) (at0 m 2) (at0 m 2 % 65536) hm2 (by omega) (by omega) (by simp)
      have hne : (itN (noteS W D J S) 16 (put m 2 (nxN 7 (at0 m 2)), ⟨7, 2, 0, 0, at0 m 2, at0 m 2 % 65536, 0⟩)).2.res ≠ 0 := by rw [a]; simp
      have e3 : itN (noteS W D J S) 20 (m, fbg 7 0 0) = itN (noteS W D J S) 16 (put m 2 (nxN 7 (at0 m 2)), ⟨7, 2, 0, 0, at0 m 2, at0 m 2 % 65536, 0⟩) := by
        rw [show (20 : Nat) = (16 + 2) + 2 from rfl, f2, if_neg hz, hwh]
        exact itN_stay (g := noteS W D J S) noteS_over (k := 16) (s := (put m 2 (nxN 7 (at0 m 2)), ⟨7, 2, 0, 0, at0 m 2, at0 m 2 % 65536, 0⟩)) hne 2
      generalize itN (noteS W D J S) 16 (put m 2 (nxN 7 (at0 m 2)), ⟨7, 2, 0, 0, at0 m 2, at0 m 2 % 65536, 0⟩) = t at a b c e3
      obtain ⟨n, g⟩ := t
      refine ⟨n, g, e3, by rw [if_neg hz]; exact a, by rw [← hev]; exact b, fun w hw => ?_⟩
      have hw8 := okw_who hw
      rw [show at0 n (pkI D J w) = _ from c w (okw_put hw _ _), hpk w hw, bit_mask _ w (by omega)]
      by_cases c1 : at0 m 2 / 2 ^ w % 2 = 1
      · rw [if_pos c1, if_pos ⟨c1, .inl rfl⟩]
      · rw [if_neg c1, if_neg (fun hh => c1 hh.1)]
set_option maxRecDepth 100000 in
theorem noteN_len (W D J S : Int) (k : Nat) (s : List Int × Fr) : (itN (noteS W D J S) k s).1.length = s.1.length := by
  induction k with
  | zero => rfl
  | succ k ih => rw [show itN (noteS W D J S) (k + 1) s = noteS W D J S (itN (noteS W D J S) k s).1 (itN (noteS W D J S) k s).2 from rfl, noteS_len]; exact ih
set_option maxRecDepth 100000 in
theorem noteN_U {W D J S : Int} {s : List Int × Fr} (hm : UM s.1) (hf : UF s.2) (k : Nat) : UM (itN (noteS W D J S) k s).1 ∧ UF (itN (noteS W D J S) k s).2 := by
  induction k with
  | zero => exact ⟨hm, hf⟩
  | succ k ih => rw [show itN (noteS W D J S) (k + 1) s = noteS W D J S (itN (noteS W D J S) k s).1 (itN (noteS W D J S) k s).2 from rfl]; exact noteS_U ih.1 ih.2
set_option maxRecDepth 100000 in
/-- Where the cells differ behind a step of a wake. -/
theorem noteS_cells {W D J S : Int} {m : List Int} {f : Fr} {k : Nat} (h : ¬ at0 (noteS W D J S m f).1 k = at0 m k) :
    goesN W D J S m f = true ∧ (f.pc = 1 ∧ (k : Int) = 2 ∧ at0 (noteS W D J S m f).1 k / 65536 = (at0 m k / 65536 + 1) % 281474976710656 ∨ f.pc = 2 ∧ (∃ v, okw W D J S m v = true ∧ (k : Int) = ow W D J S v 2) ∧ at0 (noteS W D J S m f).1 k = 1) := by
  by_cases hg : goesN W D J S m f = true
  · obtain ⟨hk, hr, ho, h0, h4⟩ := goesN_iff.1 hg
    have hlong := okm_long10 hk
    refine ⟨hg, ?_⟩
    unfold noteS at h ⊢
    rw [if_pos hg] at h ⊢
    have hput : ∀ (i u : Int), ¬ at0 (put m i u) k = at0 m k → (k : Int) = i := fun i u h2 => by
      by_cases e : (k : Int) = i
      · exact e
      · exact absurd (at0_put_ne m u (fun e2 => e e2.symm)) h2
    have hwake : ∀ v : Int, ¬ at0 (put m (ow W D J S v 2) 1) k = at0 m k → (∃ v, okw W D J S m v = true ∧ (k : Int) = ow W D J S v 2) ∧ at0 (put m (ow W D J S v 2) 1) k = 1 := fun v h2 => by
      have e := hput _ _ h2
      rcases ow_cases hk v with ⟨e2, _⟩ | ⟨hv, e2⟩
      · omega
      · have := pkI_lim hv
        exact ⟨⟨v, hv, e⟩, by rw [e, at0_put _ (by omega) (by omega)]⟩
    split at h
    · exact absurd rfl h
    · split at h
      · split at h
        · rename_i c0 c1 hx
          dsimp only at h
          have e := hput _ _ h
          rw [if_neg c0, if_pos c1, if_pos hx]
          refine .inl ⟨c1, e, ?_⟩
          dsimp only
          rw [e, at0_put _ (by omega) (by omega), hx]
          exact nxN_epoch _ _
        · exact absurd rfl h
      · split at h
        · rename_i c0 c1 c2
          rw [if_neg c0, if_neg c1, if_pos c2]
          exact .inr ⟨by omega, hwake _ h⟩
        · rename_i c0 c1 c2
          rw [if_neg c0, if_neg c1, if_neg c2]
          exact .inr ⟨by omega, hwake _ h⟩
  · exfalso
    apply h
    rw [noteS_stay (by simpa using hg)]
set_option maxRecDepth 100000 in
/-- No two cells change. -/
theorem noteS_two {W D J S : Int} {m : List Int} {f : Fr} {i k : Nat} (h : ¬ at0 (noteS W D J S m f).1 k = at0 m k) (h2 : ¬ at0 (noteS W D J S m f).1 i = at0 m i) (hne : ¬ i = k) : False := by
  have hput : ∀ (a u : Int), ¬ at0 (put m a u) k = at0 m k → ¬ at0 (put m a u) i = at0 m i → False := fun a u h3 h4 => by
    by_cases e : (k : Int) = a
    · exact h4 (at0_put_ne m u (by omega))
    · exact h3 (at0_put_ne m u (fun e2 => e e2.symm))
  unfold noteS at h h2
  by_cases hg : goesN W D J S m f = true
  · rw [if_pos hg] at h h2
    by_cases c0 : f.pc = 0
    · rw [if_pos c0] at h; exact h rfl
    · rw [if_neg c0] at h h2
      by_cases c1 : f.pc = 1
      · rw [if_pos c1] at h h2
        by_cases c2 : at0 m 2 = f.x
        · rw [if_pos c2] at h h2; exact hput 2 (nxN f.op f.x) h h2
        · rw [if_neg c2] at h; exact h rfl
      · rw [if_neg c1] at h h2
        by_cases c2 : f.op = 6
        · rw [if_pos c2] at h h2; exact hput (ow W D J S (wrap64 f.y) 2) 1 h h2
        · rw [if_neg c2] at h h2; exact hput (ow W D J S (lw f.y) 2) 1 h h2
  · rw [if_neg hg] at h; exact h rfl
set_option maxRecDepth 100000 in
/-- Where the cells differ: at one place, or at none. -/
theorem ncells_dif (W D J S : Int) (m : List Int) (f : Fr) : ∃ dif : Int, (∀ k : Nat, k < m.length → (¬ at0 (noteS W D J S m f).1 k = at0 m k ↔ (k : Int) = dif)) ∧ (dif = -1 ∨ (0 ≤ dif ∧ dif < m.length ∧ goesN W D J S m f = true ∧ (f.pc = 1 ∧ dif = 2 ∧ at0 (noteS W D J S m f).1 2 / 65536 = (at0 m 2 / 65536 + 1) % 281474976710656 ∨ f.pc = 2 ∧ (∃ v, okw W D J S m v = true ∧ dif = ow W D J S v 2) ∧ at0 (noteS W D J S m f).1 dif = 1))) := by
  by_cases h : ∃ k : Nat, k < m.length ∧ ¬ at0 (noteS W D J S m f).1 k = at0 m k
  · obtain ⟨k, hk, hd⟩ := h
    obtain ⟨hg, hc⟩ := noteS_cells hd
    refine ⟨(k : Int), fun i hi => ⟨fun hi2 => ?_, fun e => ?_⟩, .inr ⟨by omega, by omega, hg, ?_⟩⟩
    · obtain ⟨_, hc2⟩ := noteS_cells hi2
      rcases hc with ⟨a, b, _⟩ | ⟨a, ⟨v, hv, b⟩, _⟩ <;> rcases hc2 with ⟨a2, b2, _⟩ | ⟨a2, ⟨v2, hv2, b2⟩, _⟩
      · omega
      · omega
      · omega
      · refine Decidable.byContradiction fun hne => ?_
        exact noteS_two hd hi2 (fun e => hne (by omega))
    · have : i = k := by omega
      subst this; exact hd
    · rcases hc with ⟨a, b, c⟩ | c
      · rw [b] at c
        exact .inl ⟨a, b, c⟩
      · exact .inr c
  · exact ⟨-1, fun i hi => ⟨fun h2 => absurd ⟨i, hi, h2⟩ h, fun e => by omega⟩, .inl rfl⟩
end Go.Proofs.Ytgemaeibmgkneaa
