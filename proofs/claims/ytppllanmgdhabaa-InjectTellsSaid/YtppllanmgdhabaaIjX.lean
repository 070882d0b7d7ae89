/- Merged: IjA, IjB, IjC, IjD, IjE, IjF. -/
import Derived.Test.YtppllanmgdhabaaInA
namespace Go.Proofs.Ytppllanmgdhabaa
open Go.RowKit Go.Deep
/-- Nobody's call. -/
def fno : Fr := ⟨-1, 0, 0, 0, 0, 0, 0⟩
theorem getD_set_eq {a : List Fr} {i : Nat} (h : i < a.length) (x d : Fr) : (a.set i x).getD i d = x := by
  rw [List.getD_eq_getElem?_getD, List.getElem?_set_self h]; rfl
theorem getD_set_ne {a : List Fr} {i j : Nat} (h : i ≠ j) (x d : Fr) : (a.set i x).getD j d = a.getD j d := by
  rw [List.getD_eq_getElem?_getD, List.getElem?_set_ne h, ← List.getD_eq_getElem?_getD]
/-- A step, by the call's Op. -/
def insS (W D J S : Int) (m : List Int) (f : Fr) : List Int × Fr :=
  if f.op = 3 then enqS W D J S m f else if f.op = 4 then outS W D J S m f else (m, f)
/-- A call has taken place x, and puts in there. -/
def hE (f : Fr) (x : Int) : Prop := f.op = 3 ∧ 3 ≤ f.pc ∧ f.x = x
/-- A call has taken place x, and takes out there. -/
def hD (f : Fr) (x : Int) : Prop := f.op = 4 ∧ 3 ≤ f.pc ∧ f.x = x
/-- Where a call may be: m the cells, h the head, H all that have places, in order. -/
inductive CS (J : Int) (m : List Int) (h : Int) (H : List Int) : Fr → Prop
  | idle : CS J m h H fno
  | e0 (w v x y : Int) : CS J m h H ⟨3, 0, w, v, x, y, 0⟩
  | e1 (w v x y : Int) (hx : 0 ≤ x ∧ x ≤ H.length) : CS J m h H ⟨3, 1, w, v, x, y, 0⟩
  | e2 (w v x y : Int) (hx : 0 ≤ x ∧ x ≤ H.length) (hs : x = H.length → x < h + J ∧ at0 m (sqI J x) = tw J x) : CS J m h H ⟨3, 2, w, v, x, y, 0⟩
  | e3 (w v x y : Int) (hx : h ≤ x ∧ x < H.length) (hq : at0 m (sqI J x) = tw J x) (hv : H[x.toNat]? = some v) : CS J m h H ⟨3, 3, w, v, x, y, 0⟩
  | e4 (w v x y : Int) (hx : h ≤ x ∧ x < H.length) (hq : at0 m (sqI J x) = tw J x) (hv : H[x.toNat]? = some v) (hm : at0 m (vlI J x) = v) : CS J m h H ⟨3, 4, w, v, x, y, 0⟩
  | d0 (w v x y : Int) : CS J m h H ⟨4, 0, w, v, x, y, 0⟩
  | d1 (w v x y : Int) (hx : 0 ≤ x ∧ x ≤ h) : CS J m h H ⟨4, 1, w, v, x, y, 0⟩
  | d2 (w v x y : Int) (hx : 0 ≤ x ∧ x ≤ h) (hs : x = h → x < H.length ∧ at0 m (sqI J x) = tw J x + 1) : CS J m h H ⟨4, 2, w, v, x, y, 0⟩
  | d3 (w v x y : Int) (hx : 0 ≤ x ∧ x < h ∧ h ≤ x + J ∧ H.length ≤ x + J) (hq : at0 m (sqI J x) = tw J x + 1) (hm : H[x.toNat]? = some (at0 m (vlI J x))) : CS J m h H ⟨4, 3, w, v, x, y, 0⟩
  | d4 (w v x y : Int) (hx : 0 ≤ x ∧ x < h ∧ h ≤ x + J ∧ H.length ≤ x + J) (hq : at0 m (sqI J x) = tw J x + 1) (hv : H[x.toNat]? = some v) : CS J m h H ⟨4, 4, w, v, x, y, 0⟩
/-- What holds of the cells, and of all calls at hand. -/
structure VI (J : Int) (m : List Int) (h : Int) (H : List Int) (a : List Fr) : Prop where
  ok : okm 1 1 J 0 m = true
  head : at0 m 4 = h
  tail : at0 m 5 = H.length
  h0 : 0 ≤ h
  hl : h ≤ H.length
  room : (H.length : Int) ≤ h + J
  win : ∀ x : Int, h ≤ x → x < h + J →
    (at0 m (sqI J x) = tw J x - 1 ∧ (H.length : Int) ≤ x ∧ ∃ i, hD (a.getD i fno) (x - J)) ∨
    (at0 m (sqI J x) = tw J x ∧ ((H.length : Int) ≤ x ∨ ∃ i, hE (a.getD i fno) x)) ∨
    (at0 m (sqI J x) = tw J x + 1 ∧ x < H.length ∧ H[x.toNat]? = some (at0 m (vlI J x)))
  cs : ∀ i, CS J m h H (a.getD i fno)
  uE : ∀ i j x, hE (a.getD i fno) x → hE (a.getD j fno) x → i = j
  uD : ∀ i j x, hD (a.getD i fno) x → hD (a.getD j fno) x → i = j
section
variable {J : Int} {m : List Int} {h : Int} {H : List Int} {a : List Fr}
theorem VI.J1 (v : VI J m h H a) : 1 ≤ J ∧ J ≤ 16 := by
  obtain ⟨hm, _⟩ := okm_iff.1 v.ok
  have := (may_lim hm).2.2.1
  omega
theorem CS.hE_ {f : Fr} (c : CS J m h H f) {x : Int} (e : hE f x) : h ≤ x ∧ x < H.length ∧ at0 m (sqI J x) = tw J x ∧ H[x.toNat]? = some f.val := by
  obtain ⟨e1, e2, e3⟩ := e
  cases c <;> simp [fno] at e1 e2 e3 <;> subst e3 <;> refine ⟨?_, ?_, ?_, ?_⟩ <;> first | omega | assumption
theorem CS.hD_ {f : Fr} (c : CS J m h H f) {x : Int} (e : hD f x) : 0 ≤ x ∧ x < h ∧ h ≤ x + J ∧ H.length ≤ x + J ∧ at0 m (sqI J x) = tw J x + 1 ∧ (∃ u, H[x.toNat]? = some u) := by
  obtain ⟨e1, e2, e3⟩ := e
  cases c <;> simp [fno] at e1 e2 e3 <;> subst e3 <;> refine ⟨?_, ?_, ?_, ?_, ?_, ?_⟩ <;> first | omega | assumption | exact ⟨_, ‹_›⟩
/-- A call is where it may be also behind a step of another one. -/
theorem CS.keep {f : Fr} (c : CS J m h H f) {m' : List Int} {h' : Int} {H' : List Int} (hh : h ≤ h') (hH : H.length ≤ H'.length) (hp : ∀ (i : Nat) u, H[i]? = some u → H'[i]? = some u)
    (cE : ∀ x, hE f x → h' ≤ x ∧ at0 m' (sqI J x) = at0 m (sqI J x) ∧ at0 m' (vlI J x) = at0 m (vlI J x))
    (cD : ∀ x, hD f x → h' ≤ x + J ∧ H'.length ≤ x + J ∧ at0 m' (sqI J x) = at0 m (sqI J x) ∧ at0 m' (vlI J x) = at0 m (vlI J x))
    (c2 : H'.length = H.length → (H.length : Int) < h + J → at0 m (sqI J H.length) = tw J H.length → at0 m' (sqI J H.length) = at0 m (sqI J H.length))
    (d2 : h' = h → h < H.length → at0 m (sqI J h) = tw J h + 1 → at0 m' (sqI J h) = at0 m (sqI J h)) : CS J m' h' H' f := by
  cases c with
  | idle => exact .idle
  | e0 => exact .e0 _ _ _ _
  | e1 _ _ _ _ hx => exact .e1 _ _ _ _ (by omega)
  | e2 _ _ x _ hx hs =>
    refine .e2 _ _ _ _ (by omega) fun e => ?_
    have e' : H'.length = H.length := by omega
    obtain ⟨s1, s2⟩ := hs (by omega)
    have ex : x = H.length := by omega
    refine ⟨by omega, ?_⟩
    rw [ex] at s1 s2 ⊢
    rw [c2 e' s1 s2, s2]
  | e3 _ _ x _ hx hq hv =>
    obtain ⟨k1, k2, k3⟩ := cE x ⟨rfl, by simp, rfl⟩
    exact .e3 _ _ _ _ (by omega) (by rw [k2, hq]) (hp _ _ hv)
  | e4 _ _ x _ hx hq hv hm =>
    obtain ⟨k1, k2, k3⟩ := cE x ⟨rfl, by simp, rfl⟩
    exact .e4 _ _ _ _ (by omega) (by rw [k2, hq]) (hp _ _ hv) (by rw [k3, hm])
  | d0 => exact .d0 _ _ _ _
  | d1 _ _ _ _ hx => exact .d1 _ _ _ _ (by omega)
  | d2 _ _ x _ hx hs =>
    refine .d2 _ _ _ _ (by omega) fun e => ?_
    have e' : h' = h := by omega
    obtain ⟨s1, s2⟩ := hs (by omega)
    have ex : x = h := by omega
    refine ⟨by omega, ?_⟩
    rw [ex] at s1 s2 ⊢
    rw [d2 e' s1 s2, s2]
  | d3 _ _ x _ hx hq hm =>
    obtain ⟨k1, k2, k3, k4⟩ := cD x ⟨rfl, by simp, rfl⟩
    exact .d3 _ _ _ _ (by omega) (by rw [k3, hq]) (by rw [k4]; exact hp _ _ hm)
  | d4 _ _ x _ hx hq hv =>
    obtain ⟨k1, k2, k3, k4⟩ := cD x ⟨rfl, by simp, rfl⟩
    exact .d4 _ _ _ _ (by omega) (by rw [k3, hq]) (hp _ _ hv)
/-- A call that turns to one that has taken no place where it had none, or the same one: nothing of the cells changes. -/
theorem VI.turn (v : VI J m h H a) {i : Nat} (hi : i < a.length) {g : Fr} (hg : CS J m h H g) (kE : ∀ x, hE g x ↔ hE (a.getD i fno) x) (kD : ∀ x, hD g x ↔ hD (a.getD i fno) x) : VI J m h H (a.set i g) := by
  have eE : ∀ j x, hE ((a.set i g).getD j fno) x ↔ hE (a.getD j fno) x := fun j x => by
    by_cases e : i = j
    · subst e; rw [getD_set_eq hi]; exact kE x
    · rw [getD_set_ne e]
  have eD : ∀ j x, hD ((a.set i g).getD j fno) x ↔ hD (a.getD j fno) x := fun j x => by
    by_cases e : i = j
    · subst e; rw [getD_set_eq hi]; exact kD x
    · rw [getD_set_ne e]
  refine ⟨v.ok, v.head, v.tail, v.h0, v.hl, v.room, fun x h1 h2 => ?_, fun j => ?_, fun j k x => ?_, fun j k x => ?_⟩
  · have := v.win x h1 h2
    simp only [eE, eD]
    exact this
  · by_cases e : i = j
    · subst e; rw [getD_set_eq hi]; exact hg
    · rw [getD_set_ne e]; exact v.cs j
  · rw [eE, eE]; exact v.uE j k x
  · rw [eD, eD]; exact v.uD j k x
/-- Two places of J in a row have slots of their own. -/
theorem apart {J x y : Int} (hJ : 1 ≤ J) (e : sqI J x = sqI J y) (h1 : x - y < J) (h2 : y - x < J) : x = y := by
  by_cases h : x = y
  · exact h
  · exact absurd e (sq_ne hJ h h1 h2)
theorem sq_vl {J x y : Int} : sqI J x = sqI J y ↔ vlI J x = vlI J y := by unfold sqI vlI; omega
theorem vl_next {J : Int} (x : Int) : vlI J (x + J) = vlI J x := by unfold vlI; rw [Int.add_emod_right]
theorem VI.long (v : VI J m h H a) : 6 + 2 * J + 4 ≤ (m.length : Int) := okm_long v.ok
/-- A place is taken by one who puts in. -/
theorem VI.takeE (v : VI J m h H a) {i : Nat} (hi : i < a.length) {w u x y : Int} (hf : a.getD i fno = ⟨3, 2, w, u, x, y, 0⟩) (hx : x = H.length) :
    VI J (put m 5 (x + 1)) h (H ++ [u]) (a.set i ⟨3, 3, w, u, x, y, 0⟩) := by
  obtain ⟨hJ, _⟩ := v.J1
  have hlong := v.long
  have hc := v.cs i
  rw [hf] at hc
  obtain ⟨x1, x2⟩ : x < h + J ∧ at0 m (sqI J x) = tw J x := by
    cases hc with
    | e2 _ _ _ _ _ hs => exact hs hx
  have hh := v.h0
  have hhl := v.hl
  have sq : ∀ z, at0 (put m 5 (x + 1)) (sqI J z) = at0 m (sqI J z) := fun z => at0_put_ne _ _ (by have := sq_lim hJ z; omega)
  have vl : ∀ z, at0 (put m 5 (x + 1)) (vlI J z) = at0 m (vlI J z) := fun z => at0_put_ne _ _ (by have := vl_lim hJ z; omega)
  have hp : ∀ (k : Nat) z, H[k]? = some z → (H ++ [u])[k]? = some z := fun k z hk => by
    rw [List.getElem?_append_left (List.getElem?_eq_some_iff.1 hk).1]; exact hk
  have hlast : (H ++ [u])[x.toNat]? = some u := by rw [hx]; simp
  have other : ∀ j, i ≠ j → (a.set i ⟨3, 3, w, u, x, y, 0⟩).getD j fno = a.getD j fno := fun j e => getD_set_ne e _ _
  have self : (a.set i ⟨3, 3, w, u, x, y, 0⟩).getD i fno = ⟨3, 3, w, u, x, y, 0⟩ := getD_set_eq hi _ _
  have noE : ∀ z, ¬ hE (a.getD i fno) z := fun z e => by rw [hf] at e; have := e.2.1; simp at this
  have noD : ∀ z, ¬ hD (a.getD i fno) z := fun z e => by rw [hf] at e; have := e.1; simp at this
  have toE : ∀ j z, hE (a.getD j fno) z → hE ((a.set i ⟨3, 3, w, u, x, y, 0⟩).getD j fno) z := fun j z e => by
    have hne : i ≠ j := fun e2 => by subst e2; exact noE z e
    rw [other j hne]; exact e
  have toD : ∀ j z, hD (a.getD j fno) z → hD ((a.set i ⟨3, 3, w, u, x, y, 0⟩).getD j fno) z := fun j z e => by
    have hne : i ≠ j := fun e2 => by subst e2; exact noD z e
    rw [other j hne]; exact e
  have hl1 : ((H ++ [u]).length : Int) = H.length + 1 := by simp
  refine ⟨okm_put v.ok _ _, by rw [at0_put_ne _ _ (by omega)]; exact v.head, by rw [at0_put _ (by omega) (by omega), hl1, hx], hh, by omega, by omega, fun z h1 h2 => ?_, fun j => ?_, fun j k z => ?_, fun j k z => ?_⟩
  · rw [sq, vl, hl1]
    rcases v.win z h1 h2 with ⟨q1, q2, j, q3⟩ | ⟨q1, q2⟩ | ⟨q1, q2, q3⟩
    · refine .inl ⟨q1, ?_, j, toD j _ q3⟩
      by_cases e : z = x
      · rw [e, x2] at q1; omega
      · omega
    · refine .inr (.inl ⟨q1, ?_⟩)
      by_cases e : z = x
      · exact .inr ⟨i, by rw [self]; exact ⟨rfl, by simp, e.symm⟩⟩
      · rcases q2 with q2 | ⟨j, q2⟩
        · exact .inl (by omega)
        · exact .inr ⟨j, toE j _ q2⟩
    · exact .inr (.inr ⟨q1, by omega, hp _ _ q3⟩)
  · by_cases e : i = j
    · subst e
      rw [self]
      exact .e3 _ _ _ _ (by omega) (by rw [sq]; exact x2) hlast
    · rw [other j e]
      refine (v.cs j).keep (Int.le_refl _) (by simp) hp (fun z hz => ⟨((v.cs j).hE_ hz).1, sq z, vl z⟩) (fun z hz => ?_) (fun _ _ _ => sq _) (fun _ _ _ => sq _)
      obtain ⟨r1, r2, r3, r4, r5, _⟩ := (v.cs j).hD_ hz
      refine ⟨r3, ?_, sq z, vl z⟩
      by_cases e : (H.length : Int) = z + J
      · have : sqI J x = sqI J z := by rw [hx, e]; exact sq_next z
        rw [this] at x2
        have t1 : tw J x = tw J z + 2 := by rw [hx, e]; exact tw_next hJ z
        omega
      · omega
  · by_cases e : i = j
    · by_cases e2 : i = k
      · intro _ _; rw [← e, ← e2]
      · subst e
        rw [self, other k e2]
        rintro ⟨_, _, z1⟩ hz
        simp only at z1
        have := ((v.cs k).hE_ hz).2.1
        omega
    · by_cases e2 : i = k
      · subst e2
        rw [self, other j e]
        rintro hz ⟨_, _, z1⟩
        simp only at z1
        have := ((v.cs j).hE_ hz).2.1
        omega
      · rw [other j e, other k e2]; exact v.uE j k z
  · by_cases e : i = j
    · subst e
      rw [self]
      rintro ⟨z1, _⟩ _
      simp at z1
    · by_cases e2 : i = k
      · subst e2
        rw [self]
        rintro _ ⟨z1, _⟩
        simp at z1
      · rw [other j e, other k e2]; exact v.uD j k z
/-- What is put in is stored in its slot. -/
theorem VI.storeE (v : VI J m h H a) {i : Nat} (hi : i < a.length) {w u x y : Int} (hf : a.getD i fno = ⟨3, 3, w, u, x, y, 0⟩) :
    VI J (put m (vlI J x) u) h H (a.set i ⟨3, 4, w, u, x, y, 0⟩) := by
  obtain ⟨hJ, _⟩ := v.J1
  have hlong := v.long
  have hc := v.cs i
  rw [hf] at hc
  obtain ⟨x1, x2, x3⟩ : (h ≤ x ∧ x < H.length) ∧ at0 m (sqI J x) = tw J x ∧ H[x.toNat]? = some u := by
    cases hc with
    | e3 _ _ _ _ a b c => exact ⟨a, b, c⟩
  have hh := v.h0
  have hhl := v.hl
  have hrm := v.room
  have lx := vl_lim hJ x
  have sq : ∀ z, at0 (put m (vlI J x) u) (sqI J z) = at0 m (sqI J z) := fun z => at0_put_ne _ _ (by have := sq_lim hJ z; omega)
  have vlx : at0 (put m (vlI J x) u) (vlI J x) = u := at0_put _ (by omega) (by omega)
  have vl : ∀ z, ¬ sqI J z = sqI J x → at0 (put m (vlI J x) u) (vlI J z) = at0 m (vlI J z) := fun z hz => at0_put_ne _ _ (fun e => hz (sq_vl.2 e.symm))
  have other : ∀ j, i ≠ j → (a.set i ⟨3, 4, w, u, x, y, 0⟩).getD j fno = a.getD j fno := fun j e => getD_set_ne e _ _
  have self : (a.set i ⟨3, 4, w, u, x, y, 0⟩).getD i fno = ⟨3, 4, w, u, x, y, 0⟩ := getD_set_eq hi _ _
  have eE : ∀ j z, hE ((a.set i ⟨3, 4, w, u, x, y, 0⟩).getD j fno) z ↔ hE (a.getD j fno) z := fun j z => by
    by_cases e : i = j
    · subst e; rw [self, hf]; simp [hE]
    · rw [other j e]
  have eD : ∀ j z, hD ((a.set i ⟨3, 4, w, u, x, y, 0⟩).getD j fno) z ↔ hD (a.getD j fno) z := fun j z => by
    by_cases e : i = j
    · subst e; rw [self, hf]; simp [hD]
    · rw [other j e]
  refine ⟨okm_put v.ok _ _, by rw [at0_put_ne _ _ (by omega)]; exact v.head, by rw [at0_put_ne _ _ (by omega)]; exact v.tail, hh, hhl, hrm, fun z h1 h2 => ?_, fun j => ?_, fun j k z => ?_, fun j k z => ?_⟩
  · simp only [eE, eD, sq]
    rcases v.win z h1 h2 with q | q | ⟨q1, q2, q3⟩
    · exact .inl q
    · exact .inr (.inl q)
    · refine .inr (.inr ⟨q1, q2, ?_⟩)
      rw [vl z (fun e => ?_)]
      · exact q3
      · have := apart hJ e (by omega) (by omega)
        subst this
        omega
  · by_cases e : i = j
    · subst e
      rw [self]
      exact .e4 _ _ _ _ x1 (by rw [sq]; exact x2) x3 vlx
    · rw [other j e]
      refine (v.cs j).keep (Int.le_refl _) (Nat.le_refl _) (fun _ _ hk => hk) (fun z hz => ⟨((v.cs j).hE_ hz).1, sq z, vl z fun e2 => ?_⟩) (fun z hz => ?_) (fun _ _ _ => sq _) (fun _ _ _ => sq _)
      · obtain ⟨r1, r2, _⟩ := (v.cs j).hE_ hz
        have := apart hJ e2 (by omega) (by omega)
        subst this
        exact e (v.uE i j z (by rw [hf]; exact ⟨rfl, by simp, rfl⟩) hz)
      · obtain ⟨r1, r2, r3, r4, r5, _⟩ := (v.cs j).hD_ hz
        refine ⟨r3, r4, sq z, vl z fun e2 => ?_⟩
        have e3 : sqI J (z + J) = sqI J x := by rw [sq_next]; exact e2
        have := apart hJ e3 (by omega) (by omega)
        omega
  · rw [eE, eE]; exact v.uE j k z
  · rw [eD, eD]; exact v.uD j k z
/-- One who puts in is over. -/
theorem VI.doneE (v : VI J m h H a) {i : Nat} (hi : i < a.length) {w u x y : Int} (hf : a.getD i fno = ⟨3, 4, w, u, x, y, 0⟩) :
    VI J (put m (sqI J x) (tw J x + 1)) h H (a.set i fno) := by
  obtain ⟨hJ, _⟩ := v.J1
  have hlong := v.long
  have hc := v.cs i
  rw [hf] at hc
  obtain ⟨x1, x2, x3, x4⟩ : (h ≤ x ∧ x < H.length) ∧ at0 m (sqI J x) = tw J x ∧ H[x.toNat]? = some u ∧ at0 m (vlI J x) = u := by
    cases hc with
    | e4 _ _ _ _ a b c d => exact ⟨a, b, c, d⟩
  have hh := v.h0
  have hhl := v.hl
  have hrm := v.room
  have lx := sq_lim hJ x
  have sqx : at0 (put m (sqI J x) (tw J x + 1)) (sqI J x) = tw J x + 1 := at0_put _ (by omega) (by omega)
  have sq : ∀ z, ¬ sqI J z = sqI J x → at0 (put m (sqI J x) (tw J x + 1)) (sqI J z) = at0 m (sqI J z) := fun z hz => at0_put_ne _ _ fun e => hz e.symm
  have vl : ∀ z, at0 (put m (sqI J x) (tw J x + 1)) (vlI J z) = at0 m (vlI J z) := fun z => at0_put_ne _ _ (by have := vl_lim hJ z; omega)
  have other : ∀ j, i ≠ j → (a.set i fno).getD j fno = a.getD j fno := fun j e => getD_set_ne e _ _
  have self : (a.set i fno).getD i fno = fno := getD_set_eq hi _ _
  have meE : hE (a.getD i fno) x := by rw [hf]; exact ⟨rfl, by simp, rfl⟩
  have noD : ∀ z, ¬ hD (a.getD i fno) z := fun z e => by rw [hf] at e; have := e.1; simp at this
  have fE : ∀ z, ¬ hE fno z := fun z e => by have := e.1; simp [fno] at this
  have fD : ∀ z, ¬ hD fno z := fun z e => by have := e.1; simp [fno] at this
  have toE : ∀ j z, ¬ z = x → hE (a.getD j fno) z → hE ((a.set i fno).getD j fno) z := fun j z hz e => by
    have hne : i ≠ j := fun e2 => by
      subst e2
      rw [hf] at e
      exact hz e.2.2.symm
    rw [other j hne]; exact e
  have toD : ∀ j z, hD (a.getD j fno) z → hD ((a.set i fno).getD j fno) z := fun j z e => by
    have hne : i ≠ j := fun e2 => by subst e2; exact noD z e
    rw [other j hne]; exact e
  refine ⟨okm_put v.ok _ _, by rw [at0_put_ne _ _ (by omega)]; exact v.head, by rw [at0_put_ne _ _ (by omega)]; exact v.tail, hh, hhl, hrm, fun z h1 h2 => ?_, fun j => ?_, fun j k z => ?_, fun j k z => ?_⟩
  · rw [vl]
    by_cases e : z = x
    · subst e
      exact .inr (.inr ⟨sqx, x1.2, by rw [x4]; exact x3⟩)
    · rw [sq z (fun e2 => e (apart hJ e2 (by omega) (by omega)))]
      rcases v.win z h1 h2 with ⟨q1, q2, j, q3⟩ | ⟨q1, q2⟩ | q
      · exact .inl ⟨q1, q2, j, toD j _ q3⟩
      · refine .inr (.inl ⟨q1, ?_⟩)
        rcases q2 with q2 | ⟨j, q2⟩
        · exact .inl q2
        · exact .inr ⟨j, toE j _ e q2⟩
      · exact .inr (.inr q)
  · by_cases e : i = j
    · subst e
      rw [self]
      exact .idle
    · rw [other j e]
      refine (v.cs j).keep (Int.le_refl _) (Nat.le_refl _) (fun _ _ hk => hk) (fun z hz => ⟨((v.cs j).hE_ hz).1, sq z fun e2 => ?_, vl z⟩) (fun z hz => ?_) (fun _ t1 t2 => sq _ fun e2 => ?_) (fun _ t1 t2 => sq _ fun e2 => ?_)
      · obtain ⟨r1, r2, _⟩ := (v.cs j).hE_ hz
        have := apart hJ e2 (by omega) (by omega)
        subst this
        exact e (v.uE i j z meE hz)
      · obtain ⟨r1, r2, r3, r4, r5, _⟩ := (v.cs j).hD_ hz
        refine ⟨r3, r4, sq z fun e2 => ?_, vl z⟩
        have e3 : sqI J (z + J) = sqI J x := by rw [sq_next]; exact e2
        have := apart hJ e3 (by omega) (by omega)
        omega
      · have := apart hJ e2 (by omega) (by omega)
        omega
      · have := apart hJ e2 (by omega) (by omega)
        rw [this, x2] at t2
        omega
  · by_cases e : i = j
    · subst e
      rw [self]
      exact fun hz => (fE z hz).elim
    · by_cases e2 : i = k
      · subst e2
        rw [self]
        exact fun _ hz => (fE z hz).elim
      · rw [other j e, other k e2]; exact v.uE j k z
  · by_cases e : i = j
    · subst e
      rw [self]
      exact fun hz => (fD z hz).elim
    · by_cases e2 : i = k
      · subst e2
        rw [self]
        exact fun _ hz => (fD z hz).elim
      · rw [other j e, other k e2]; exact v.uD j k z
/-- A place is taken by one who takes out. -/
theorem VI.takeD (v : VI J m h H a) {i : Nat} (hi : i < a.length) {w u x y : Int} (hf : a.getD i fno = ⟨4, 2, w, u, x, y, 0⟩) (hx : x = h) :
    VI J (put m 4 (x + 1)) (h + 1) H (a.set i ⟨4, 3, w, u, x, y, 0⟩) ∧ x < H.length := by
  obtain ⟨hJ, _⟩ := v.J1
  have hlong := v.long
  have hc := v.cs i
  rw [hf] at hc
  obtain ⟨x1, x2⟩ : x < H.length ∧ at0 m (sqI J x) = tw J x + 1 := by
    cases hc with
    | d2 _ _ _ _ _ hs => exact hs hx
  subst hx
  have hh := v.h0
  have hrm := v.room
  have hval : H[x.toNat]? = some (at0 m (vlI J x)) := by
    rcases v.win x (Int.le_refl _) (by omega) with ⟨q, _⟩ | ⟨q, _⟩ | ⟨_, _, q⟩
    · omega
    · omega
    · exact q
  have sq : ∀ z, at0 (put m 4 (x + 1)) (sqI J z) = at0 m (sqI J z) := fun z => at0_put_ne _ _ (by have := sq_lim hJ z; omega)
  have vl : ∀ z, at0 (put m 4 (x + 1)) (vlI J z) = at0 m (vlI J z) := fun z => at0_put_ne _ _ (by have := vl_lim hJ z; omega)
  have other : ∀ j, i ≠ j → (a.set i ⟨4, 3, w, u, x, y, 0⟩).getD j fno = a.getD j fno := fun j e => getD_set_ne e _ _
  have self : (a.set i ⟨4, 3, w, u, x, y, 0⟩).getD i fno = ⟨4, 3, w, u, x, y, 0⟩ := getD_set_eq hi _ _
  have noE : ∀ z, ¬ hE (a.getD i fno) z := fun z e => by rw [hf] at e; have := e.1; simp at this
  have noD : ∀ z, ¬ hD (a.getD i fno) z := fun z e => by rw [hf] at e; have := e.2.1; simp at this
  have toE : ∀ j z, hE (a.getD j fno) z → hE ((a.set i ⟨4, 3, w, u, x, y, 0⟩).getD j fno) z := fun j z e => by
    have hne : i ≠ j := fun e2 => by subst e2; exact noE z e
    rw [other j hne]; exact e
  have toD : ∀ j z, hD (a.getD j fno) z → hD ((a.set i ⟨4, 3, w, u, x, y, 0⟩).getD j fno) z := fun j z e => by
    have hne : i ≠ j := fun e2 => by subst e2; exact noD z e
    rw [other j hne]; exact e
  refine ⟨⟨okm_put v.ok _ _, by rw [at0_put _ (by omega) (by omega)], by rw [at0_put_ne _ _ (by omega)]; exact v.tail, by omega, by omega, by omega, fun z h1 h2 => ?_, fun j => ?_, fun j k z => ?_, fun j k z => ?_⟩, x1⟩
  · rw [sq, vl]
    by_cases e : z = x + J
    · refine .inl ⟨?_, by omega, i, ?_⟩
      · rw [e, sq_next, x2, tw_next hJ]; omega
      · rw [self]; exact ⟨rfl, by simp, by simp only; omega⟩
    · rcases v.win z (by omega) (by omega) with ⟨q1, q2, j, q3⟩ | ⟨q1, q2⟩ | q
      · exact .inl ⟨q1, q2, j, toD j _ q3⟩
      · refine .inr (.inl ⟨q1, ?_⟩)
        rcases q2 with q2 | ⟨j, q2⟩
        · exact .inl q2
        · exact .inr ⟨j, toE j _ q2⟩
      · exact .inr (.inr q)
  · by_cases e : i = j
    · subst e
      rw [self]
      exact .d3 _ _ _ _ (by omega) (by rw [sq]; exact x2) (by rw [vl]; exact hval)
    · rw [other j e]
      refine (v.cs j).keep (by omega) (Nat.le_refl _) (fun _ _ hk => hk) (fun z hz => ⟨?_, sq z, vl z⟩) (fun z hz => ?_) (fun _ _ _ => sq _) (fun _ _ _ => sq _)
      · obtain ⟨r1, r2, r3, _⟩ := (v.cs j).hE_ hz
        by_cases e2 : z = x
        · rw [e2] at r3; omega
        · omega
      · obtain ⟨r1, r2, r3, r4, r5, _⟩ := (v.cs j).hD_ hz
        exact ⟨by omega, r4, sq z, vl z⟩
  · by_cases e : i = j
    · subst e
      rw [self]
      rintro ⟨z1, _⟩ _
      simp at z1
    · by_cases e2 : i = k
      · subst e2
        rw [self]
        rintro _ ⟨z1, _⟩
        simp at z1
      · rw [other j e, other k e2]; exact v.uE j k z
  · by_cases e : i = j
    · by_cases e2 : i = k
      · intro _ _; rw [← e, ← e2]
      · subst e
        rw [self, other k e2]
        rintro ⟨_, _, z1⟩ hz
        simp only at z1
        have := ((v.cs k).hD_ hz).2.1
        omega
    · by_cases e2 : i = k
      · subst e2
        rw [self, other j e]
        rintro hz ⟨_, _, z1⟩
        simp only at z1
        have := ((v.cs j).hD_ hz).2.1
        omega
      · rw [other j e, other k e2]; exact v.uD j k z
/-- One who takes out is over. -/
theorem VI.doneD (v : VI J m h H a) {i : Nat} (hi : i < a.length) {w u x y : Int} (hf : a.getD i fno = ⟨4, 4, w, u, x, y, 0⟩) :
    VI J (put m (sqI J x) (tw J x + 2)) h H (a.set i fno) := by
  obtain ⟨hJ, _⟩ := v.J1
  have hlong := v.long
  have hc := v.cs i
  rw [hf] at hc
  obtain ⟨x1, x2⟩ : (0 ≤ x ∧ x < h ∧ h ≤ x + J ∧ H.length ≤ x + J) ∧ at0 m (sqI J x) = tw J x + 1 := by
    cases hc with
    | d4 _ _ _ _ a b c => exact ⟨a, b⟩
  have hh := v.h0
  have hhl := v.hl
  have hrm := v.room
  have lx := sq_lim hJ x
  have tx := tw_next hJ x
  have sx := sq_next (J := J) x
  have sqx : at0 (put m (sqI J x) (tw J x + 2)) (sqI J x) = tw J x + 2 := at0_put _ (by omega) (by omega)
  have sq : ∀ z, ¬ sqI J z = sqI J x → at0 (put m (sqI J x) (tw J x + 2)) (sqI J z) = at0 m (sqI J z) := fun z hz => at0_put_ne _ _ fun e => hz e.symm
  have vl : ∀ z, at0 (put m (sqI J x) (tw J x + 2)) (vlI J z) = at0 m (vlI J z) := fun z => at0_put_ne _ _ (by have := vl_lim hJ z; omega)
  have other : ∀ j, i ≠ j → (a.set i fno).getD j fno = a.getD j fno := fun j e => getD_set_ne e _ _
  have self : (a.set i fno).getD i fno = fno := getD_set_eq hi _ _
  have meD : hD (a.getD i fno) x := by rw [hf]; exact ⟨rfl, by simp, rfl⟩
  have noE : ∀ z, ¬ hE (a.getD i fno) z := fun z e => by rw [hf] at e; have := e.1; simp at this
  have fE : ∀ z, ¬ hE fno z := fun z e => by have := e.1; simp [fno] at this
  have fD : ∀ z, ¬ hD fno z := fun z e => by have := e.1; simp [fno] at this
  have toD : ∀ j z, ¬ z = x → hD (a.getD j fno) z → hD ((a.set i fno).getD j fno) z := fun j z hz e => by
    have hne : i ≠ j := fun e2 => by
      subst e2
      rw [hf] at e
      exact hz e.2.2.symm
    rw [other j hne]; exact e
  have toE : ∀ j z, hE (a.getD j fno) z → hE ((a.set i fno).getD j fno) z := fun j z e => by
    have hne : i ≠ j := fun e2 => by subst e2; exact noE z e
    rw [other j hne]; exact e
  refine ⟨okm_put v.ok _ _, by rw [at0_put_ne _ _ (by omega)]; exact v.head, by rw [at0_put_ne _ _ (by omega)]; exact v.tail, hh, hhl, hrm, fun z h1 h2 => ?_, fun j => ?_, fun j k z => ?_, fun j k z => ?_⟩
  · rw [vl]
    by_cases e : z = x + J
    · subst e
      exact .inr (.inl ⟨by rw [sx, sqx, tx], .inl x1.2.2.2⟩)
    · rw [sq z (fun e2 => e (apart hJ (e2.trans sx.symm) (by omega) (by omega)))]
      rcases v.win z h1 h2 with ⟨q1, q2, j, q3⟩ | ⟨q1, q2⟩ | q
      · exact .inl ⟨q1, q2, j, toD j _ (by omega) q3⟩
      · refine .inr (.inl ⟨q1, ?_⟩)
        rcases q2 with q2 | ⟨j, q2⟩
        · exact .inl q2
        · exact .inr ⟨j, toE j _ q2⟩
      · exact .inr (.inr q)
  · by_cases e : i = j
    · subst e
      rw [self]
      exact .idle
    · rw [other j e]
      refine (v.cs j).keep (Int.le_refl _) (Nat.le_refl _) (fun _ _ hk => hk) (fun z hz => ⟨((v.cs j).hE_ hz).1, sq z fun e2 => ?_, vl z⟩) (fun z hz => ?_) (fun _ t1 t2 => sq _ fun e2 => ?_) (fun _ t1 t2 => sq _ fun e2 => ?_)
      · obtain ⟨r1, r2, _⟩ := (v.cs j).hE_ hz
        have := apart hJ (e2.trans sx.symm) (by omega) (by omega)
        omega
      · obtain ⟨r1, r2, r3, r4, r5, _⟩ := (v.cs j).hD_ hz
        refine ⟨r3, r4, sq z fun e2 => ?_, vl z⟩
        have e3 : sqI J (z + J) = sqI J (x + J) := by rw [sq_next, sx]; exact e2
        have := apart hJ e3 (by omega) (by omega)
        obtain rfl : z = x := by omega
        exact e (v.uD i j z meD hz)
      · have := apart hJ (e2.trans sx.symm) (by omega) (by omega)
        rw [e2, x2, this, tx] at t2
        omega
      · have := apart hJ (e2.trans sx.symm) (by omega) (by omega)
        omega
  · by_cases e : i = j
    · subst e
      rw [self]
      exact fun hz => (fE z hz).elim
    · by_cases e2 : i = k
      · subst e2
        rw [self]
        exact fun _ hz => (fE z hz).elim
      · rw [other j e, other k e2]; exact v.uE j k z
  · by_cases e : i = j
    · subst e
      rw [self]
      exact fun hz => (fD z hz).elim
    · by_cases e2 : i = k
      · subst e2
        rw [self]
        exact fun _ hz => (fD z hz).elim
      · rw [other j e, other k e2]; exact v.uD j k z
end
end Go.Proofs.Ytppllanmgdhabaa
namespace Go.Proofs.Ytppllanmgdhabaa
open Go.RowKit Go.Deep
/-- How many steps a call does at most, alone. -/
def rk (h t : Int) (f : Fr) : Nat :=
  if f.pc = 0 then 5 else if f.pc = 1 then (if f.x = (if f.op = 3 then t else h) then 4 else 7) else if f.pc = 2 then (if f.x = (if f.op = 3 then t else h) then 3 else 6) else if f.pc = 3 then 2 else 1
/-- What a step of call i, that was f, comes to: new cells, and the call. -/
inductive Out (J h : Int) (H : List Int) (a : List Fr) (i : Nat) (f : Fr) (m' : List Int) (g : Fr) : Prop
  | goon (hV : VI J m' h H (a.set i g)) (h0 : g.res = 0) (hop : g.op = f.op) (hw : g.who = f.who) (hv : f.op = 3 → g.val = f.val) (hpc : 3 ≤ g.pc ↔ 3 ≤ f.pc) (hx : 3 ≤ f.pc → g.x = f.x) (hr : f = fno ∨ rk h H.length g < rk h H.length f)
  | takeE (w u x y : Int) (hf : f = ⟨3, 2, w, u, x, y, 0⟩) (hx : x = H.length) (hg : g = ⟨3, 3, w, u, x, y, 0⟩) (hV : VI J m' h (H ++ [u]) (a.set i g))
  | takeD (w u x y : Int) (hf : f = ⟨4, 2, w, u, x, y, 0⟩) (hx : x = h) (hl : x < H.length) (hg : g = ⟨4, 3, w, u, x, y, 0⟩) (hV : VI J m' (h + 1) H (a.set i g))
  | doneE (w u x y : Int) (hf : f = ⟨3, 4, w, u, x, y, 0⟩) (hg : g = ⟨3, 0, w, u, 0, 0, 1⟩) (hu : H[x.toNat]? = some u) (hV : VI J m' h H (a.set i fno))
  | doneD (w u x y : Int) (hf : f = ⟨4, 4, w, u, x, y, 0⟩) (hg : g = ⟨4, 0, w, u, 0, 0, 1⟩) (hu : H[x.toNat]? = some u) (hV : VI J m' h H (a.set i fno))
  | full (hf : f.op = 3 ∧ f.pc < 3) (hg : g = ⟨3, 0, f.who, f.val, 0, 0, 2⟩) (hV : VI J m' h H (a.set i fno))
  | empty (hf : f.op = 4 ∧ f.pc < 3) (hg : g = ⟨4, 0, f.who, 0, 0, 0, 3⟩) (hV : VI J m' h H (a.set i fno))
section
variable {J : Int} {m : List Int} {h : Int} {H : List Int} {a : List Fr}
theorem tw_eq {J x : Int} (hJ : 1 ≤ J) (hx : 0 ≤ x) (hl : x < 100000) : tw J x % 18446744073709551616 = tw J x ∧ (tw J x + 1) % 18446744073709551616 = tw J x + 1 ∧ (tw J x + 2) % 18446744073709551616 = tw J x + 2 ∧ 0 ≤ tw J x ∧ tw J x ≤ 200000 := by
  have t := tw_lim (J := J) (x := x) hJ hx
  omega
theorem far_lt {u t : Int} (h : u < t) (hu : -2 ≤ u) (ht : t ≤ 300000) : far u t < 0 := by unfold far wrap64; omega
theorem VI.none (v : VI J m h H a) {i : Nat} (hi : i < a.length) (nE : ∀ x, ¬ hE (a.getD i fno) x) (nD : ∀ x, ¬ hD (a.getD i fno) x) : VI J m h H (a.set i fno) :=
  v.turn hi .idle (fun x => ⟨fun e => by have := e.1; simp [fno] at this, fun e => (nE x e).elim⟩) (fun x => ⟨fun e => by have := e.1; simp [fno] at this, fun e => (nD x e).elim⟩)
/-- What one step comes to. -/
theorem VI.step (v : VI J m h H a) (hlim : H.length ≤ 1000) {i : Nat} (hi : i < a.length) : Out J h H a i (a.getD i fno) (insS 1 1 J 0 m (a.getD i fno)).1 (insS 1 1 J 0 m (a.getD i fno)).2 := by
  obtain ⟨hJ, hJ2⟩ := v.J1
  have hh := v.h0
  have hhl := v.hl
  have hrm := v.room
  have hk := v.ok
  have hc := v.cs i
  have hd := v.head
  have ht := v.tail
  obtain ⟨f, hf⟩ : ∃ f, a.getD i fno = f := ⟨_, rfl⟩
  have e3 : ∀ f : Fr, f.op = 3 → insS 1 1 J 0 m f = enqS 1 1 J 0 m f := fun f e => by unfold insS; rw [if_pos e]
  have e4 : ∀ f : Fr, f.op = 4 → insS 1 1 J 0 m f = outS 1 1 J 0 m f := fun f e => by unfold insS; rw [if_neg (by omega), if_pos e]
  have nE : ∀ f : Fr, f.pc < 3 → ∀ x, ¬ hE f x := fun f e x k => by have := k.2.1; omega
  have nD : ∀ f : Fr, f.pc < 3 → ∀ x, ¬ hD f x := fun f e x k => by have := k.2.1; omega
  -- a turn that holds nothing, before and behind
  have plain : ∀ g : Fr, CS J m h H g → g.pc < 3 → (a.getD i fno).pc < 3 → VI J m h H (a.set i g) := fun g cg p1 p2 =>
    v.turn hi cg (fun x => ⟨fun k => (nE g p1 x k).elim, fun k => (nE _ p2 x k).elim⟩) (fun x => ⟨fun k => (nD g p1 x k).elim, fun k => (nD _ p2 x k).elim⟩)
  have none_ : (a.getD i fno).pc < 3 → VI J m h H (a.set i fno) := fun p => v.none hi (nE _ p) (nD _ p)
  rw [hf] at hc plain none_ ⊢
  cases hc with
  | idle =>
    have e : insS 1 1 J 0 m fno = (m, fno) := by simp [insS, fno]
    rw [e]
    exact .goon (plain fno .idle (by simp [fno]) (by simp [fno])) rfl rfl rfl (fun e => rfl) Iff.rfl (fun _ => rfl) (.inl rfl)
  | e0 w u x y =>
    rw [e3 _ rfl, enqS_0 hk, ht]
    exact .goon (plain _ (.e1 _ _ _ _ (by omega)) (by simp) (by simp)) rfl rfl rfl (fun _ => rfl) (by simp) (by simp) (.inr (by simp [rk]))
  | e1 w u x y hx =>
    obtain ⟨t1, t2, t3, t4, t5⟩ := tw_eq (J := J) (x := x) hJ hx.1 (by omega)
    rw [e3 _ rfl, enqS_1 hk, t1]
    -- what lies at the tail
    have key : x = H.length → (at0 m (sqI J x) = tw J x ∧ x < h + J) ∨ far (at0 m (sqI J x)) (tw J x) < 0 ∧ ¬ at0 m (sqI J x) = tw J x := fun e => by
      by_cases er : x = h + J
      · have tx := tw_next hJ h
        rw [← er] at tx
        have sx : sqI J x = sqI J h := by rw [er]; exact sq_next h
        rw [sx]
        obtain ⟨_, _, _, b4, _⟩ := tw_eq (J := J) (x := h) hJ hh (by omega)
        right
        rcases v.win h (Int.le_refl _) (by omega) with ⟨q1, q2, _⟩ | ⟨q1, _⟩ | ⟨q1, _⟩
        · omega
        · exact ⟨far_lt (by omega) (by omega) (by omega), by omega⟩
        · exact ⟨far_lt (by omega) (by omega) (by omega), by omega⟩
      · rcases v.win x (by omega) (by omega) with ⟨q1, _, _⟩ | ⟨q1, _⟩ | ⟨q1, q2, _⟩
        · exact .inr ⟨far_lt (by omega) (by omega) (by omega), by omega⟩
        · exact .inl ⟨q1, by omega⟩
        · omega
    by_cases c1 : at0 m (sqI J x) = tw J x
    · rw [if_pos c1]
      refine .goon (plain _ (.e2 _ _ _ _ hx fun e => ⟨?_, c1⟩) (by simp) (by simp)) rfl rfl rfl (fun _ => rfl) (by simp) (by simp) (.inr ?_)
      · rcases key e with k | k
        · exact k.2
        · exact absurd c1 k.2
      · simp only [rk]; simp; split <;> omega
    · rw [if_neg c1]
      by_cases c2 : far (at0 m (sqI J x)) (tw J x) < 0
      · rw [if_pos c2]
        exact .full ⟨rfl, by simp⟩ rfl (none_ (by simp))
      · rw [if_neg c2]
        refine .goon (plain _ (.e0 _ _ _ _) (by simp) (by simp)) rfl rfl rfl (fun _ => rfl) (by simp) (by simp) (.inr ?_)
        have hne : ¬ x = H.length := fun e => by
          rcases key e with k | k
          · exact c1 k.1
          · exact c2 k.1
        simp only [rk]; simp [hne]
  | e2 w u x y hx hs =>
    rw [e3 _ rfl, enqS_2 hk, ht]
    by_cases c : (H.length : Int) = x
    · rw [if_pos c, show (x + 1) % 18446744073709551616 = x + 1 by omega]
      exact .takeE w u x y rfl c.symm rfl (v.takeE hi hf c.symm)
    · rw [if_neg c]
      exact .goon (plain _ (.e0 _ _ _ _) (by simp) (by simp)) rfl rfl rfl (fun _ => rfl) (by simp) (by simp) (.inr (by simp [rk]; rw [if_neg (fun e => c e.symm)]; omega))
  | e3 w u x y =>
    rw [e3 _ rfl, enqS_3 hk]
    exact .goon (v.storeE hi hf) rfl rfl rfl (fun _ => rfl) (by simp) (by simp) (.inr (by simp [rk]))
  | e4 w u x y hx hq hv =>
    obtain ⟨t1, t2, t3, t4, t5⟩ := tw_eq (J := J) (x := x) hJ (by omega) (by omega)
    rw [e3 _ rfl, enqS_4 hk, t2]
    exact .doneE w u x y rfl rfl hv (v.doneE hi hf)
  | d0 w u x y =>
    rw [e4 _ rfl, outS_0 hk, hd]
    exact .goon (plain _ (.d1 _ _ _ _ (by omega)) (by simp) (by simp)) rfl rfl rfl (fun e => by simp at e) (by simp) (by simp) (.inr (by simp [rk]))
  | d1 w u x y hx =>
    obtain ⟨t1, t2, t3, t4, t5⟩ := tw_eq (J := J) (x := x) hJ hx.1 (by omega)
    rw [e4 _ rfl, outS_1 hk, t2]
    have key : x = h → (at0 m (sqI J x) = tw J x + 1 ∧ x < H.length) ∨ far (at0 m (sqI J x)) (tw J x + 1) < 0 ∧ ¬ at0 m (sqI J x) = tw J x + 1 := fun e => by
      rcases v.win x (by omega) (by omega) with ⟨q1, _, _⟩ | ⟨q1, _⟩ | ⟨q1, q2, _⟩
      · exact .inr ⟨far_lt (by omega) (by omega) (by omega), by omega⟩
      · exact .inr ⟨far_lt (by omega) (by omega) (by omega), by omega⟩
      · exact .inl ⟨q1, q2⟩
    by_cases c1 : at0 m (sqI J x) = tw J x + 1
    · rw [if_pos c1]
      refine .goon (plain _ (.d2 _ _ _ _ hx fun e => ⟨?_, c1⟩) (by simp) (by simp)) rfl rfl rfl (fun e => by simp at e) (by simp) (by simp) (.inr ?_)
      · rcases key e with k | k
        · exact k.2
        · exact absurd c1 k.2
      · simp only [rk]; simp; split <;> omega
    · rw [if_neg c1]
      by_cases c2 : far (at0 m (sqI J x)) (tw J x + 1) < 0
      · rw [if_pos c2]
        exact .empty ⟨rfl, by simp⟩ rfl (none_ (by simp))
      · rw [if_neg c2]
        refine .goon (plain _ (.d0 _ _ _ _) (by simp) (by simp)) rfl rfl rfl (fun e => by simp at e) (by simp) (by simp) (.inr ?_)
        have hne : ¬ x = h := fun e => by
          rcases key e with k | k
          · exact c1 k.1
          · exact c2 k.1
        simp only [rk]; simp [hne]
  | d2 w u x y hx hs =>
    rw [e4 _ rfl, outS_2 hk, hd]
    by_cases c : h = x
    · rw [if_pos c, show (x + 1) % 18446744073709551616 = x + 1 by omega]
      have k := v.takeD hi hf c.symm
      exact .takeD w u x y rfl c.symm k.2 rfl k.1
    · rw [if_neg c]
      exact .goon (plain _ (.d0 _ _ _ _) (by simp) (by simp)) rfl rfl rfl (fun e => by simp at e) (by simp) (by simp) (.inr (by simp [rk]; rw [if_neg (fun e => c e.symm)]; omega))
  | d3 w u x y hx hq hm =>
    rw [e4 _ rfl, outS_3 hk]
    refine .goon (v.turn hi (.d4 _ _ _ _ hx hq hm) (fun z => ?_) (fun z => ?_)) rfl rfl rfl (fun e => by simp at e) (by simp) (by simp) (.inr (by simp [rk]))
    · rw [hf]; simp [hE]
    · rw [hf]; simp [hD]
  | d4 w u x y hx hq hv =>
    obtain ⟨t1, t2, t3, t4, t5⟩ := tw_eq (J := J) (x := x) hJ (by omega) (by omega)
    rw [e4 _ rfl, outS_4 hk, t3]
    exact .doneD w u x y rfl rfl hv (v.doneD hi hf)
end
end Go.Proofs.Ytppllanmgdhabaa
namespace Go.Proofs.Ytppllanmgdhabaa
open Go.RowKit Go.Deep
/-- Where a play is: the cells, the calls at hand, the calls that are over, and what each has left. -/
structure PI where
  m : List Int
  a : List Fr
  over : List Fr
  left : List (List Fr)
/-- The next call of a list, and what is left of it then. -/
def nxtI (i : Int) : List Fr → Fr × List Fr
  | [] => (fno, [])
  | f :: r => if f.op = 3 ∨ f.op = 4 then (fbg f.op i f.val, r) else nxtI i r
/-- A call begins, if none is at hand. -/
def begI (s : PI) (i : Nat) : PI :=
  if (s.a.getD i fno).op = -1 then { s with a := s.a.set i (nxtI i (s.left.getD i [])).1, left := s.left.set i (nxtI i (s.left.getD i [])).2 } else s
/-- One step of one who is at it. -/
def stepI (J : Int) (s : PI) (i : Nat) : PI :=
  if (insS 1 1 J 0 s.m (s.a.getD i fno)).2.res = 0 then ⟨(insS 1 1 J 0 s.m (s.a.getD i fno)).1, s.a.set i (insS 1 1 J 0 s.m (s.a.getD i fno)).2, s.over, s.left⟩
  else ⟨(insS 1 1 J 0 s.m (s.a.getD i fno)).1, s.a.set i fno, s.over ++ [(insS 1 1 J 0 s.m (s.a.getD i fno)).2], s.left⟩
/-- One step, as one number of 'who' tells. -/
def playI1 (J : Int) (n : Nat) (s : PI) (i : Int) : PI := if 0 ≤ i ∧ i < n then stepI J (begI s i.toNat) i.toNat else s
/-- Ahead of all. -/
def startI (J : Int) (calls : List (List Fr)) : PI := ⟨List.replicate (sz 1 1 J 0).toNat 0, List.replicate calls.length fno, [], calls⟩
def playI (J : Int) (calls : List (List Fr)) (who : List Int) : PI := who.foldl (playI1 J calls.length) (startI J calls)
/-- The calls of one list of bits, and of all. -/
def rowI (i : Nat) (l : List Bool) : List Fr := l.mapIdx fun k b => if b then ⟨4, 0, 0, 0, 0, 0, 0⟩ else ⟨3, 0, 0, 100 * ((i : Int) + 1) + (k : Int), 0, 0, 0⟩
def csI (outs : List (List Bool)) : List (List Fr) := outs.mapIdx rowI
/-- Values of the calls of a kind. -/
def ob (p : Fr → Bool) (o : List Fr) : List Int := (o.filter p).map (·.val)
theorem ob_snoc (p : Fr → Bool) (o : List Fr) (g : Fr) : ob p (o ++ [g]) = ob p o ++ (if p g then [g.val] else []) := by
  unfold ob
  rw [List.filter_append, List.map_append]
  cases h : p g <;> simp [h]
def isPE (f : Fr) : Bool := decide (f.op = 3) && decide (f.res = 1)
def isTD (f : Fr) : Bool := decide (f.op = 4) && decide (f.res = 1)
def isTQ (q : Nat) (f : Fr) : Bool := decide (f.op = 4) && decide (f.res = 1) && decide (f.who = q)
/-- A call that has a place, whose number is one of p's. -/
def pE (p : Int → Bool) (f : Fr) : Bool := decide (f.op = 3) && decide (3 ≤ f.pc) && p f.val
def pD (H : List Int) (p : Int → Bool) (f : Fr) : Bool := decide (f.op = 4) && decide (3 ≤ f.pc) && p (H.getD f.x.toNat 0)
/-- The number that a call is taking out. -/
def hval (H : List Int) (f : Fr) : List Int := if f.op = 4 ∧ 3 ≤ f.pc then [H.getD f.x.toNat 0] else []
/-- What holds behind each step of a play of the calls of 'outs': H all that have places, h the head, nx how many of each list have begun. -/
structure HI (J : Int) (outs : List (List Bool)) (s : PI) (h : Int) (H : List Int) (nx : Nat → Nat) : Prop where
  vi : VI J s.m h H s.a
  al : s.a.length = outs.length
  ll : s.left.length = outs.length
  lf : ∀ (i : Nat) l, outs[i]? = some l → nx i ≤ l.length ∧ s.left.getD i [] = (rowI i l).drop (nx i)
  cur : ∀ i : Nat, (s.a.getD i fno).op ≠ -1 → (s.a.getD i fno).who = i ∧ 1 ≤ nx i ∧ (∃ l, outs[i]? = some l ∧ l[nx i - 1]? = some (decide ((s.a.getD i fno).op = 4))) ∧ ((s.a.getD i fno).op = 3 → (s.a.getD i fno).val = 100 * ((i : Int) + 1) + ((nx i - 1 : Nat) : Int))
  lo : ∀ v ∈ H, ∃ p q : Nat, v = 100 * ((p : Int) + 1) + (q : Int) ∧ (∃ l, outs[p]? = some l ∧ l[q]? = some false) ∧ q < nx p ∧ ((s.a.getD p fno).op = 3 → (s.a.getD p fno).pc < 3 → q + 1 < nx p)
  inc : H.Pairwise fun a b => a / 100 = b / 100 → a < b
  cE : ∀ p : Int → Bool, H.countP p = (ob isPE s.over).countP p + s.a.countP (pE p)
  cD : ∀ p : Int → Bool, (H.take h.toNat).countP p = (ob isTD s.over).countP p + s.a.countP (pD H p)
  fi : ∀ q : Nat, (ob (isTQ q) s.over ++ hval H (s.a.getD q fno)).Sublist (H.take h.toNat)
  sq : ∀ (i : Nat) l, outs[i]? = some l → ((s.over.filter fun f => decide (f.who = (i : Int))).map fun f => decide (f.op = 4)) ++ (if (s.a.getD i fno).op = -1 then [] else [decide ((s.a.getD i fno).op = 4)]) = l.take (nx i)
  ov : ∀ f ∈ s.over, f.res ≠ 0 ∧ (f.op = 3 ∨ f.op = 4) ∧ ∃ i : Nat, f.who = i ∧ i < outs.length
theorem countP_set' {a : List Fr} {i : Nat} (hi : i < a.length) (p : Fr → Bool) (g : Fr) : (a.set i g).countP p + (if p (a.getD i fno) = true then 1 else 0) = a.countP p + (if p g = true then 1 else 0) := by
  induction a generalizing i with
  | nil => simp at hi
  | cons f a ih =>
    cases i with
    | zero =>
      simp only [List.set_cons_zero, List.countP_cons, List.getD_cons_zero]
      omega
    | succ i =>
      have := ih (i := i) (by simpa using hi)
      simp only [List.set_cons_succ, List.countP_cons, List.getD_cons_succ]
      omega
theorem countP_same {a : List Fr} {i : Nat} (hi : i < a.length) {p : Fr → Bool} {g : Fr} (e : p g = p (a.getD i fno)) : (a.set i g).countP p = a.countP p := by
  have := countP_set' hi p g
  rw [e] at this
  omega
theorem getD_of_mem {a : List Fr} {f : Fr} (h : f ∈ a) : ∃ i, i < a.length ∧ a.getD i fno = f := by
  obtain ⟨i, hi, e⟩ := List.mem_iff_getElem.1 h
  exact ⟨i, hi, by rw [List.getD_eq_getElem?_getD, List.getElem?_eq_getElem hi]; exact e⟩
/-- Numbers that differ, from 0 up to n: there are n at most. -/
theorem len_le_of_ne : ∀ (n : Nat) (l : List Int), l.Pairwise (· ≠ ·) → (∀ v ∈ l, 0 ≤ v ∧ v < n) → l.length ≤ n := by
  intro n
  induction n with
  | zero =>
    intro l _ hl
    cases l with
    | nil => simp
    | cons v l => have := hl v (by simp); omega
  | succ n ih =>
    intro l hp hl
    have h1 := ih (l.filter fun v => decide (v ≠ (n : Int))) (hp.filter _) (fun v hv => by
      rw [List.mem_filter] at hv
      have := hl v hv.1
      have h2 : v ≠ (n : Int) := by simpa using hv.2
      omega)
    have h2 : ∀ l : List Int, l.Pairwise (· ≠ ·) → l.length ≤ (l.filter fun v => decide (v ≠ (n : Int))).length + 1 := by
      intro l hp
      induction l with
      | nil => simp
      | cons v l ih2 =>
        obtain ⟨h3, h4⟩ := List.pairwise_cons.1 hp
        by_cases e : v = (n : Int)
        · have : (l.filter fun v => decide (v ≠ (n : Int))) = l := by
            rw [List.filter_eq_self]
            intro u hu
            have := h3 u hu
            simp; omega
          rw [List.filter_cons, if_neg (by simp [e]), this]
          simp
        · rw [List.filter_cons, if_pos (by simp [e])]
          have := ih2 h4
          simp only [List.length_cons]
          omega
    have := h2 l hp
    omega
section
variable {J : Int} {outs : List (List Bool)} {s : PI} {h : Int} {H : List Int} {nx : Nat → Nat}
theorem HI.ne (g : HI J outs s h H nx) : H.Pairwise (· ≠ ·) := g.inc.imp fun hab e => by have := hab (by rw [e]); omega
theorem HI.lim (g : HI J outs s h H nx) (h8 : outs.length ≤ 8) (h30 : ∀ l ∈ outs, l.length ≤ 30) : H.length ≤ 900 := by
  refine len_le_of_ne 900 H g.ne fun v hv => ?_
  obtain ⟨p, q, rfl, ⟨l, h1, h2⟩, _⟩ := g.lo v hv
  have h3 := (List.getElem?_eq_some_iff.1 h1).1
  have h4 := (List.getElem?_eq_some_iff.1 h2).1
  have h5 := h30 l (List.mem_of_getElem? h1)
  omega
/-- What is in H at a place that one who takes out has. -/
theorem HI.xD (g : HI J outs s h H nx) {i : Nat} {x : Int} (k : hD (s.a.getD i fno) x) : x.toNat < H.length := by
  obtain ⟨_, _, _, _, _, u, hu⟩ := (g.vi.cs i).hD_ k
  exact (List.getElem?_eq_some_iff.1 hu).1
theorem getD_app {H : List Int} {n : Nat} (u : Int) (hn : n < H.length) : (H ++ [u]).getD n 0 = H.getD n 0 := by
  rw [List.getD_eq_getElem?_getD, List.getD_eq_getElem?_getD, List.getElem?_append_left hn]
theorem sub_app {a b c : List Int} (h : (a ++ b).Sublist c) (hb : b = []) (x : List Int) : (a ++ x).Sublist (c ++ x) := by
  subst hb
  rw [List.append_nil] at h
  exact h.append (List.Sublist.refl _)
/-- One step. -/
theorem HI.step (g : HI J outs s h H nx) (h8 : outs.length ≤ 8) (h30 : ∀ l ∈ outs, l.length ≤ 30) {i : Nat} (hio : i < outs.length) : ∃ h' H', HI J outs (stepI J s i) h' H' nx ∧ ((insS 1 1 J 0 s.m (s.a.getD i fno)).2.res = 0 → s.a.getD i fno = fno ∨ rk h' H'.length (insS 1 1 J 0 s.m (s.a.getD i fno)).2 < rk h H.length (s.a.getD i fno)) := by
  have hi : i < s.a.length := by rw [g.al]; exact hio
  have hlim := g.lim h8 h30
  have st := g.vi.step (by omega) hi
  have hh := g.vi.h0
  have hhl := g.vi.hl
  have e0 : ∀ x : Fr, (s.a.set i x).getD i fno = x := fun x => getD_set_eq hi x fno
  have ej : ∀ (x : Fr) (j : Nat), j ≠ i → (s.a.set i x).getD j fno = s.a.getD j fno := fun x j hj => getD_set_ne (fun e => hj e.symm) x fno
  have fop : fno.op = -1 := rfl
  have nofE : ∀ p, pE p fno = false := fun p => rfl
  have nofD : ∀ H p, pD H p fno = false := fun H p => rfl
  have nofh : ∀ H, hval H fno = [] := fun H => rfl
  unfold stepI
  generalize hm' : (insS 1 1 J 0 s.m (s.a.getD i fno)).1 = m' at st ⊢
  generalize hgg : (insS 1 1 J 0 s.m (s.a.getD i fno)).2 = gg at st ⊢
  obtain ⟨f, hf⟩ : ∃ f, s.a.getD i fno = f := ⟨_, rfl⟩
  rw [hf] at st
  have hcur := g.cur i
  rw [hf] at hcur
  cases st with
  | goon hV h0 hop hw hv hpc hx hr =>
    rw [if_pos h0]
    refine ⟨h, H, ⟨hV, by simp [g.al], g.ll, g.lf, fun j => ?_, fun v hv' => ?_, g.inc, fun p => ?_, fun p => ?_, fun q => ?_, fun j l hl => ?_, g.ov⟩, ?_⟩
    · by_cases e : j = i
      · subst e
        simp only [e0]
        rw [hop, hw]
        intro k
        obtain ⟨k1, k2, k3, k4⟩ := hcur k
        exact ⟨k1, k2, k3, fun k5 => by rw [hv k5]; exact k4 k5⟩
      · simp only [ej _ _ e]; exact g.cur j
    · obtain ⟨p, q, k1, k2, k3, k4⟩ := g.lo v hv'
      refine ⟨p, q, k1, k2, k3, ?_⟩
      by_cases e : p = i
      · subst e
        simp only [e0]
        rw [hop]
        rw [hf] at k4
        intro a b
        exact k4 a (by omega)
      · simp only [ej _ _ e]; exact k4
    · rw [countP_same hi (by
        rw [hf]; unfold pE
        rw [hop]
        by_cases e : f.op = 3
        · rw [hv e, decide_eq_decide.2 hpc]
        · simp [e])]
      exact g.cE p
    · rw [countP_same hi (by
        rw [hf]; unfold pD
        rw [hop, decide_eq_decide.2 hpc]
        by_cases e : 3 ≤ f.pc
        · rw [hx e]
        · simp [e])]
      exact g.cD p
    · by_cases e : q = i
      · subst e
        simp only [e0]
        have e2 : hval H gg = hval H f := by
          unfold hval
          rw [hop]
          by_cases e : 3 ≤ f.pc
          · rw [hx e]; simp [hpc]
          · simp [hpc, e]
        have := g.fi q
        rw [hf] at this
        rw [e2]; exact this
      · simp only [ej _ _ e]; exact g.fi q
    · by_cases e : j = i
      · subst e
        simp only [e0]
        have := g.sq j l hl
        rw [hf] at this
        rw [hop]; exact this
      · simp only [ej _ _ e]; exact g.sq j l hl
    · intro _; rw [hf]; exact hr
  | takeE w u x y hfe hx hge hV =>
    subst hfe hge
    rw [if_pos rfl]
    obtain ⟨k1, k2, ⟨l0, k3, k5⟩, k4⟩ := hcur (by simp)
    have k4 := k4 rfl
    simp only at k1 k4
    have hx2 : ∀ j z, hD (s.a.getD j fno) z → (H ++ [u]).getD z.toNat 0 = H.getD z.toNat 0 := fun j z k => getD_app u (g.xD k)
    have hnx : nx i ≤ l0.length := (g.lf i l0 k3).1
    have hl30 := h30 l0 (List.mem_of_getElem? k3)
    refine ⟨h, H ++ [u], ⟨hV, by simp [g.al], g.ll, g.lf, fun j => ?_, fun v hv' => ?_, ?_, fun p => ?_, fun p => ?_, fun q => ?_, fun j l hl => ?_, g.ov⟩, ?_⟩
    · by_cases e : j = i
      · subst e
        simp only [e0]
        intro _
        exact ⟨k1, k2, ⟨l0, k3, k5⟩, fun _ => k4⟩
      · simp only [ej _ _ e]; exact g.cur j
    · rcases List.mem_append.1 hv' with hv' | hv'
      · obtain ⟨p, q, r1, r2, r3, r4⟩ := g.lo v hv'
        refine ⟨p, q, r1, r2, r3, ?_⟩
        by_cases e : p = i
        · subst e
          simp only [e0]
          intro _ b
          simp at b
        · simp only [ej _ _ e]; exact r4
      · simp at hv'
        subst hv'
        refine ⟨i, nx i - 1, k4, ⟨l0, k3, k5⟩, by omega, ?_⟩
        simp only [e0]
        intro _ b
        simp at b
    · rw [List.pairwise_append]
      refine ⟨g.inc, List.pairwise_singleton _ _, fun a ha b hb => ?_⟩
      simp at hb
      subst hb
      intro hab
      obtain ⟨p, q, r1, ⟨l, r2, r5⟩, r3, r4⟩ := g.lo a ha
      have hp30 := h30 l (List.mem_of_getElem? r2)
      have hql := (List.getElem?_eq_some_iff.1 r5).1
      have e : p = i := by omega
      subst e
      rw [hf] at r4
      have := r4 rfl (by simp)
      omega
    · have h2 := countP_set' hi (pE p) ⟨3, 3, w, u, x, y, 0⟩
      rw [hf] at h2
      have h3 := g.cE p
      simp only [List.countP_append, List.countP_cons, List.countP_nil]
      have h4 : pE p ⟨3, 2, w, u, x, y, 0⟩ = false := by simp [pE]
      have h5 : pE p ⟨3, 3, w, u, x, y, 0⟩ = p u := by simp [pE]
      rw [h4, h5] at h2
      simp only [Bool.false_eq_true, if_false] at h2
      omega
    · rw [List.take_append_of_le_length (by omega), g.cD p]
      congr 1
      have h2 := countP_same hi (p := pD H p) (g := ⟨3, 3, w, u, x, y, 0⟩) (by rw [hf]; simp [pD])
      rw [← h2]
      refine List.countP_congr fun f' hf' => ?_
      obtain ⟨j, hj, rfl⟩ := getD_of_mem hf'
      by_cases e : j = i
      · subst e; simp only [e0]; simp [pD]
      · simp only [ej _ _ e]
        unfold pD
        by_cases k : (s.a.getD j fno).op = 4 ∧ 3 ≤ (s.a.getD j fno).pc
        · rw [hx2 j _ ⟨k.1, k.2, rfl⟩]
        · have hk := k
          clear k hf'
          generalize s.a.getD j fno = z at hk ⊢
          by_cases k' : z.op = 4
          · have : ¬ 3 ≤ z.pc := fun h => hk ⟨k', h⟩
            simp [this]
          · simp [k']
    · rw [List.take_append_of_le_length (by omega)]
      by_cases e : q = i
      · subst e
        simp only [e0]
        have := g.fi q
        rw [hf] at this
        simpa [hval] using this
      · simp only [ej _ _ e]
        have := g.fi q
        have e2 : hval (H ++ [u]) (s.a.getD q fno) = hval H (s.a.getD q fno) := by
          unfold hval
          by_cases k : (s.a.getD q fno).op = 4 ∧ 3 ≤ (s.a.getD q fno).pc
          · rw [if_pos k, if_pos k, hx2 q _ ⟨k.1, k.2, rfl⟩]
          · rw [if_neg k, if_neg k]
        rw [e2]; exact this
    · by_cases e : j = i
      · subst e
        simp only [e0]
        have := g.sq j l hl
        rw [hf] at this
        exact this
      · simp only [ej _ _ e]; exact g.sq j l hl
    · intro _; right; rw [hf]; simp [rk, hx]
  | takeD w u x y hfe hx hlx hge hV =>
    subst hfe hge
    rw [if_pos rfl]
    obtain ⟨k1, k2, ⟨l0, k3, k5⟩, _⟩ := hcur (by simp)
    simp only at k1
    have et : H.take (h + 1).toNat = H.take h.toNat ++ [H.getD x.toNat 0] := by
      subst hx
      have hlt : x.toNat < H.length := by omega
      rw [show (x + 1).toNat = x.toNat + 1 by omega, List.take_succ_eq_append_getElem hlt, List.getD_eq_getElem?_getD, List.getElem?_eq_getElem hlt]; rfl
    refine ⟨h + 1, H, ⟨hV, by simp [g.al], g.ll, g.lf, fun j => ?_, fun v hv' => ?_, g.inc, fun p => ?_, fun p => ?_, fun q => ?_, fun j l hl => ?_, g.ov⟩, ?_⟩
    · by_cases e : j = i
      · subst e
        simp only [e0]
        intro _
        exact ⟨k1, k2, ⟨l0, k3, k5⟩, fun e => by simp at e⟩
      · simp only [ej _ _ e]; exact g.cur j
    · obtain ⟨p, q, r1, r2, r3, r4⟩ := g.lo v hv'
      refine ⟨p, q, r1, r2, r3, ?_⟩
      by_cases e : p = i
      · subst e
        simp only [e0]
        intro b
        simp at b
      · simp only [ej _ _ e]; exact r4
    · rw [countP_same hi (by rw [hf]; simp [pE])]
      exact g.cE p
    · have h2 := countP_set' hi (pD H p) ⟨4, 3, w, u, x, y, 0⟩
      rw [hf] at h2
      have h3 := g.cD p
      rw [et]
      simp only [List.countP_append, List.countP_cons, List.countP_nil]
      have h4 : pD H p ⟨4, 2, w, u, x, y, 0⟩ = false := by simp [pD]
      have h5 : pD H p ⟨4, 3, w, u, x, y, 0⟩ = p (H.getD x.toNat 0) := by simp [pD]
      rw [h4, h5] at h2
      simp only [Bool.false_eq_true, if_false] at h2
      omega
    · rw [et]
      by_cases e : q = i
      · subst e
        simp only [e0]
        have := g.fi q
        rw [hf] at this
        have e2 : hval H ⟨4, 3, w, u, x, y, 0⟩ = [H.getD x.toNat 0] := by simp [hval]
        rw [e2]
        exact sub_app this (by simp [hval]) _
      · simp only [ej _ _ e]
        exact (g.fi q).trans (List.sublist_append_left _ _)
    · by_cases e : j = i
      · subst e
        simp only [e0]
        have := g.sq j l hl
        rw [hf] at this
        exact this
      · simp only [ej _ _ e]; exact g.sq j l hl
    · intro _; right; rw [hf]; simp [rk, hx]
  | doneE w u x y hfe hge hu hV =>
    subst hfe hge
    rw [if_neg (by simp)]
    obtain ⟨k1, k2, ⟨l0, k3, k5⟩, k4⟩ := hcur (by simp)
    have k4 := k4 rfl
    simp only at k1 k4
    refine ⟨h, H, ⟨hV, by simp [g.al], g.ll, g.lf, fun j => ?_, fun v hv' => ?_, g.inc, fun p => ?_, fun p => ?_, fun q => ?_, fun j l hl => ?_, fun f' hf' => ?_⟩, ?_⟩
    · by_cases e : j = i
      · subst e
        simp only [e0]
        intro b; exact absurd rfl b
      · simp only [ej _ _ e]; exact g.cur j
    · obtain ⟨p, q, r1, r2, r3, r4⟩ := g.lo v hv'
      refine ⟨p, q, r1, r2, r3, ?_⟩
      by_cases e : p = i
      · subst e
        simp only [e0]
        intro b
        simp [fno] at b
      · simp only [ej _ _ e]; exact r4
    · have h2 := countP_set' hi (pE p) fno
      rw [hf] at h2
      have h3 := g.cE p
      have h5 : pE p ⟨3, 4, w, u, x, y, 0⟩ = p u := by simp [pE]
      rw [nofE, h5] at h2
      simp only [Bool.false_eq_true, if_false] at h2
      rw [ob_snoc, if_pos (by simp [isPE])]
      simp only [List.countP_append, List.countP_cons, List.countP_nil]
      omega
    · rw [countP_same hi (by rw [hf, nofD]; simp [pD]), ob_snoc, if_neg (by simp [isTD]), List.append_nil]
      exact g.cD p
    · rw [ob_snoc, if_neg (by simp [isTQ]), List.append_nil]
      by_cases e : q = i
      · subst e
        simp only [e0]
        have := g.fi q
        rw [hf] at this
        simpa [hval, fno] using this
      · simp only [ej _ _ e]; exact g.fi q
    · rw [List.filter_append, List.map_append]
      by_cases e : j = i
      · subst e
        simp only [e0]
        have := g.sq j l hl
        rw [hf] at this
        simpa [fno, k1] using this
      · simp only [ej _ _ e]
        have := g.sq j l hl
        have e2 : ¬ w = (j : Int) := by omega
        simpa [e2] using this
    · rcases List.mem_append.1 hf' with hf' | hf'
      · exact g.ov f' hf'
      · simp at hf'
        subst hf'
        exact ⟨by simp, by simp, i, k1, hio⟩
    · intro e; simp at e
  | doneD w u x y hfe hge hu hV =>
    subst hfe hge
    rw [if_neg (by simp)]
    obtain ⟨k1, k2, ⟨l0, k3, k5⟩, _⟩ := hcur (by simp)
    simp only at k1
    have hux : H.getD x.toNat 0 = u := by rw [List.getD_eq_getElem?_getD, hu]; rfl
    refine ⟨h, H, ⟨hV, by simp [g.al], g.ll, g.lf, fun j => ?_, fun v hv' => ?_, g.inc, fun p => ?_, fun p => ?_, fun q => ?_, fun j l hl => ?_, fun f' hf' => ?_⟩, ?_⟩
    · by_cases e : j = i
      · subst e
        simp only [e0]
        intro b; exact absurd rfl b
      · simp only [ej _ _ e]; exact g.cur j
    · obtain ⟨p, q, r1, r2, r3, r4⟩ := g.lo v hv'
      refine ⟨p, q, r1, r2, r3, ?_⟩
      by_cases e : p = i
      · subst e
        simp only [e0]
        intro b
        simp [fno] at b
      · simp only [ej _ _ e]; exact r4
    · rw [countP_same hi (by rw [hf, nofE]; simp [pE]), ob_snoc, if_neg (by simp [isPE]), List.append_nil]
      exact g.cE p
    · have h2 := countP_set' hi (pD H p) fno
      rw [hf] at h2
      have h3 := g.cD p
      have h5 : pD H p ⟨4, 4, w, u, x, y, 0⟩ = p u := by
        have : pD H p ⟨4, 4, w, u, x, y, 0⟩ = p (H.getD x.toNat 0) := by simp [pD]
        rw [this, hux]
      rw [nofD, h5] at h2
      simp only [Bool.false_eq_true, if_false] at h2
      rw [ob_snoc, if_pos (by simp [isTD])]
      simp only [List.countP_append, List.countP_cons, List.countP_nil]
      omega
    · rw [ob_snoc]
      by_cases e : q = i
      · subst e
        simp only [e0]
        have := g.fi q
        rw [hf] at this
        have e2 : hval H ⟨4, 4, w, u, x, y, 0⟩ = [u] := by
          have : hval H ⟨4, 4, w, u, x, y, 0⟩ = [H.getD x.toNat 0] := by simp [hval]
          rw [this, hux]
        rw [e2] at this
        rw [if_pos (by simp [isTQ, k1]), nofh, List.append_nil]
        exact this
      · simp only [ej _ _ e]
        have e2 : ¬ (i : Int) = (q : Int) := fun k => e (Int.ofNat.inj k).symm
        have := g.fi q
        rw [if_neg (by simp [isTQ, k1, e2]), List.append_nil]; exact this
    · rw [List.filter_append, List.map_append]
      by_cases e : j = i
      · subst e
        simp only [e0]
        have := g.sq j l hl
        rw [hf] at this
        simpa [fno, k1] using this
      · simp only [ej _ _ e]
        have := g.sq j l hl
        have e2 : ¬ w = (j : Int) := by omega
        simpa [e2] using this
    · rcases List.mem_append.1 hf' with hf' | hf'
      · exact g.ov f' hf'
      · simp at hf'
        subst hf'
        exact ⟨by simp, by simp, i, k1, hio⟩
    · intro e; simp at e
  | full hfe hge hV =>
    have npE : ∀ p, pE p f = false := fun p => by unfold pE; rw [decide_eq_false (show ¬ 3 ≤ f.pc by omega)]; simp
    have npD : ∀ H p, pD H p f = false := fun H p => by unfold pD; rw [decide_eq_false (show ¬ 3 ≤ f.pc by omega)]; simp
    obtain ⟨k1, k2, ⟨l0, k3, k5⟩, k4⟩ := hcur (by omega)
    subst hge
    rw [if_neg (by simp)]
    refine ⟨h, H, ⟨hV, by simp [g.al], g.ll, g.lf, fun j => ?_, fun v hv' => ?_, g.inc, fun p => ?_, fun p => ?_, fun q => ?_, fun j l hl => ?_, fun f' hf' => ?_⟩, ?_⟩
    · by_cases e : j = i
      · subst e
        simp only [e0]
        intro b; exact absurd rfl b
      · simp only [ej _ _ e]; exact g.cur j
    · obtain ⟨p, q, r1, r2, r3, r4⟩ := g.lo v hv'
      refine ⟨p, q, r1, r2, r3, ?_⟩
      by_cases e : p = i
      · subst e
        simp only [e0]
        intro b
        simp [fno] at b
      · simp only [ej _ _ e]; exact r4
    · rw [countP_same hi (by rw [hf, nofE, npE]), ob_snoc, if_neg (by simp [isPE]), List.append_nil]
      exact g.cE p
    · rw [countP_same hi (by rw [hf, nofD, npD]), ob_snoc, if_neg (by simp [isTD]), List.append_nil]
      exact g.cD p
    · rw [ob_snoc, if_neg (by simp [isTQ]), List.append_nil]
      by_cases e : q = i
      · subst e
        simp only [e0]
        have := g.fi q
        rw [hf] at this
        have e2 : hval H f = [] := by unfold hval; rw [if_neg (by omega)]
        rw [e2] at this
        exact this
      · simp only [ej _ _ e]; exact g.fi q
    · rw [List.filter_append, List.map_append]
      by_cases e : j = i
      · subst e
        simp only [e0]
        have := g.sq j l hl
        rw [hf] at this
        simpa [fno, k1, hfe.1] using this
      · simp only [ej _ _ e]
        have := g.sq j l hl
        have e2 : ¬ f.who = (j : Int) := by omega
        simpa [e2] using this
    · rcases List.mem_append.1 hf' with hf' | hf'
      · exact g.ov f' hf'
      · simp at hf'
        subst hf'
        exact ⟨by simp, by simp, i, k1, hio⟩
    · intro e; simp at e
  | empty hfe hge hV =>
    have npE : ∀ p, pE p f = false := fun p => by unfold pE; rw [decide_eq_false (show ¬ 3 ≤ f.pc by omega)]; simp
    have npD : ∀ H p, pD H p f = false := fun H p => by unfold pD; rw [decide_eq_false (show ¬ 3 ≤ f.pc by omega)]; simp
    obtain ⟨k1, k2, ⟨l0, k3, k5⟩, k4⟩ := hcur (by omega)
    subst hge
    rw [if_neg (by simp)]
    refine ⟨h, H, ⟨hV, by simp [g.al], g.ll, g.lf, fun j => ?_, fun v hv' => ?_, g.inc, fun p => ?_, fun p => ?_, fun q => ?_, fun j l hl => ?_, fun f' hf' => ?_⟩, ?_⟩
    · by_cases e : j = i
      · subst e
        simp only [e0]
        intro b; exact absurd rfl b
      · simp only [ej _ _ e]; exact g.cur j
    · obtain ⟨p, q, r1, r2, r3, r4⟩ := g.lo v hv'
      refine ⟨p, q, r1, r2, r3, ?_⟩
      by_cases e : p = i
      · subst e
        simp only [e0]
        intro b
        simp [fno] at b
      · simp only [ej _ _ e]; exact r4
    · rw [countP_same hi (by rw [hf, nofE, npE]), ob_snoc, if_neg (by simp [isPE]), List.append_nil]
      exact g.cE p
    · rw [countP_same hi (by rw [hf, nofD, npD]), ob_snoc, if_neg (by simp [isTD]), List.append_nil]
      exact g.cD p
    · rw [ob_snoc, if_neg (by simp [isTQ]), List.append_nil]
      by_cases e : q = i
      · subst e
        simp only [e0]
        have := g.fi q
        rw [hf] at this
        have e2 : hval H f = [] := by unfold hval; rw [if_neg (by omega)]
        rw [e2] at this
        exact this
      · simp only [ej _ _ e]; exact g.fi q
    · rw [List.filter_append, List.map_append]
      by_cases e : j = i
      · subst e
        simp only [e0]
        have := g.sq j l hl
        rw [hf] at this
        simpa [fno, k1, hfe.1] using this
      · simp only [ej _ _ e]
        have := g.sq j l hl
        have e2 : ¬ f.who = (j : Int) := by omega
        simpa [e2] using this
    · rcases List.mem_append.1 hf' with hf' | hf'
      · exact g.ov f' hf'
      · simp at hf'
        subst hf'
        exact ⟨by simp, by simp, i, k1, hio⟩
    · intro e; simp at e
end
end Go.Proofs.Ytppllanmgdhabaa
namespace Go.Proofs.Ytppllanmgdhabaa
open Go.RowKit Go.Deep
section
variable {J : Int} {outs : List (List Bool)} {s : PI} {h : Int} {H : List Int} {nx : Nat → Nat}
theorem CS.idle_of {m : List Int} {f : Fr} (c : CS J m h H f) (e : f.op = -1) : f = fno := by
  cases c <;> first | rfl | simp at e
theorem CS.hand_of {m : List Int} {f : Fr} (c : CS J m h H f) (e : f.op ≠ -1) : f.res = 0 ∧ (f.op = 3 ∨ f.op = 4) ∧ 0 ≤ f.pc ∧ f.pc ≤ 4 := by
  cases c <;> first | exact absurd rfl e | simp
theorem enqS_op (W D J S : Int) (m : List Int) (f : Fr) : (enqS W D J S m f).2.op = f.op := by
  unfold enqS
  repeat' split
  all_goals rfl
theorem outS_op (W D J S : Int) (m : List Int) (f : Fr) : (outS W D J S m f).2.op = f.op := by
  unfold outS
  repeat' split
  all_goals rfl
theorem rk_le (h t : Int) (f : Fr) : rk h t f ≤ 7 := by
  unfold rk
  repeat' split
  all_goals omega
theorem rowI_len (i : Nat) (l : List Bool) : (rowI i l).length = l.length := by simp [rowI]
theorem rowI_get {i k : Nat} {l : List Bool} {b : Bool} (e : l[k]? = some b) : (rowI i l)[k]? = some (if b then ⟨4, 0, 0, 0, 0, 0, 0⟩ else ⟨3, 0, 0, 100 * ((i : Int) + 1) + (k : Int), 0, 0, 0⟩) := by
  unfold rowI; rw [List.getElem?_mapIdx, e]; rfl
theorem rowI_drop {i k : Nat} {l : List Bool} {b : Bool} (e : l[k]? = some b) : (rowI i l).drop k = (if b then ⟨4, 0, 0, 0, 0, 0, 0⟩ else ⟨3, 0, 0, 100 * ((i : Int) + 1) + (k : Int), 0, 0, 0⟩) :: (rowI i l).drop (k + 1) := by
  have hk := (List.getElem?_eq_some_iff.1 e).1
  have h2 := rowI_get (i := i) e
  have hk2 : k < (rowI i l).length := by rw [rowI_len]; exact hk
  rw [List.drop_eq_getElem_cons hk2]
  rw [List.getElem?_eq_getElem hk2] at h2
  injection h2 with h2
  rw [h2]
/-- A call begins. -/
theorem HI.beg (g : HI J outs s h H nx) {i : Nat} (hio : i < outs.length) : ∃ nx', HI J outs (begI s i) h H nx' := by
  unfold begI
  split
  · rename_i hop
    have hi : i < s.a.length := by rw [g.al]; exact hio
    have hil : i < s.left.length := by rw [g.ll]; exact hio
    have hf : s.a.getD i fno = fno := (g.vi.cs i).idle_of hop
    obtain ⟨l, hl⟩ : ∃ l, outs[i]? = some l := ⟨_, List.getElem?_eq_getElem hio⟩
    obtain ⟨n1, n2⟩ := g.lf i l hl
    have e0 : ∀ x : Fr, (s.a.set i x).getD i fno = x := fun x => getD_set_eq hi x fno
    have ej : ∀ (x : Fr) (j : Nat), j ≠ i → (s.a.set i x).getD j fno = s.a.getD j fno := fun x j hj => getD_set_ne (fun e => hj e.symm) x fno
    have el : ∀ (x : List Fr) (j : Nat), (s.left.set i x).getD j [] = if j = i then x else s.left.getD j [] := fun x j => by
      rw [List.getD_eq_getElem?_getD, List.getElem?_set]
      by_cases e : i = j
      · subst e; simp [hil]
      · have e' : ¬ j = i := fun h => e h.symm
        simp [e, e']
    rcases Nat.lt_or_ge (nx i) l.length with hk | hk
    · obtain ⟨b, hb⟩ : ∃ b, l[nx i]? = some b := ⟨_, List.getElem?_eq_getElem hk⟩
      -- the call that begins
      obtain ⟨c, hc, c1, c2, c3, c4⟩ : ∃ c : Fr, nxtI i (s.left.getD i []) = (c, (rowI i l).drop (nx i + 1)) ∧ (c = ⟨4, 0, i, 0, 0, 0, 0⟩ ∧ b = true ∨ c = ⟨3, 0, i, 100 * ((i : Int) + 1) + (nx i : Int), 0, 0, 0⟩ ∧ b = false) ∧ c.who = i ∧ b = decide (c.op = 4) ∧ (c.op = 3 → c.val = 100 * ((i : Int) + 1) + (nx i : Int)) := by
        rw [n2, rowI_drop hb]
        cases b
        · exact ⟨⟨3, 0, i, 100 * ((i : Int) + 1) + (nx i : Int), 0, 0, 0⟩, by simp [nxtI, fbg], by simp, by simp, by simp, fun _ => rfl⟩
        · exact ⟨⟨4, 0, i, 0, 0, 0, 0⟩, by simp [nxtI, fbg], by simp, by simp, by simp, fun e => by simp at e⟩
      rw [hc]
      have cop : c.op ≠ -1 := by rcases c1 with ⟨rfl, _⟩ | ⟨rfl, _⟩ <;> simp
      have cE : ∀ p, pE p c = false := fun p => by rcases c1 with ⟨rfl, _⟩ | ⟨rfl, _⟩ <;> simp [pE]
      have cD : ∀ H p, pD H p c = false := fun H p => by rcases c1 with ⟨rfl, _⟩ | ⟨rfl, _⟩ <;> simp [pD]
      have ch : ∀ H, hval H c = [] := fun H => by rcases c1 with ⟨rfl, _⟩ | ⟨rfl, _⟩ <;> simp [hval]
      have cs : CS J s.m h H c := by
        rcases c1 with ⟨rfl, _⟩ | ⟨rfl, _⟩
        · exact .d0 _ _ _ _
        · exact .e0 _ _ _ _
      have nE : ∀ x, hE c x ↔ hE (s.a.getD i fno) x := fun x => by
        rw [hf]; rcases c1 with ⟨rfl, _⟩ | ⟨rfl, _⟩ <;> simp [hE, fno]
      have nD : ∀ x, hD c x ↔ hD (s.a.getD i fno) x := fun x => by
        rw [hf]; rcases c1 with ⟨rfl, _⟩ | ⟨rfl, _⟩ <;> simp [hD, fno]
      refine ⟨fun j => if j = i then nx i + 1 else nx j, ⟨g.vi.turn hi cs nE nD, by simp [g.al], by simp [g.ll], fun j l' hl' => ?_, fun j => ?_, fun v hv => ?_, g.inc, fun p => ?_, fun p => ?_, fun q => ?_, fun j l' hl' => ?_, g.ov⟩⟩
      · simp only [el]
        by_cases e : j = i
        · subst e
          rw [hl] at hl'
          cases hl'
          rw [if_pos rfl, if_pos rfl]
          exact ⟨hk, rfl⟩
        · rw [if_neg e, if_neg e]; exact g.lf j l' hl'
      · by_cases e : j = i
        · subst e
          simp only [e0, if_true]
          intro _
          exact ⟨c2, by omega, ⟨l, hl, by rw [Nat.add_sub_cancel, hb, c3]⟩, by rw [Nat.add_sub_cancel]; exact c4⟩
        · simp only [ej _ _ e]; rw [if_neg e]; exact g.cur j
      · obtain ⟨p, q, r1, r2, r3, r4⟩ := g.lo v hv
        refine ⟨p, q, r1, r2, ?_, ?_⟩
        · split
          · rename_i e; subst e; omega
          · exact r3
        · by_cases e : p = i
          · subst e; rw [if_pos rfl]; intro _ _; omega
          · simp only [ej _ _ e]; rw [if_neg e]; exact r4
      · rw [countP_same hi (by rw [hf, cE]; rfl)]; exact g.cE p
      · rw [countP_same hi (by rw [hf, cD]; rfl)]; exact g.cD p
      · by_cases e : q = i
        · subst e
          simp only [e0]
          have := g.fi q
          rw [hf] at this
          rw [ch]; exact this
        · simp only [ej _ _ e]; exact g.fi q
      · by_cases e : j = i
        · subst e
          rw [hl] at hl'
          cases hl'
          simp only [e0, if_true]
          have := g.sq j l hl
          rw [hf, if_pos (show fno.op = -1 from rfl), List.append_nil] at this
          rw [if_neg cop, this, List.take_succ_eq_append_getElem hk]
          congr 2
          rw [List.getElem?_eq_getElem hk] at hb
          injection hb with hb
          rw [hb, c3]
        · simp only [ej _ _ e]; rw [if_neg e]; exact g.sq j l' hl'
    · have hx : nxtI i (s.left.getD i []) = (fno, []) := by
        rw [n2, List.drop_eq_nil_of_le (by rw [rowI_len]; exact hk)]; rfl
      rw [hx]
      have ea : s.a.set i fno = s.a := by
        have e2 : s.a[i] = fno := by
          rw [List.getD_eq_getElem?_getD, List.getElem?_eq_getElem hi] at hf
          exact hf
        rw [← e2]; exact List.set_getElem_self hi
      rw [ea]
      refine ⟨nx, ⟨g.vi, g.al, by simp [g.ll], fun j l' hl' => ?_, g.cur, g.lo, g.inc, g.cE, g.cD, g.fi, g.sq, g.ov⟩⟩
      simp only [el]
      by_cases e : j = i
      · subst e
        rw [hl] at hl'
        cases hl'
        rw [if_pos rfl, List.drop_eq_nil_of_le (by rw [rowI_len]; exact hk)]
        exact ⟨n1, rfl⟩
      · rw [if_neg e]; exact g.lf j l' hl'
  · exact ⟨nx, g⟩
theorem sz_lim' {W D J S : Int} (h : may W D J S = true) : 0 ≤ sz W D J S := by
  obtain ⟨hW, hD, hJ, hS⟩ := may_lim h
  rw [sz, if_pos h]
  have := bg_ge (J := J) (w := W) hD.1 hJ.1 (by omega)
  omega
theorem at0_noughts (n : Nat) (i : Int) : at0 (List.replicate n 0) i = 0 := by
  unfold at0
  split
  · rw [List.getD_eq_getElem?_getD, List.getElem?_replicate]; split <;> rfl
  · rfl
theorem csI_len (outs : List (List Bool)) : (csI outs).length = outs.length := by simp [csI]
theorem HI.start (hm : may 1 1 J 0 = true) : HI J outs (startI J (csI outs)) 0 [] (fun _ => 0) := by
  have hJ := (may_lim hm).2.2.1
  have hz := sz_lim' hm
  have hk : okm 1 1 J 0 (startI J (csI outs)).m = true := by
    refine okm_iff.2 ⟨hm, ?_⟩
    unfold startI
    simp only [List.length_replicate]
    rw [sz, if_pos hm] at hz ⊢
    omega
  have ea : ∀ i, (startI J (csI outs)).a.getD i fno = fno := fun i => by
    unfold startI
    simp only
    rw [List.getD_eq_getElem?_getD, List.getElem?_replicate]; split <;> rfl
  have z : ∀ i, at0 (startI J (csI outs)).m i = 0 := fun i => at0_noughts _ i
  have noE : ∀ i x, ¬ hE ((startI J (csI outs)).a.getD i fno) x := fun i x k => by rw [ea] at k; have := k.1; simp [fno] at this
  have noD : ∀ i x, ¬ hD ((startI J (csI outs)).a.getD i fno) x := fun i x k => by rw [ea] at k; have := k.1; simp [fno] at this
  refine ⟨⟨hk, z _, by rw [z]; rfl, by omega, by simp, by simp; omega, fun x h1 h2 => ?_, fun i => by rw [ea]; exact .idle, fun i j x k => (noE _ _ k).elim, fun i j x k => (noD _ _ k).elim⟩, by simp [startI, csI_len], by simp [startI, csI_len], fun i l hl => ⟨by omega, ?_⟩, fun i k => by rw [ea] at k; exact absurd rfl k, fun v hv => by simp at hv, List.Pairwise.nil, fun p => ?_, fun p => ?_, fun q => ?_, fun i l hl => ?_, fun f hf => by simp [startI] at hf⟩
  · right; left
    rw [z]
    refine ⟨?_, .inl (by simpa using h1)⟩
    unfold tw
    rw [Int.ediv_eq_zero_of_lt h1 (by omega)]; rfl
  · simp only [startI, List.drop_zero]
    rw [List.getD_eq_getElem?_getD, csI, List.getElem?_mapIdx, hl]; rfl
  · simp [startI, ob, List.countP_replicate, pE, fno]
  · simp [startI, ob, List.countP_replicate, pD, fno]
  · rw [ea]; simp [startI, ob, hval, fno]
  · rw [ea]; simp [startI, fno]
theorem HI.play1 (g : HI J outs s h H nx) (h8 : outs.length ≤ 8) (h30 : ∀ l ∈ outs, l.length ≤ 30) (i : Int) : ∃ h' H' nx', HI J outs (playI1 J outs.length s i) h' H' nx' := by
  unfold playI1
  split
  · obtain ⟨nx', g'⟩ := g.beg (i := i.toNat) (by omega)
    obtain ⟨h', H', g2, _⟩ := g'.step h8 h30 (i := i.toNat) (by omega)
    exact ⟨h', H', nx', g2⟩
  · exact ⟨h, H, nx, g⟩
theorem HI.play (hm : may 1 1 J 0 = true) (h8 : outs.length ≤ 8) (h30 : ∀ l ∈ outs, l.length ≤ 30) (who : List Int) : ∃ h H nx, HI J outs (playI J (csI outs) who) h H nx := by
  unfold playI
  rw [csI_len]
  have key : ∀ (who : List Int) (s : PI), (∃ h H nx, HI J outs s h H nx) → ∃ h H nx, HI J outs (who.foldl (playI1 J outs.length) s) h H nx := by
    intro who
    induction who with
    | nil => exact fun s h => h
    | cons i who ih =>
      rintro s ⟨h, H, nx, g⟩
      exact ih _ (g.play1 h8 h30 i)
  exact key who _ ⟨_, _, _, HI.start hm⟩
end
/-- A call at hand does its steps until it is over, but so many at most. -/
def restI1 (J : Int) : Nat → List Int → Fr → List Int × Fr
  | 0, m, f => (m, f)
  | n + 1, m, f => if f.op = -1 ∨ f.res ≠ 0 then (m, f) else restI1 J n (insS 1 1 J 0 m f).1 (insS 1 1 J 0 m f).2
/-- All of them, in order: one round. -/
def restIL (J : Int) : List Int → List Fr → List Int × List Fr
  | m, [] => (m, [])
  | m, f :: r => ((restIL J (restI1 J 20 m f).1 r).1, (restI1 J 20 m f).2 :: (restIL J (restI1 J 20 m f).1 r).2)
/-- So many rounds. -/
def restIR (J : Int) : Nat → List Int → List Fr → List Int × List Fr
  | 0, m, a => (m, a)
  | k + 1, m, a => restIR J k (restIL J m a).1 (restIL J m a).2
theorem restI1_over (J : Int) (n : Nat) (m : List Int) (f : Fr) (h : f.op = -1 ∨ f.res ≠ 0) : restI1 J n m f = (m, f) := by
  cases n with
  | zero => rfl
  | succ n => unfold restI1; rw [if_pos h]
theorem restIL_over (J : Int) : ∀ (a : List Fr) (m : List Int), (∀ f ∈ a, f.op = -1 ∨ f.res ≠ 0) → restIL J m a = (m, a)
  | [], m, _ => rfl
  | f :: r, m, h => by
    unfold restIL
    rw [restI1_over J 20 m f (h f (by simp)), restIL_over J r m (fun g hg => h g (by simp [hg]))]
theorem restIR_over (J : Int) (m : List Int) (a : List Fr) (h : ∀ f ∈ a, f.op = -1 ∨ f.res ≠ 0) : ∀ k, restIR J k m a = (m, a)
  | 0 => rfl
  | k + 1 => by
    unfold restIR
    rw [restIL_over J a m h]
    exact restIR_over J m a h k
section
variable {J : Int} {outs : List (List Bool)} {nx : Nat → Nat}
theorem rest_runI (h8 : outs.length ≤ 8) (h30 : ∀ l ∈ outs, l.length ≤ 30) {i : Nat} (hio : i < outs.length) : ∀ (n : Nat) (s : PI) (h : Int) (H : List Int), HI J outs s h H nx → (s.a.getD i fno).op ≠ -1 → rk h H.length (s.a.getD i fno) ≤ n →
    ∃ s' h' H', HI J outs s' h' H' nx ∧ s'.m = (restI1 J n s.m (s.a.getD i fno)).1 ∧ s'.a = s.a.set i fno ∧ s'.over = s.over ++ [(restI1 J n s.m (s.a.getD i fno)).2] ∧ (restI1 J n s.m (s.a.getD i fno)).2.res ≠ 0 ∧ (restI1 J n s.m (s.a.getD i fno)).2.op ≠ -1 := by
  intro n
  induction n with
  | zero =>
    intro s h H g ho hr
    have : 1 ≤ rk h H.length (s.a.getD i fno) := by
      unfold rk; repeat' split
      all_goals omega
    omega
  | succ n ih =>
    intro s h H g ho hr
    have hi : i < s.a.length := by rw [g.al]; exact hio
    obtain ⟨f0, f1, _⟩ := (g.vi.cs i).hand_of ho
    obtain ⟨h', H', g', hr'⟩ := g.step h8 h30 hio
    have e : restI1 J (n + 1) s.m (s.a.getD i fno) = restI1 J n (insS 1 1 J 0 s.m (s.a.getD i fno)).1 (insS 1 1 J 0 s.m (s.a.getD i fno)).2 := by
      show (if _ then _ else _) = _
      rw [if_neg (by omega)]
    rw [e]
    by_cases hz : (insS 1 1 J 0 s.m (s.a.getD i fno)).2.res = 0
    · have hs : stepI J s i = ⟨(insS 1 1 J 0 s.m (s.a.getD i fno)).1, s.a.set i (insS 1 1 J 0 s.m (s.a.getD i fno)).2, s.over, s.left⟩ := by unfold stepI; rw [if_pos hz]
      have hrk : rk h' H'.length (insS 1 1 J 0 s.m (s.a.getD i fno)).2 < rk h H.length (s.a.getD i fno) := by
        rcases hr' hz with k | k
        · rw [k] at ho; exact absurd rfl ho
        · exact k
      rw [hs] at g'
      have hget : (s.a.set i (insS 1 1 J 0 s.m (s.a.getD i fno)).2).getD i fno = (insS 1 1 J 0 s.m (s.a.getD i fno)).2 := getD_set_eq hi _ _
      have hop : (insS 1 1 J 0 s.m (s.a.getD i fno)).2.op ≠ -1 := fun k => by
        unfold insS at k
        split at k
        · rw [enqS_op] at k; exact ho k
        split at k
        · rw [outS_op] at k; exact ho k
        · exact ho k
      obtain ⟨s', h2, H2, k1, k2, k3, k4, k5, k6⟩ := ih ⟨(insS 1 1 J 0 s.m (s.a.getD i fno)).1, s.a.set i (insS 1 1 J 0 s.m (s.a.getD i fno)).2, s.over, s.left⟩ h' H' g' (by simp only; rw [hget]; exact hop) (by simp only; rw [hget]; omega)
      simp only at k2 k3 k4 k5 k6
      rw [hget] at k2 k4 k5 k6
      refine ⟨s', h2, H2, k1, k2, ?_, k4, k5, k6⟩
      rw [k3, List.set_set]
    · have hs : stepI J s i = ⟨(insS 1 1 J 0 s.m (s.a.getD i fno)).1, s.a.set i fno, s.over ++ [(insS 1 1 J 0 s.m (s.a.getD i fno)).2], s.left⟩ := by unfold stepI; rw [if_neg hz]
      rw [restI1_over _ _ _ _ (.inr hz)]
      refine ⟨_, h', H', g', by rw [hs], by rw [hs], by rw [hs], hz, fun k => ?_⟩
      have h2 := (g'.ov (insS 1 1 J 0 s.m (s.a.getD i fno)).2 (by rw [hs]; simp)).2.1
      simp only at k
      omega
/-- What is at hand, and is a call. -/
def isCall (f : Fr) : Bool := decide (0 ≤ f.op)
theorem rest_allI (h8 : outs.length ≤ 8) (h30 : ∀ l ∈ outs, l.length ≤ 30) : ∀ (k i : Nat) (s : PI) (h : Int) (H : List Int), i + k = outs.length → HI J outs s h H nx → (∀ j, j < i → s.a.getD j fno = fno) →
    ∃ s' h' H', HI J outs s' h' H' nx ∧ s'.m = (restIL J s.m (s.a.drop i)).1 ∧ (∀ j, s'.a.getD j fno = fno) ∧ s'.over = s.over ++ (restIL J s.m (s.a.drop i)).2.filter isCall
      ∧ (∀ g ∈ (restIL J s.m (s.a.drop i)).2, g = fno ∨ (g.res ≠ 0 ∧ 0 ≤ g.op)) := by
  intro k
  induction k with
  | zero =>
    intro i s h H hi g hj
    have hl := g.al
    rw [List.drop_eq_nil_of_le (by omega)]
    refine ⟨s, h, H, g, rfl, fun j => ?_, by simp [restIL], by simp [restIL]⟩
    rcases Nat.lt_or_ge j i with k | k
    · exact hj j k
    · rw [List.getD_eq_getElem?_getD, List.getElem?_eq_none (by omega)]; rfl
  | succ k ih =>
    intro i s h H hi g hj
    have hl := g.al
    have hil : i < s.a.length := by omega
    have hget : s.a[i] = s.a.getD i fno := by rw [List.getD_eq_getElem?_getD, List.getElem?_eq_getElem hil]; rfl
    rw [List.drop_eq_getElem_cons hil, hget]
    by_cases hf : (s.a.getD i fno).op = -1
    · have hf2 := (g.vi.cs i).idle_of hf
      have e : restI1 J 20 s.m (s.a.getD i fno) = (s.m, s.a.getD i fno) := restI1_over _ _ _ _ (.inl hf)
      obtain ⟨s', h', H', g', h2, h3, h4, h5⟩ := ih (i + 1) s h H (by omega) g (fun j hji => by
        rcases Nat.lt_or_ge j i with k | k
        · exact hj j k
        · obtain rfl : j = i := by omega
          exact hf2)
      refine ⟨s', h', H', g', ?_, h3, ?_, ?_⟩
      · simp only [restIL]; rw [e]; exact h2
      · simp only [restIL]; rw [e, List.filter_cons, hf2, if_neg (by simp [isCall, fno])]; exact h4
      · simp only [restIL]; rw [e]
        intro f' hf'
        rcases List.mem_cons.1 hf' with rfl | hf'
        · exact .inl hf2
        · exact h5 f' hf'
    · obtain ⟨s1, h1, H1, g1, g2, g3, g4, g5, g6⟩ := rest_runI h8 h30 (i := i) (by omega) 20 s h H g hf (by have := rk_le h H.length (s.a.getD i fno); omega)
      obtain ⟨s', h', H', g', h2, h3, h4, h5⟩ := ih (i + 1) s1 h1 H1 (by omega) g1 (fun j hji => by
        rw [g3]
        rcases Nat.lt_or_ge j i with k | k
        · rw [getD_set_ne (by omega)]; exact hj j k
        · obtain rfl : j = i := by omega
          exact getD_set_eq hil _ _)
      have ed : s1.a.drop (i + 1) = s.a.drop (i + 1) := by rw [g3, List.drop_set_of_lt (by omega)]
      rw [ed, g2] at h2 h4 h5
      have hp : 0 ≤ (restI1 J 20 s.m (s.a.getD i fno)).2.op := by
        have := (g1.ov (restI1 J 20 s.m (s.a.getD i fno)).2 (by rw [g4]; simp)).2.1
        omega
      refine ⟨s', h', H', g', ?_, h3, ?_, ?_⟩
      · simp only [restIL]; exact h2
      · simp only [restIL]
        rw [h4, g4, List.filter_cons, if_pos (show isCall _ = true from decide_eq_true hp), List.append_assoc]; rfl
      · simp only [restIL]
        intro f' hf'
        rcases List.mem_cons.1 hf' with rfl | hf'
        · exact .inr ⟨g5, hp⟩
        · exact h5 f' hf'
/-- Ten rounds do no more than one, and what is at hand is over. -/
theorem rest_tenI (h8 : outs.length ≤ 8) (h30 : ∀ l ∈ outs, l.length ≤ 30) {s : PI} {h : Int} {H : List Int} (g : HI J outs s h H nx) :
    ∃ s' h' H', HI J outs s' h' H' nx ∧ s'.m = (restIR J 10 s.m s.a).1 ∧ (∀ j, s'.a.getD j fno = fno) ∧ s'.over = s.over ++ (restIR J 10 s.m s.a).2.filter isCall
      ∧ (∀ g ∈ (restIR J 10 s.m s.a).2, g = fno ∨ (g.res ≠ 0 ∧ 0 ≤ g.op)) := by
  obtain ⟨s', h', H', g', h2, h3, h4, h5⟩ := rest_allI h8 h30 outs.length 0 s h H (by omega) g (fun j hj => by omega)
  rw [List.drop_zero] at h2 h4 h5
  have e : restIR J 10 s.m s.a = restIL J s.m s.a := by
    show restIR J 9 _ _ = _
    rw [restIR_over J _ _ (fun f hf => ?_) 9]
    rcases h5 f hf with rfl | k
    · exact .inl rfl
    · exact .inr k.1
  rw [e]
  exact ⟨s', h', H', g', h2, h3, h4, h5⟩
end
end Go.Proofs.Ytppllanmgdhabaa
namespace Go.Proofs.Ytppllanmgdhabaa
open Go.RowKit Go.Deep
theorem ob_len (p : Fr → Bool) (o : List Fr) : (ob p o).length = o.countP p := by
  unfold ob; rw [List.length_map, ← List.countP_eq_length_filter]
theorem countP_len {α : Type} (l : List α) : l.countP (fun _ => true) = l.length := by
  induction l with
  | nil => rfl
  | cons a l ih => simp [ih]
section
variable {J : Int} {outs : List (List Bool)} {s : PI} {h : Int} {H : List Int} {nx : Nat → Nat}
theorem VI.ilen {m : List Int} {a : List Fr} (v : VI J m h H a) (hl : H.length ≤ 1000) : ilen 1 1 J 0 m = H.length - h := by
  have := v.h0
  have := v.hl
  unfold Go.Proofs.Ytppllanmgdhabaa.ilen
  rw [if_pos v.ok, v.head, v.tail]
  unfold far wrap64
  omega
/-- InjectRoom, on lists. -/
theorem HI.roomI (g : HI J outs s h H nx) (h8 : outs.length ≤ 8) (h30 : ∀ l ∈ outs, l.length ≤ 30) :
    (s.over.countP isPE : Int) - s.over.countP isTD ≤ J + s.a.countP (fun f => decide (f.op = 4)) ∧ 0 ≤ ilen 1 1 J 0 s.m ∧ ilen 1 1 J 0 s.m ≤ J := by
  have hlim := g.lim h8 h30
  have e := g.vi.ilen (by omega)
  have := g.vi.h0
  have := g.vi.hl
  have := g.vi.room
  have cE := g.cE fun _ => true
  have cD := g.cD fun _ => true
  rw [countP_len, countP_len, ob_len] at cE cD
  rw [List.length_take] at cD
  have hc : s.a.countP (pD H fun _ => true) ≤ s.a.countP (fun f => decide (f.op = 4)) := by
    refine List.countP_mono_left fun f _ hf => ?_
    unfold pD at hf
    simp only [Bool.and_eq_true] at hf
    exact hf.1.1
  refine ⟨by omega, by omega, by omega⟩
/-- With nobody at it an injector has its list. -/
theorem VI.rests {m : List Int} {a : List Fr} (v : VI J m h H a) (hl : H.length ≤ 1000) (hn : ∀ j, a.getD j fno = fno) : ilst 1 1 J 0 m = some (H.drop h.toNat) ∧ Go.Proofs.Ytppllanmgdhabaa.ilen 1 1 J 0 m = (H.drop h.toNat).length := by
  have h0 := v.h0
  have hhl := v.hl
  have hr := v.room
  have noE : ∀ i x, ¬ hE (a.getD i fno) x := fun i x k => by rw [hn] at k; have := k.1; simp [fno] at this
  have noD : ∀ i x, ¬ hD (a.getD i fno) x := fun i x k => by rw [hn] at k; have := k.1; simp [fno] at this
  refine ilst_of v.ok ⟨v.head, by rw [v.tail, List.length_drop]; omega, by rw [List.length_drop]; omega, h0, by omega, fun i hi => ?_, fun i u hi => ?_⟩
  · rw [List.length_drop]
    rcases v.win (h + i) (by omega) (by omega) with ⟨_, _, j, q⟩ | ⟨q1, q2 | ⟨j, q2⟩⟩ | ⟨q1, q2, _⟩
    · exact (noD _ _ q).elim
    · rw [q1, if_neg (by omega)]; omega
    · exact (noE _ _ q2).elim
    · rw [q1, if_pos (by omega)]
  · rw [List.getElem?_drop] at hi
    have hlt := (List.getElem?_eq_some_iff.1 hi).1
    rcases v.win (h + i) (by omega) (by omega) with ⟨_, _, j, q⟩ | ⟨q1, q2 | ⟨j, q2⟩⟩ | ⟨q1, q2, q3⟩
    · exact (noD _ _ q).elim
    · omega
    · exact (noE _ _ q2).elim
    · rw [show (h + (i : Int)).toNat = h.toNat + i by omega, hi] at q3
      injection q3 with q3
      exact q3.symm
theorem ob_mem {p : Fr → Bool} {o : List Fr} {f : Fr} (hf : f ∈ o) (hp : p f = true) : f.val ∈ ob p o := by
  unfold ob
  exact List.mem_map.2 ⟨f, List.mem_filter.2 ⟨hf, hp⟩, rfl⟩
theorem mem_of_cnt {l : List Int} {v : Int} (h : 0 < l.countP fun u => decide (u = v)) : v ∈ l := by
  obtain ⟨u, hu, e⟩ := List.countP_pos_iff.1 h
  simp at e
  subst e
  exact hu
theorem cnt_of_mem {l : List Int} {v : Int} (h : v ∈ l) : 0 < l.countP fun u => decide (u = v) := List.countP_pos_iff.2 ⟨v, h, by simp⟩
theorem ob_cnt (p : Fr → Bool) (o : List Fr) (v : Int) : (ob p o).countP (fun u => decide (u = v)) = o.countP fun f => p f && decide (f.val = v) := by
  unfold ob
  rw [List.countP_map, List.countP_filter]
  refine List.countP_congr fun f _ => ?_
  simp [and_comm]
/-- Each number that was put in, or taken out, is one that there was. -/
theorem HI.isOne (g : HI J outs s h H nx) {f : Fr} (hf : f ∈ s.over) (hr : f.res = 1) : ∃ p q : Nat, f.val = 100 * ((p : Int) + 1) + (q : Int) ∧ ∃ l, outs[p]? = some l ∧ l[q]? = some false := by
  have hm : f.val ∈ H := by
    rcases (g.ov f hf).2.1 with k | k
    · have h1 := cnt_of_mem (ob_mem hf (show isPE f = true by simp [isPE, k, hr]))
      have h2 := g.cE fun u => decide (u = f.val)
      exact mem_of_cnt (by omega)
    · have h1 := cnt_of_mem (ob_mem hf (show isTD f = true by simp [isTD, k, hr]))
      have h2 := g.cD fun u => decide (u = f.val)
      exact List.mem_of_mem_take (mem_of_cnt (l := H.take h.toNat) (by omega))
  obtain ⟨p, q, k1, k2, _⟩ := g.lo _ hm
  exact ⟨p, q, k1, k2⟩
/-- A number is there once at most. -/
theorem cnt_le_one : ∀ {l : List Int}, l.Pairwise (· ≠ ·) → ∀ v, (l.countP fun u => decide (u = v)) ≤ 1
  | [], _, _ => by simp
  | u :: l, hp, v => by
    obtain ⟨h1, h2⟩ := List.pairwise_cons.1 hp
    have ih := cnt_le_one h2 v
    rw [List.countP_cons]
    by_cases e : u = v
    · have : (l.countP fun u => decide (u = v)) = 0 := by
        rw [List.countP_eq_zero]
        intro x hx
        have := h1 x hx
        simp; omega
      rw [this]; split <;> omega
    · rw [if_neg (by simpa using e)]; omega
/-- InjectOnce, on lists. -/
theorem HI.onceI (g : HI J outs s h H nx) (h8 : outs.length ≤ 8) (h30 : ∀ l ∈ outs, l.length ≤ 30) (hn : ∀ j, s.a.getD j fno = fno) (v : Int) :
    ∃ l, ilst 1 1 J 0 s.m = some l ∧ ilen 1 1 J 0 s.m = l.length ∧ l.length ≤ 16 ∧ (s.over.countP fun f => isPE f && decide (f.val = v)) ≤ 1 ∧ (s.over.countP fun f => isTD f && decide (f.val = v)) + (l.countP fun u => decide (u = v)) = s.over.countP fun f => isPE f && decide (f.val = v) := by
  have hlim := g.lim h8 h30
  obtain ⟨e1, e2⟩ := g.vi.rests (by omega) hn
  have hJ := g.vi.J1
  have := g.vi.room
  have := g.vi.h0
  have zE : ∀ p, s.a.countP (pE p) = 0 := fun p => by
    rw [List.countP_eq_zero]
    intro f hf
    obtain ⟨i, _, rfl⟩ := getD_of_mem hf
    rw [hn]; simp [pE, fno]
  have zD : ∀ p, s.a.countP (pD H p) = 0 := fun p => by
    rw [List.countP_eq_zero]
    intro f hf
    obtain ⟨i, _, rfl⟩ := getD_of_mem hf
    rw [hn]; simp [pD, fno]
  have c1 := g.cE fun u => decide (u = v)
  have c2 := g.cD fun u => decide (u = v)
  rw [zE, ob_cnt] at c1
  rw [zD, ob_cnt] at c2
  have c3 := cnt_le_one g.ne v
  have c4 : (H.countP fun u => decide (u = v)) = ((H.take h.toNat).countP fun u => decide (u = v)) + (H.drop h.toNat).countP fun u => decide (u = v) := by
    rw [← List.countP_append, List.take_append_drop]
  refine ⟨_, e1, e2, by rw [List.length_drop]; omega, by omega, by omega⟩
/-- What q has taken out of i's numbers rises. -/
def qi (q : Nat) (i : Int) (f : Fr) : Bool := isTQ q f && decide (f.val / 100 = i)
def lastv (p : Fr → Bool) (l : List Fr) : Int := ((l.filter p).map (·.val)).getLastD 0
theorem lastv_snoc (p : Fr → Bool) (l : List Fr) (f : Fr) : lastv p (l ++ [f]) = if p f then f.val else lastv p l := by
  unfold lastv
  rw [List.filter_append, List.map_append]
  cases h : p f <;> simp [h]
theorem HI.orderI (g : HI J outs s h H nx) (q : Nat) (i : Int) (hi : 0 < i) {j : Nat} (hj : j < s.over.length) (hp : qi q i s.over[j] = true) : lastv (qi q i) (s.over.take j) < s.over[j].val := by
  have h1 : (ob (isTQ q) s.over).Sublist H := ((List.sublist_append_left _ _).trans (g.fi q)).trans (List.take_sublist _ _)
  have h2 : (ob (qi q i) s.over).Pairwise (· < ·) := by
    have e : ob (qi q i) s.over = (ob (isTQ q) s.over).filter fun u => decide (u / 100 = i) := by
      unfold ob
      rw [List.filter_map, List.filter_filter]
      congr 1
      refine List.filter_congr fun f _ => ?_
      simp [qi, Bool.and_comm]
    rw [e]
    have h3 := (g.inc.sublist h1).filter (fun u => decide (u / 100 = i))
    refine List.Pairwise.imp_of_mem ?_ h3
    intro a b ha hb hab
    have a1 := (List.mem_filter.1 ha).2
    have b1 := (List.mem_filter.1 hb).2
    simp at a1 b1
    exact hab (by rw [a1, b1])
  have hs : s.over = s.over.take j ++ s.over[j] :: s.over.drop (j + 1) := by rw [← List.drop_eq_getElem_cons hj, List.take_append_drop]
  rw [hs] at h2
  have e2 : ob (qi q i) (s.over.take j ++ s.over[j] :: s.over.drop (j + 1)) = ob (qi q i) (s.over.take j) ++ s.over[j].val :: ob (qi q i) (s.over.drop (j + 1)) := by
    unfold ob
    rw [List.filter_append, List.filter_cons, if_pos hp]; simp
  rw [e2, List.pairwise_append] at h2
  have h4 := h2.2.2
  have hv : 0 < s.over[j].val := by
    unfold qi at hp
    simp only [Bool.and_eq_true, decide_eq_true_eq] at hp
    omega
  unfold lastv
  show (ob (qi q i) (s.over.take j)).getLastD 0 < _
  cases e : ob (qi q i) (s.over.take j) with
  | nil => simpa using hv
  | cons a l =>
    rw [List.getLastD_cons]
    have : (a :: l).getLast (by simp) ∈ ob (qi q i) (s.over.take j) := by rw [e]; exact List.getLast_mem _
    have h5 := h4 _ this s.over[j].val (by simp)
    rw [List.getLast_eq_getLastD] at h5
    exact h5
/-- InjectWho, on lists: a call that is over is the one of its list. -/
def isW (i : Int) (f : Fr) : Bool := decide (f.who = i)
theorem HI.whoI (g : HI J outs s h H nx) {i : Nat} {l : List Bool} (hl : outs[i]? = some l) {j : Nat} (hj : j < s.over.length) (hw : s.over[j].who = i) : l[(s.over.take j).countP (isW i)]? = some (decide (s.over[j].op = 4)) ∧ s.over[j].res ≠ 0 := by
  refine ⟨?_, (g.ov _ (List.getElem_mem hj)).1⟩
  have h1 := g.sq i l hl
  have hs : s.over = s.over.take j ++ s.over[j] :: s.over.drop (j + 1) := by rw [← List.drop_eq_getElem_cons hj, List.take_append_drop]
  rw [hs, List.filter_append, List.filter_cons, if_pos (by simpa using hw), List.map_append, List.map_cons] at h1
  have hc : (s.over.take j).countP (isW i) = ((s.over.take j).filter fun f => decide (f.who = (i : Int))).length := List.countP_eq_length_filter
  have h2 := congrArg (fun x => x[((s.over.take j).filter fun f => decide (f.who = (i : Int))).length]?) h1
  simp only [List.append_assoc] at h2
  rw [List.getElem?_append_right (by simp), List.length_map, Nat.sub_self] at h2
  simp only [List.cons_append, List.getElem?_cons_zero] at h2
  rw [hc]
  rw [List.getElem?_take] at h2
  split at h2
  · exact h2.symm
  · cases h2
theorem HI.whoE (g : HI J outs s h H nx) {i : Nat} {l : List Bool} (hl : outs[i]? = some l) : s.over.countP (isW i) ≤ l.length ∧ ((s.a.getD i fno).op ≠ -1 → l[s.over.countP (isW i)]? = some (decide ((s.a.getD i fno).op = 4)) ∧ (s.a.getD i fno).res = 0) := by
  have h1 := g.sq i l hl
  have hc : s.over.countP (isW i) = (s.over.filter fun f => decide (f.who = (i : Int))).length := List.countP_eq_length_filter
  have hlen := congrArg List.length h1
  rw [List.length_append, List.length_map, List.length_take] at hlen
  refine ⟨by omega, fun k => ⟨?_, ((g.vi.cs i).hand_of k).1⟩⟩
  rw [if_neg k] at h1
  have h2 := congrArg (fun x => x[(s.over.filter fun f => decide (f.who = (i : Int))).length]?) h1
  rw [List.getElem?_append_right (by simp), List.length_map, Nat.sub_self] at h2
  simp only [List.getElem?_cons_zero] at h2
  rw [hc]
  rw [List.getElem?_take] at h2
  split at h2
  · exact h2.symm
  · cases h2
end
theorem stepI_grows (J : Int) (s : PI) (i : Nat) : (∃ r, (stepI J s i).over = s.over ++ r) ∧ (stepI J s i).a.length = s.a.length := by
  unfold stepI
  split
  · exact ⟨⟨[], by simp⟩, by simp⟩
  · exact ⟨⟨_, rfl⟩, by simp⟩
theorem begI_grows (s : PI) (i : Nat) : (begI s i).over = s.over ∧ (begI s i).a.length = s.a.length := by
  unfold begI
  split
  · exact ⟨rfl, by simp⟩
  · exact ⟨rfl, rfl⟩
/-- InjectFirst, on lists. -/
theorem fold_grows (J : Int) (n : Nat) : ∀ (who : List Int) (s : PI), (∃ r, (who.foldl (playI1 J n) s).over = s.over ++ r) ∧ (who.foldl (playI1 J n) s).a.length = s.a.length
  | [], s => ⟨⟨[], by simp⟩, rfl⟩
  | i :: who, s => by
    rw [List.foldl_cons]
    obtain ⟨⟨r, h1⟩, h2⟩ := fold_grows J n who (playI1 J n s i)
    rw [h1, h2]
    unfold playI1
    split
    · obtain ⟨⟨r2, h3⟩, h4⟩ := stepI_grows J (begI s i.toNat) i.toNat
      obtain ⟨h5, h6⟩ := begI_grows s i.toNat
      rw [h3, h4, h5, h6]
      exact ⟨⟨r2 ++ r, by simp⟩, rfl⟩
    · exact ⟨⟨r, rfl⟩, rfl⟩
theorem first_I (J : Int) (calls : List (List Fr)) (who : List Int) (k : Nat) : (∃ r, (playI J calls who).over = (playI J calls (who.take k)).over ++ r) ∧ (playI J calls who).a.length = (playI J calls (who.take k)).a.length := by
  have e : playI J calls who = (who.drop k).foldl (playI1 J calls.length) (playI J calls (who.take k)) := by
    unfold playI
    rw [← List.foldl_append, List.take_append_drop]
  rw [e]
  exact fold_grows J calls.length (who.drop k) _
theorem playI_al (J : Int) (calls : List (List Fr)) (who : List Int) : (playI J calls who).a.length = calls.length := by
  unfold playI
  rw [(fold_grows J calls.length who _).2]
  simp [startI]
end Go.Proofs.Ytppllanmgdhabaa
namespace Go.Proofs.Ytppllanmgdhabaa
open Go.RowKit Go.Deep
/-- The calls one behind the other, each at once, at a list: do they come to what they are? -/
def seqI (J : Int) : List Int → List Fr → Option (List Int)
  | l, [] => some l
  | l, g :: r => if (on l J (fbg g.op 0 (if g.op = 3 then g.val else 0))).2.res = g.res ∧ (on l J (fbg g.op 0 (if g.op = 3 then g.val else 0))).2.val = g.val then seqI J (on l J (fbg g.op 0 (if g.op = 3 then g.val else 0))).1 r else none
theorem itN_shift (g : List Int → Fr → List Int × Fr) (n : Nat) (s : List Int × Fr) : itN g (n + 1) s = itN g n (g s.1 s.2) := by
  induction n with
  | zero => rfl
  | succ n ih => rw [itN_one ih]; rfl
theorem insS_op (W D J S : Int) (m : List Int) (f : Fr) : (insS W D J S m f).2.op = f.op := by
  unfold insS
  split
  · exact enqS_op _ _ _ _ _ _
  split
  · exact outS_op _ _ _ _ _ _
  · rfl
theorem itN_ins3 {W D J S : Int} : ∀ (n : Nat) {m : List Int} {f : Fr}, f.op = 3 → itN (insS W D J S) n (m, f) = itN (enqS W D J S) n (m, f)
  | 0, _, _, _ => rfl
  | n + 1, m, f, h => by
    rw [itN_shift, itN_shift]
    have e : insS W D J S m f = enqS W D J S m f := by unfold insS; rw [if_pos h]
    simp only [e]
    exact itN_ins3 n (m := (enqS W D J S m f).1) (f := (enqS W D J S m f).2) (by rw [enqS_op]; exact h)
theorem itN_ins4 {W D J S : Int} : ∀ (n : Nat) {m : List Int} {f : Fr}, f.op = 4 → itN (insS W D J S) n (m, f) = itN (outS W D J S) n (m, f)
  | 0, _, _, _ => rfl
  | n + 1, m, f, h => by
    rw [itN_shift, itN_shift]
    have e : insS W D J S m f = outS W D J S m f := by unfold insS; rw [if_neg (by omega), if_pos h]
    simp only [e]
    exact itN_ins4 n (m := (outS W D J S m f).1) (f := (outS W D J S m f).2) (by rw [outS_op]; exact h)
theorem insS_over {W D J S : Int} (m : List Int) (f : Fr) (h : f.res ≠ 0) : insS W D J S m f = (m, f) := by
  unfold insS
  split
  · exact enqS_over m f h
  split
  · exact outS_over m f h
  · rfl
/-- One call runs to its end. -/
theorem run_I {J : Int} {over : List Fr} {left : List (List Fr)} : ∀ (p : Nat) (m : List Int) (f : Fr), f.op ≠ -1 → f.res = 0 → (∀ j, j < p + 1 → (itN (insS 1 1 J 0) j (m, f)).2.res = 0) → (itN (insS 1 1 J 0) (p + 1) (m, f)).2.res ≠ 0 →
    (List.replicate (p + 1) (0 : Int)).foldl (playI1 J 1) ⟨m, [f], over, left⟩ = ⟨(itN (insS 1 1 J 0) (p + 1) (m, f)).1, [fno], over ++ [(itN (insS 1 1 J 0) (p + 1) (m, f)).2], left⟩ := by
  intro p
  induction p with
  | zero =>
    intro m f ho hr _ hp
    have e1 : itN (insS 1 1 J 0) (0 + 1) (m, f) = insS 1 1 J 0 m f := rfl
    rw [e1] at hp ⊢
    have eb : begI ⟨m, [f], over, left⟩ 0 = ⟨m, [f], over, left⟩ := by unfold begI; rw [if_neg (by simpa using ho)]
    show playI1 J 1 _ 0 = _
    unfold playI1
    rw [if_pos (by simp), show (0 : Int).toNat = 0 from rfl, eb]
    unfold stepI
    simp only [List.getD_cons_zero, List.set_cons_zero]
    rw [if_neg hp]
  | succ p ih =>
    intro m f ho hr hj hp
    have eb : begI ⟨m, [f], over, left⟩ 0 = ⟨m, [f], over, left⟩ := by unfold begI; rw [if_neg (by simpa using ho)]
    have h1 : (insS 1 1 J 0 m f).2.res = 0 := hj 1 (by omega)
    have es : playI1 J 1 ⟨m, [f], over, left⟩ 0 = ⟨(insS 1 1 J 0 m f).1, [(insS 1 1 J 0 m f).2], over, left⟩ := by
      unfold playI1
      rw [if_pos (by simp), show (0 : Int).toNat = 0 from rfl, eb]
      unfold stepI
      simp only [List.getD_cons_zero, List.set_cons_zero]
      rw [if_pos h1]
    rw [List.replicate_succ, List.foldl_cons, es]
    rw [ih (insS 1 1 J 0 m f).1 (insS 1 1 J 0 m f).2 (by rw [insS_op]; exact ho) h1 (fun j k => by
      have := hj (j + 1) (by omega)
      rw [itN_shift] at this
      exact this) (by rw [itN_shift] at hp; exact hp)]
    rw [itN_shift _ (p + 1) (m, f)]
/-- The first step at which a call is over. -/
theorem first_over {g : List Int → Fr → List Int × Fr} (hg : ∀ m f, f.res ≠ 0 → g m f = (m, f)) {s : List Int × Fr} (h0 : s.2.res = 0) : ∀ n : Nat, (itN g n s).2.res ≠ 0 → ∃ p, p + 1 ≤ n ∧ (∀ j, j < p + 1 → (itN g j s).2.res = 0) ∧ itN g (p + 1) s = itN g n s
  | 0, h => absurd h0 h
  | n + 1, h => by
    by_cases e : (itN g n s).2.res = 0
    · by_cases h2 : ∀ j, j < n + 1 → (itN g j s).2.res = 0
      · exact ⟨n, Nat.le_refl _, h2, rfl⟩
      · exfalso
        apply h2
        intro j hj
        by_cases e2 : (itN g j s).2.res = 0
        · exact e2
        · have := itN_stay hg e2 (n - j)
          rw [show j + (n - j) = n by omega] at this
          rw [this] at e
          exact absurd e e2
    · obtain ⟨p, h1, h2, h3⟩ := first_over hg h0 n e
      refine ⟨p, by omega, h2, ?_⟩
      rw [h3, itN_stay hg e 1]
theorem on_enq (l : List Int) (J v : Int) : (on l J (fbg 3 0 v)).2.op = 3 ∧ (on l J (fbg 3 0 v)).2.val = v ∧ (on l J (fbg 3 0 v)).2.res ≠ 0 := by
  have e : on l J (fbg 3 0 v) = onPut l J (fbg 3 0 v) := by simp [on, fbg]
  rw [e]
  unfold onPut
  split <;> simp [ed, fbg]
theorem on_deq (l : List Int) (J : Int) : (on l J (fbg 4 0 0)).2.op = 4 ∧ (on l J (fbg 4 0 0)).2.res ≠ 0 := by
  have e : on l J (fbg 4 0 0) = onFirst l (fbg 4 0 0) := by simp [on, fbg]
  rw [e]
  cases l <;> simp [onFirst, ed, fbg]
theorem turn_step {J : Int} {outs : List Bool} (h30 : outs.length ≤ 30) : ∀ (r k : Nat) (m : List Int) (l : List Int) (h : Int) (over : List Fr) (N : Nat), k + r = outs.length → okm 1 1 J 0 m = true → Vi J m h l → h ≤ k → 9 * r ≤ N →
    ∃ R l', ((List.replicate N (0 : Int)).foldl (playI1 J 1) ⟨m, [fno], over, [(rowI 0 outs).drop k]⟩).over = over ++ R ∧ R.length = r ∧ seqI J l R = some l' := by
  intro r
  induction r with
  | zero =>
    intro k m l h over N hk hok hv hh hN
    have ed : (rowI 0 outs).drop k = [] := List.drop_eq_nil_of_le (by rw [rowI_len]; omega)
    rw [ed]
    have one : playI1 J 1 ⟨m, [fno], over, [[]]⟩ 0 = ⟨m, [fno], over, [[]]⟩ := by
      have eb : begI ⟨m, [fno], over, [[]]⟩ 0 = ⟨m, [fno], over, [[]]⟩ := by unfold begI; simp [fno, nxtI]
      unfold playI1
      rw [if_pos (by simp), show (0 : Int).toNat = 0 from rfl, eb]
      simp [stepI, insS, fno]
    have all : ∀ N, (List.replicate N (0 : Int)).foldl (playI1 J 1) ⟨m, [fno], over, [[]]⟩ = ⟨m, [fno], over, [[]]⟩ := by
      intro N
      induction N with
      | zero => rfl
      | succ N ih => rw [List.replicate_succ, List.foldl_cons, one, ih]
    rw [all]
    exact ⟨[], l, by simp, rfl, rfl⟩
  | succ r ih =>
    intro k m l h over N hk hok hv hh hN
    obtain ⟨b, hb⟩ : ∃ b, outs[k]? = some b := ⟨_, List.getElem?_eq_getElem (by omega)⟩
    -- the call, and how it ends
    obtain ⟨f, m', h', hf1, hf2, hf3, hf4, hf5, hf6, hf7, hf8⟩ : ∃ (f : Fr) (m' : List Int) (h' : Int), nxtI 0 ((rowI 0 outs).drop k) = (f, (rowI 0 outs).drop (k + 1)) ∧ (f.op = 3 ∨ f.op = 4) ∧ f.res = 0 ∧ itN (insS 1 1 J 0) 9 (m, f) = (m', (on l J f).2) ∧ (on l J f).2.res ≠ 0 ∧ f = fbg (on l J f).2.op 0 (if (on l J f).2.op = 3 then (on l J f).2.val else 0) ∧ okm 1 1 J 0 m' = true ∧ (Vi J m' h' (on l J f).1 ∧ h' ≤ h + 1) := by
      rw [rowI_drop hb]
      cases b
      · obtain ⟨m', a1, a2, a3⟩ := enq_alone (w := 0) (v := 100 * (((0 : Nat) : Int) + 1) + (k : Int)) hok hv
        obtain ⟨o1, o2, o3⟩ := on_enq l J (100 * (((0 : Nat) : Int) + 1) + (k : Int))
        refine ⟨fbg 3 0 (100 * (((0 : Nat) : Int) + 1) + (k : Int)), m', h, by simp [nxtI], by simp [fbg], by simp [fbg], ?_, o3, ?_, a2, a3, by omega⟩
        · rw [itN_ins3 9 (by simp [fbg])]; exact a1
        · rw [o1, o2, if_pos rfl]
      · obtain ⟨m', h', a1, a2, a3, a4⟩ := out_alone (w := 0) (v := 0) hok hv (by omega)
        obtain ⟨o1, o2⟩ := on_deq l J
        refine ⟨fbg 4 0 0, m', h', by simp [nxtI], by simp [fbg], by simp [fbg], ?_, o2, ?_, a2, a3, a4⟩
        · rw [itN_ins4 9 (by simp [fbg])]; exact a1
        · rw [o1, if_neg (by omega)]
    obtain ⟨p, hp1, hp2, hp3⟩ := first_over (g := insS 1 1 J 0) insS_over (s := (m, f)) hf3 9 (by rw [hf4]; exact hf5)
    have hp4 : (itN (insS 1 1 J 0) (p + 1) (m, f)).2.res ≠ 0 := by rw [hp3, hf4]; exact hf5
    -- the first step begins the call
    have ef : playI1 J 1 ⟨m, [fno], over, [(rowI 0 outs).drop k]⟩ 0 = playI1 J 1 ⟨m, [f], over, [(rowI 0 outs).drop (k + 1)]⟩ 0 := by
      have eb : begI ⟨m, [fno], over, [(rowI 0 outs).drop k]⟩ 0 = ⟨m, [f], over, [(rowI 0 outs).drop (k + 1)]⟩ := by
        unfold begI
        simp only [List.getD_cons_zero, List.set_cons_zero]
        rw [if_pos (show fno.op = -1 from rfl)]
        have : ((0 : Nat) : Int) = 0 := rfl
        rw [this, hf1]
      have eb2 : begI ⟨m, [f], over, [(rowI 0 outs).drop (k + 1)]⟩ 0 = ⟨m, [f], over, [(rowI 0 outs).drop (k + 1)]⟩ := by
        unfold begI
        simp only [List.getD_cons_zero]
        rw [if_neg (by omega)]
      unfold playI1
      rw [if_pos (by simp), if_pos (by simp), show (0 : Int).toNat = 0 from rfl, eb, eb2]
    have er : (List.replicate N (0 : Int)) = List.replicate (p + 1) 0 ++ List.replicate (N - (p + 1)) 0 := by
      rw [List.replicate_append_replicate]; congr 1; omega
    rw [er, List.foldl_append]
    have eg : (List.replicate (p + 1) (0 : Int)).foldl (playI1 J 1) ⟨m, [fno], over, [(rowI 0 outs).drop k]⟩ = ⟨m', [fno], over ++ [(on l J f).2], [(rowI 0 outs).drop (k + 1)]⟩ := by
      rw [List.replicate_succ, List.foldl_cons, ef, ← List.foldl_cons, ← List.replicate_succ]
      rw [run_I p m f (by omega) hf3 hp2 hp4, hp3, hf4]
    rw [eg]
    obtain ⟨R, l', q1, q2, q3⟩ := ih (k + 1) m' (on l J f).1 h' (over ++ [(on l J f).2]) (N - (p + 1)) (by omega) hf7 hf8.1 (by have := hf8.2; omega) (by omega)
    refine ⟨(on l J f).2 :: R, l', by rw [q1]; simp, by simp [q2], ?_⟩
    unfold seqI
    rw [← hf6, if_pos ⟨rfl, rfl⟩]
    exact q3
/-- InjectTurn, on lists. -/
theorem turn_I {J : Int} (hm : may 1 1 J 0 = true) {outs : List Bool} (h30 : outs.length ≤ 30) :
    (playI J (csI [outs]) (List.replicate (9 * outs.length) 0)).over.length = outs.length ∧ ∃ l', seqI J [] (playI J (csI [outs]) (List.replicate (9 * outs.length) 0)).over = some l' := by
  have hz := sz_lim' hm
  have hk : okm 1 1 J 0 (List.replicate (sz 1 1 J 0).toNat 0) = true := by
    refine okm_iff.2 ⟨hm, ?_⟩
    simp only [List.length_replicate]
    rw [sz, if_pos hm] at hz ⊢
    omega
  obtain ⟨R, l', h1, h2, h3⟩ := turn_step (J := J) h30 outs.length 0 _ [] 0 [] (9 * outs.length) (by omega) hk (Vi.new hm _) (by omega) (Nat.le_refl _)
  have e : playI J (csI [outs]) (List.replicate (9 * outs.length) 0) = (List.replicate (9 * outs.length) (0 : Int)).foldl (playI1 J 1) ⟨List.replicate (sz 1 1 J 0).toNat 0, [fno], [], [(rowI 0 outs).drop 0]⟩ := by
    unfold playI startI csI
    simp
  rw [e, h1]
  exact ⟨by simpa using h2, l', by simpa using h3⟩
/-- .. at one of its calls. -/
theorem seqI_at {J : Int} : ∀ (o : List Fr) (l l' : List Int), seqI J l o = some l' → ∀ j (hj : j < o.length), ∃ k, seqI J l (o.take j) = some k ∧ (on k J (fbg o[j].op 0 (if o[j].op = 3 then o[j].val else 0))).2.res = o[j].res ∧ (on k J (fbg o[j].op 0 (if o[j].op = 3 then o[j].val else 0))).2.val = o[j].val ∧ seqI J l (o.take (j + 1)) = some (on k J (fbg o[j].op 0 (if o[j].op = 3 then o[j].val else 0))).1
  | [], _, _, _, j, hj => by simp at hj
  | g :: o, l, l', h, j, hj => by
    have go : ∀ r, seqI J l (g :: r) = if (on l J (fbg g.op 0 (if g.op = 3 then g.val else 0))).2.res = g.res ∧ (on l J (fbg g.op 0 (if g.op = 3 then g.val else 0))).2.val = g.val then seqI J (on l J (fbg g.op 0 (if g.op = 3 then g.val else 0))).1 r else none := fun r => rfl
    rw [go] at h
    by_cases hc : (on l J (fbg g.op 0 (if g.op = 3 then g.val else 0))).2.res = g.res ∧ (on l J (fbg g.op 0 (if g.op = 3 then g.val else 0))).2.val = g.val
    · rw [if_pos hc] at h
      cases j with
      | zero =>
        refine ⟨l, rfl, hc.1, hc.2, ?_⟩
        simp only [List.take_succ_cons, List.take_zero, List.getElem_cons_zero]
        rw [go, if_pos hc]; rfl
      | succ j =>
        obtain ⟨k, h1, h2, h3, h4⟩ := seqI_at o _ l' h j (by simpa using hj)
        refine ⟨k, ?_, h2, h3, ?_⟩
        · rw [List.take_succ_cons, go, if_pos hc]; exact h1
        · rw [List.take_succ_cons, go, if_pos hc]; exact h4
    · rw [if_neg hc] at h; cases h
end Go.Proofs.Ytppllanmgdhabaa
