/- The event, and all who wait and wake, in any order, on lists (layer 16): what holds of every play. -/
import Derived.Test.YtgemaeibmgkneaaEvM
namespace Go.Proofs.Ytgemaeibmgkneaa
open Go.RowKit Go.Deep
set_option maxRecDepth 100000 in
theorem isEv_iff {o : Int} : isEv o = true ↔ o = 5 ∨ o = 6 ∨ o = 7 := by
  unfold isEv
  simp only [Bool.and_eq_true, decide_eq_true_eq]
  omega
set_option maxRecDepth 100000 in
theorem nxtE_cases (i : Int) : ∀ l : List Int, (nxtE i l = (fnE, []) ∧ l.filter isEv = []) ∨ ∃ o r, nxtE i l = (fbg o i 0, r) ∧ isEv o = true ∧ l.filter isEv = o :: r.filter isEv ∧ o ∈ l ∧ ∀ u ∈ r, u ∈ l
  | [] => .inl ⟨rfl, rfl⟩
  | o :: r => by
    by_cases h : isEv o = true
    · refine .inr ⟨o, r, ?_, h, by rw [List.filter_cons_of_pos h], by simp, fun u hu => by simp [hu]⟩
      unfold nxtE; rw [if_pos h]
    · have e : nxtE i (o :: r) = nxtE i r := by rw [nxtE, if_neg h]
      rw [e, List.filter_cons_of_neg h]
      rcases nxtE_cases i r with h1 | ⟨o', r', h1, h2, h3, h4, h5⟩
      · exact .inl h1
      · exact .inr ⟨o', r', h1, h2, h3, by simp [h4], fun u hu => by simp [h5 u hu]⟩
/-- Who is 'i', by a test. -/
def isWE (i : Nat) (f : Fr) : Bool := decide (f.who = i)
/-- What holds of a play of these lists, t at most behind its beginning. -/
structure HE (calls : List (List Int)) (s : PE) (t : Nat) : Prop where
  si : SI calls.length s.m s.a t
  ll : s.left.length = calls.length
  of : ∀ i, i < calls.length → (s.over.filter (isWE i)).map (·.op) ++ (if (s.a.getD i fnE).op = -1 then [] else [(s.a.getD i fnE).op]) ++ (s.left.getD i []).filter isEv = (calls.getD i []).filter isEv
  ov : ∀ f ∈ s.over, (f.op = 5 ∧ (f.res = 1 ∨ f.res = 4) ∨ (f.op = 6 ∨ f.op = 7) ∧ (f.res = 1 ∨ f.res = 3)) ∧ ∃ i : Nat, i < calls.length ∧ f.who = i
section
variable {calls : List (List Int)} {s : PE} {t : Nat}
set_option maxRecDepth 100000 in
theorem HE.op_no (h : HE calls s t) {i : Nat} (hi : i < calls.length) : (s.a.getD i fnE).op = -1 ↔ s.a.getD i fnE = fnE := by
  constructor
  · intro e
    rcases h.si.fi i hi with h1 | h1
    · exact h1
    · have := h1.ops; omega
  · intro e; rw [e]; rfl
set_option maxRecDepth 100000 in
theorem HE.start (h1 : 1 ≤ calls.length) (h8 : calls.length ≤ 8) : HE calls (startE calls) 0 := by
  have hm : may calls.length 1 1 0 = true := by
    unfold may p2
    rw [wi_true.2 (by omega)]
    decide
  have hsz : sz calls.length 1 1 0 = bg 1 1 calls.length := by unfold sz; rw [hm]; rfl
  have hbg : bg 1 1 calls.length = 8 + 4 * calls.length := by unfold bg; omega
  have a0 : ∀ (k : Nat) (i : Int), at0 (List.replicate k (0 : Int)) i = 0 := fun k i => by
    by_cases h : 0 ≤ i ∧ i < k
    · rw [at0_in h.1 (by rw [List.length_replicate]; exact h.2)]; simp
    · exact at0_out (by rw [List.length_replicate]; omega)
  have ag : ∀ i : Nat, (startE calls).a.getD i fnE = fnE := fun i => by
    show (List.replicate calls.length fnE).getD i fnE = fnE
    rw [List.getD_eq_getElem?_getD, List.getElem?_replicate]
    split <;> rfl
  have hlen : (startE calls).m.length = (sz calls.length 1 1 0).toNat := List.length_replicate
  refine ⟨⟨h1, h8, okm_iff.2 ⟨hm, by rw [hlen, hsz, hbg]; omega⟩, fun u hu => ?_, List.length_replicate, fun i _ => .inl (ag i), fun w _ => ?_, fun w => .inl (a0 _ _), by show at0 (List.replicate _ 0) 2 / 65536 ≤ _; rw [a0]; decide⟩, rfl, fun i hi => ?_, fun f hf => by cases hf⟩
  · rw [List.eq_of_mem_replicate hu]; unfold U; omega
  · rw [ag]
    have h2 : bitE (startE calls).m w = 0 := by
      unfold bitE
      rw [show at0 (startE calls).m 2 = 0 from a0 _ _]; simp
    have h3 : owE (startE calls).a w = 0 := by
      unfold owE
      apply List.countP_eq_zero.2
      intro f hf
      rw [List.eq_of_mem_replicate hf, offE]
      simp
    have h4 : prkE (startE calls).m w = 0 := if_pos (a0 _ _)
    rw [h2, h3, h4]; rfl
  · rw [ag]
    show (List.filter (isWE i) []).map (·.op) ++ (if fnE.op = -1 then [] else [fnE.op]) ++ (calls.getD i []).filter isEv = _
    simp [fnE]
set_option maxRecDepth 100000 in
theorem HE.beg (h : HE calls s t) {i : Nat} (hi : i < calls.length) : HE calls (begE s i) (t + 1) := by
  have hil : i < s.a.length := by rw [h.si.al]; exact hi
  have hll : i < s.left.length := by rw [h.ll]; exact hi
  have mono : SI calls.length s.m s.a (t + 1) := ⟨h.si.n1, h.si.n8, h.si.ok, h.si.um, h.si.al, fun j hj => (h.si.fi j hj).imp id (fun k => k.keep (Int.le_refl _) id), h.si.sg, h.si.pz, by have := h.si.ep; omega⟩
  unfold begE
  by_cases hop : (s.a.getD i fnE).op = -1
  · rw [if_pos hop]
    have hno := (h.op_no hi).1 hop
    have lg : ∀ (r : List Int) (j : Nat), (s.left.set i r).getD j [] = if j = i then r else s.left.getD j [] := fun r j => by
      by_cases c : j = i
      · subst c
        rw [if_pos rfl, List.getD_eq_getElem?_getD, List.getElem?_set_self hll]; rfl
      · rw [if_neg c, List.getD_eq_getElem?_getD, List.getElem?_set_ne (fun e => c e.symm), ← List.getD_eq_getElem?_getD]
    rcases nxtE_cases i (s.left.getD i []) with ⟨e1, e2⟩ | ⟨o, r, e1, e2, e3, _, _⟩
    · rw [e1]
      have sa : s.a.set i fnE = s.a := by
        apply List.ext_getElem?
        intro j
        by_cases c : i = j
        · subst c
          rw [List.getElem?_set_self hil]
          rw [List.getD_eq_getElem?_getD, List.getElem?_eq_getElem hil] at hno
          rw [List.getElem?_eq_getElem hil]
          exact congrArg some hno.symm
        · rw [List.getElem?_set_ne c]
      refine ⟨by show SI _ s.m (s.a.set i fnE) _; rw [sa]; exact mono, by show (s.left.set i []).length = _; simp [h.ll], fun j hj => ?_, h.ov⟩
      have := h.of j hj
      show (s.over.filter (isWE j)).map (·.op) ++ (if ((s.a.set i fnE).getD j fnE).op = -1 then [] else [((s.a.set i fnE).getD j fnE).op]) ++ ((s.left.set i []).getD j []).filter isEv = _
      rw [sa, lg]
      by_cases c : j = i
      · subst c
        rw [e2] at this
        rw [if_pos rfl]; exact this
      · rw [if_neg c]; exact this
    · rw [e1]
      have ho := isEv_iff.1 e2
      have hn1 : o ≠ -1 := by omega
      refine ⟨?_, by show (s.left.set i r).length = _; simp [h.ll], fun j hj => ?_, h.ov⟩
      · show SI _ s.m (s.a.set i (fbg o i 0)) _
        have z : U 0 := by unfold U; omega
        have hu := (at0_U h.si.um 2).1
        refine h.si.same hi (.inr ?_) (fun w _ => ?_)
        · rcases ho with rfl | ho
          · exact FI.w ⟨z, z, z⟩ (by omega) (by omega) (by omega) (by omega)
          · exact FI.nt ho ⟨z, z, z⟩ (by omega) (by omega) (by omega) (by omega)
        · rw [hno, offE, show owesN (fbg o i 0) w = false from owes_off (.inl (by show (0 : Int) ≠ 2; decide)), inE_no, show inE (fbg o i 0) = 0 from if_neg (fun hh => by have : (3 : Int) ≤ 0 := hh.2; omega)]
      · have := h.of j hj
        show (s.over.filter (isWE j)).map (·.op) ++ (if ((s.a.set i (fbg o i 0)).getD j fnE).op = -1 then [] else [((s.a.set i (fbg o i 0)).getD j fnE).op]) ++ ((s.left.set i r).getD j []).filter isEv = _
        rw [lg]
        by_cases c : j = i
        · subst c
          rw [hop, if_pos rfl, e3] at this
          rw [if_pos rfl, getE_eq hil, if_neg (show (fbg o j 0).op ≠ -1 from hn1)]
          rw [← this]
          simp [fbg]
        · rw [if_neg c, getE_ne (fun e => c e.symm)]; exact this
  · rw [if_neg hop]
    exact ⟨mono, h.ll, h.of, h.ov⟩
set_option maxRecDepth 100000 in
/-- What a step of a play does: nothing, or what 'Did' says; the call stays at hand, or is over. -/
theorem HE.step (h : HE calls s t) (ht : t < 100000) {i : Nat} (hi : i < calls.length) :
    HE calls (stepE calls.length s i) (t + 1) ∧ (stepE calls.length s i = s ∧ s.a.getD i fnE = fnE ∨ ∃ f m' g, s.a.getD i fnE = f ∧ FI s.m t i f ∧ evS calls.length 1 1 0 s.m f = (m', g) ∧ Did calls.length s.m f m' g
      ∧ stepE calls.length s i = ⟨m', s.a.set i (left1 g), if g.res = 0 then s.over else s.over ++ [g], s.left⟩) := by
  have hil : i < s.a.length := by rw [h.si.al]; exact hi
  obtain ⟨m', g, e1, e2, e3⟩ := h.si.step ht hi
  have est : stepE calls.length s i = ⟨m', s.a.set i (left1 g), if g.res = 0 then s.over else s.over ++ [g], s.left⟩ := by
    unfold stepE
    rw [e1]
    unfold left1
    by_cases c : g.res = 0
    · rw [if_pos c, if_pos c, if_pos c]
    · rw [if_neg c, if_neg c, if_neg c]
  rcases e3 with ⟨k1, rfl, rfl⟩ | ⟨k1, k2⟩
  · have sa : s.a.set i fnE = s.a := by
      apply List.ext_getElem?
      intro j
      by_cases c : i = j
      · subst c
        rw [List.getElem?_set_self hil]
        rw [List.getD_eq_getElem?_getD, List.getElem?_eq_getElem hil] at k1
        rw [List.getElem?_eq_getElem hil]
        exact congrArg some k1.symm
      · rw [List.getElem?_set_ne c]
    have es : stepE calls.length s i = s := by
      rw [est, show left1 fnE = fnE from rfl, sa, if_pos (show fnE.res = 0 from rfl)]
    refine ⟨?_, .inl ⟨es, k1⟩⟩
    rw [es]
    rw [show left1 fnE = fnE from rfl, sa] at e2
    exact ⟨e2, h.ll, h.of, h.ov⟩
  · refine ⟨?_, .inr ⟨_, m', g, rfl, k1, e1, k2, est⟩⟩
    obtain ⟨d1, d2, d3, d4, _⟩ := k2
    have ho := k1.ops
    rw [est]
    by_cases c : g.res = 0
    · have hl : left1 g = g := if_pos c
      rw [if_pos c, hl]
      rw [hl] at e2
      refine ⟨e2, h.ll, fun j hj => ?_, h.ov⟩
      have := h.of j hj
      show (s.over.filter (isWE j)).map (·.op) ++ (if ((s.a.set i g).getD j fnE).op = -1 then [] else [((s.a.set i g).getD j fnE).op]) ++ (s.left.getD j []).filter isEv = _
      by_cases cc : i = j
      · subst cc
        rw [getE_eq hil, d1]; exact this
      · rw [getE_ne cc]; exact this
    · have hl : left1 g = fnE := if_neg c
      rw [if_neg c, hl]
      rw [hl] at e2
      refine ⟨e2, h.ll, fun j hj => ?_, fun f hf => ?_⟩
      · have := h.of j hj
        show ((s.over ++ [g]).filter (isWE j)).map (·.op) ++ (if ((s.a.set i fnE).getD j fnE).op = -1 then [] else [((s.a.set i fnE).getD j fnE).op]) ++ (s.left.getD j []).filter isEv = _
        rw [List.filter_append, List.map_append]
        by_cases cc : i = j
        · subst cc
          rw [getE_eq hil, if_pos (show fnE.op = -1 from rfl)]
          have hw : isWE i g = true := by unfold isWE; rw [d2, k1.who]; simp
          rw [if_neg (by omega)] at this
          rw [List.filter_cons_of_pos hw, ← this, ← d1]
          simp
        · rw [getE_ne cc]
          have hw : ¬ isWE j g = true := by unfold isWE; rw [d2, k1.who]; simp; omega
          rw [List.filter_cons_of_neg hw]
          simpa using this
      · rcases List.mem_append.1 hf with h1 | h1
        · exact h.ov f h1
        · obtain rfl : f = g := by simpa using h1
          refine ⟨?_, i, hi, by rw [d2, k1.who]⟩
          rcases ho with ho | ho
          · refine .inl ⟨by rw [d1]; exact ho, ?_⟩
            have := d3 ho; omega
          · refine .inr ⟨by rw [d1]; exact ho, ?_⟩
            have := d4 (by omega); omega
set_option maxRecDepth 100000 in
theorem HE.play1 (h : HE calls s t) (ht : t < 99999) (i : Int) : HE calls (playE1 calls.length s i) (t + 2) := by
  unfold playE1
  by_cases c : 0 ≤ i ∧ i < calls.length
  · rw [if_pos c]
    exact ((h.beg (i := i.toNat) (by omega)).step (by omega) (by omega)).1
  · rw [if_neg c]
    exact ⟨⟨h.si.n1, h.si.n8, h.si.ok, h.si.um, h.si.al, fun j hj => (h.si.fi j hj).imp id (fun k => k.keep (Int.le_refl _) id), h.si.sg, h.si.pz, by have := h.si.ep; omega⟩, h.ll, h.of, h.ov⟩
set_option maxRecDepth 100000 in
theorem HE.fold : ∀ (who : List Int) {s : PE} {t : Nat}, HE calls s t → t + 2 * who.length < 99999 → HE calls (who.foldl (playE1 calls.length) s) (t + 2 * who.length)
  | [], _, _, h, _ => by simpa using h
  | i :: who, s, t, h, ht => by
    have hl : (i :: who).length = who.length + 1 := rfl
    rw [hl] at ht ⊢
    have := HE.fold who (h.play1 (by omega) i) (by omega)
    rw [List.foldl_cons, show t + 2 * (who.length + 1) = t + 2 + 2 * who.length by omega]
    exact this
set_option maxRecDepth 100000 in
theorem HE.play (h1 : 1 ≤ calls.length) (h8 : calls.length ≤ 8) (who : List Int) (hw : who.length ≤ 500) : HE calls (playE calls who) (2 * who.length) := by
  have := HE.fold who (HE.start h1 h8) (by omega)
  rwa [Nat.zero_add] at this
set_option maxRecDepth 100000 in
/-- Those that are over stay, and others come behind them. -/
theorem stepE_grows (W : Int) (s : PE) (i : Nat) : (∃ r, (stepE W s i).over = s.over ++ r) ∧ (stepE W s i).a.length = s.a.length := by
  unfold stepE
  split
  · exact ⟨⟨[], by simp⟩, by simp⟩
  · exact ⟨⟨_, rfl⟩, by simp⟩
set_option maxRecDepth 100000 in
theorem begE_grows (s : PE) (i : Nat) : (begE s i).over = s.over ∧ (begE s i).a.length = s.a.length := by
  unfold begE
  split
  · exact ⟨rfl, by simp⟩
  · exact ⟨rfl, rfl⟩
set_option maxRecDepth 100000 in
theorem foldE_grows (n : Nat) : ∀ (who : List Int) (s : PE), (∃ r, (who.foldl (playE1 n) s).over = s.over ++ r) ∧ (who.foldl (playE1 n) s).a.length = s.a.length
  | [], s => ⟨⟨[], by simp⟩, rfl⟩
  | i :: who, s => by
    rw [List.foldl_cons]
    obtain ⟨⟨r, h1⟩, h2⟩ := foldE_grows n who (playE1 n s i)
    have : (∃ r, (playE1 n s i).over = s.over ++ r) ∧ (playE1 n s i).a.length = s.a.length := by
      unfold playE1
      split
      · obtain ⟨⟨r, e⟩, l⟩ := stepE_grows n (begE s i.toNat) i.toNat
        obtain ⟨e', l'⟩ := begE_grows s i.toNat
        exact ⟨⟨r, by rw [e, e']⟩, l.trans l'⟩
      · exact ⟨⟨[], by simp⟩, rfl⟩
    obtain ⟨⟨r', h3⟩, h4⟩ := this
    exact ⟨⟨r' ++ r, by rw [h1, h3, List.append_assoc]⟩, h2.trans h4⟩
set_option maxRecDepth 100000 in
theorem first_E (calls : List (List Int)) (who : List Int) (k : Nat) : (∃ r, (playE calls who).over = (playE calls (who.take k)).over ++ r) ∧ (playE calls who).a.length = (playE calls (who.take k)).a.length := by
  unfold playE
  have h : who.foldl (playE1 calls.length) (startE calls) = (who.drop k).foldl (playE1 calls.length) ((who.take k).foldl (playE1 calls.length) (startE calls)) := by
    rw [← List.foldl_append, List.take_append_drop]
  rw [h]
  exact foldE_grows _ _ _
set_option maxRecDepth 100000 in
theorem playE_al (calls : List (List Int)) (who : List Int) : (playE calls who).a.length = calls.length := by
  unfold playE
  rw [(foldE_grows _ who _).2]
  exact List.length_replicate
set_option maxRecDepth 100000 in
/-- Whom a wake is told to: who calls it does not matter. -/
theorem note_who (W D J S : Int) (m : List Int) (f : Fr) (q : Int) : noteS W D J S m { f with who := q } = ((noteS W D J S m f).1, { (noteS W D J S m f).2 with who := q }) := by
  have hg : goesN W D J S m { f with who := q } = goesN W D J S m f := rfl
  unfold noteS
  rw [hg]
  dsimp only
  by_cases c0 : goesN W D J S m f = true
  · rw [if_pos c0, if_pos c0]
    by_cases c1 : f.pc = 0
    · rw [if_pos c1, if_pos c1]
    · rw [if_neg c1, if_neg c1]
      by_cases c2 : f.pc = 1
      · rw [if_pos c2, if_pos c2]
        by_cases c3 : at0 m 2 = f.x
        · rw [if_pos c3, if_pos c3]
          by_cases c4 : f.x % 65536 = 0
          · rw [if_pos c4, if_pos c4]; rfl
          · rw [if_neg c4, if_neg c4]
        · rw [if_neg c3, if_neg c3]
      · rw [if_neg c2, if_neg c2]
        by_cases c3 : f.op = 6
        · rw [if_pos c3, if_pos c3]; rfl
        · rw [if_neg c3, if_neg c3]
          by_cases c4 : rs f.y = 0
          · rw [if_pos c4, if_pos c4]; rfl
          · rw [if_neg c4, if_neg c4]
  · rw [if_neg c0, if_neg c0]
set_option maxRecDepth 100000 in
theorem noteN_who (W D J S : Int) (m : List Int) (f : Fr) (q : Int) (k : Nat) : itN (noteS W D J S) k (m, { f with who := q }) = ((itN (noteS W D J S) k (m, f)).1, { (itN (noteS W D J S) k (m, f)).2 with who := q }) := by
  induction k with
  | zero => rfl
  | succ k ih =>
    show noteS W D J S (itN (noteS W D J S) k (m, { f with who := q })).1 (itN (noteS W D J S) k (m, { f with who := q })).2 = _
    rw [ih]
    exact note_who W D J S _ _ q
set_option maxRecDepth 100000 in
/-- One who is prepared looks again behind another one's wake. -/
theorem missed_E {n : Nat} {m : List Int} {a : List Fr} {t : Nat} (h : SI n m a t) (ht : t < 100000) {w : Nat} (hw : w < n) {v x y : Int} (hf : a.getD w fnE = ⟨5, 1, w, v, x, y, 0⟩) {o : Int} (ho : o = 6 ∨ o = 7) (q : Int) :
    ∃ l' f', itN (noteS n 1 1 0) 20 (m, fbg o q 0) = (l', f') ∧ f'.res ≠ 0 ∧ waitS n 1 1 0 l' ⟨5, 1, w, v, x, y, 0⟩ = (l', ⟨5, 0, w, 0, 0, 0, 4⟩) := by
  have F := h.at hw hf (by show (5 : Int) ≠ -1; decide)
  have hx : x / 65536 ≤ at0 m 2 / 65536 := F.ep rfl
  have hep := h.ep
  have hu := (at0_U h.um 2).1
  obtain ⟨l', f', e, hr, hev, _⟩ := alone_20 h.ok ho
  have e2 := noteN_who n 1 1 0 m (fbg o 0 0) q 20
  rw [e] at e2
  have hl := noteN_len n 1 1 0 20 (m, fbg o 0 0)
  rw [e] at hl
  have hk : okw n 1 1 0 l' w = true := by rw [okw_len (m := m) hl]; exact okw_of h.ok (by omega) (by omega)
  refine ⟨l', { f' with who := q }, e2, ?_, ?_⟩
  · show f'.res ≠ 0
    rw [hr]; split <;> decide
  · rw [waitS_1 hk, if_neg]
    rw [hev, nxN_epoch]
    omega
end
end Go.Proofs.Ytgemaeibmgkneaa
