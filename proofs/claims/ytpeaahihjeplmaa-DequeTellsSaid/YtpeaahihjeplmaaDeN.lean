/- The document's own Play: a contract. -/
import Derived.Test.YtpeaahihjeplmaaDeH
import Derived.Test.YtpeaahihjeplmaaDeY
namespace Go.Proofs.Ytpeaahihjeplmaa
open Go.RowKit Go.Deep Go.Shelf
theorem Rx.both {g b : Nat} {w w' : World} {A : Option Addr} {l : List Int} (h : Rx 0 b w A l) (h' : Rx 0 g w' A l) : Rx 0 b w' A l := fun hp => by
  obtain ⟨ad, e, _, hne, _, _⟩ := h hp
  obtain ⟨ad', e', _, _, hlt', hc'⟩ := h' hp
  rw [e] at e'
  injection e' with e'
  subst e'
  exact ⟨ad, e, Nat.zero_le _, hne, hlt', hc'⟩
/-- What holds in the loops of the document's own Play: as RS, and the calls that are over. -/
structure RP (w0 : World) (n₀ : Nat) (D : Int) (g na d : Nat) (A : Option Addr) (M : List Int) (row : List Fr) (lo : Nat) (Q : Option Addr) (no co : Nat) (over : List Fr) (w : World) : Prop where
  rs : RS w0 n₀ D g na d A M row w
  lg : g < lo
  ov : Ow w lo Q no co over
  dm : ∀ b, (Value.slice Q no co).ownBlock = some b → Rx 0 b w A M
theorem RP.after {w0 : World} {n₀ : Nat} {D : Int} {g na d : Nat} {A : Option Addr} {M : List Int} {row : List Fr} {lo : Nat} {Q : Option Addr} {no co : Nat} {over : List Fr} {w w' : World} (h : RP w0 n₀ D g na d A M row lo Q no co over w) (hb : Below w.heap.size w w') : RP w0 n₀ D g na d A M row lo Q no co over w' :=
  ⟨h.rs.after hb, h.lg, h.ov.below hb, fun b hq => (h.dm b hq).after hb⟩
theorem RP.store {w0 : World} {n₀ : Nat} {D : Int} {g na d : Nat} {A : Option Addr} {M : List Int} {row : List Fr} {lo : Nat} {Q : Option Addr} {no co : Nat} {over : List Fr} {w : World} (h : RP w0 n₀ D g na d A M row lo Q no co over w) {i : Nat} (hi : i < na) (f : Fr) : RP w0 n₀ D g na d A M (row.set i f) lo Q no co over (pk7 w g (i * 7) f) := by
  have k1 := h.rs.store hi f
  have k2 : Ow (pk7 w g (i * 7) f) lo Q no co over := h.ov.kept fun k hk => pk7_other k (by have := (World.ownsRow.lt h.ov k hk).1; have := h.lg; omega)
  exact ⟨k1, h.lg, k2, fun b hq => (h.dm b hq).both k1.me⟩
theorem RP.box {w0 : World} {n₀ : Nat} {D : Int} {g na d : Nat} {A A' : Option Addr} {M M' : List Int} {row : List Fr} {lo : Nat} {Q : Option Addr} {no co : Nat} {over : List Fr} {w x w' : World} {f' : Fr} (h : RP w0 n₀ D g na d A M row lo Q no co over w)
    (hx : x = w.drew ∨ ∃ o, x = w.drew.alloc o ∨ x = (w.alloc o).drew) (hr : (A' = A ∧ M' = M) ∨ Rn x.heap.size w' A' M') (hb : Below x.heap.size x w') {wf : World} {k : Nat} (hf : (k = w.heap.size ∧ w.heap.size < x.heap.size ∧ wf = Go.Proofs.Ytpeaahihjeplmaa.pf w' k f') ∨ (k = w'.heap.size ∧ Below w'.heap.size w' wf)) : RP w0 n₀ D g na d A' M' row lo Q no co over wf ∧ w.heap.size ≤ k ∧ Rx 0 k wf A' M' := by
  have hwx : Below w.heap.size w x := by
    rcases hx with rfl | ⟨o, rfl | rfl⟩
    · exact (Below.refl _ _).drew
    · exact (Below.refl _ _).drew.alloc (Nat.le_refl _) _
    · exact ((Below.refl _ _).alloc (Nat.le_refl _) _).drew
  have hb' : Below w.heap.size w w' := hwx.trans (hb.mono hwx.size)
  have hbf : Below w.heap.size w wf := by
    rcases hf with ⟨rfl, hlt, rfl⟩ | ⟨rfl, hz⟩
    · exact below_pf hb' (Nat.le_refl _) f'
    · exact hb'.trans (hz.mono hb'.size)
  have k1 := h.rs.box hx hr hb hf
  refine ⟨⟨k1, h.lg, h.ov.below hbf, fun b hq => ?_⟩, ?_, ?_⟩
  · have hbl := (World.ownsRow.lt h.ov b hq).2
    rcases hr with ⟨rfl, rfl⟩ | hr
    · exact (h.dm b hq).after hbf
    · have hm : Rx 0 b w' A' M' := hr.rx (Nat.zero_le _) (.inl (by have := hwx.size; omega))
      exact hm.both k1.me
  · rcases hf with ⟨rfl, _, _⟩ | ⟨rfl, _⟩
    · exact Nat.le_refl _
    · exact hb'.size
  · intro hp
    obtain ⟨ad, e, _, _, hlt, hc⟩ := k1.me hp
    refine ⟨ad, e, Nat.zero_le _, ?_, hlt, hc⟩
    rcases hr with ⟨rfl, rfl⟩ | hr
    · obtain ⟨ad', e', _, _, hlt', _⟩ := h.rs.me hp
      rw [e] at e'
      injection e' with e'
      subst e'
      rcases hf with ⟨rfl, _, _⟩ | ⟨rfl, _⟩
      · omega
      · have := hb'.size; omega
    · obtain ⟨ad', e', hlo, hlt', _⟩ := hr hp
      rw [e] at e'
      injection e' with e'
      subst e'
      rcases hf with ⟨rfl, hlx, _⟩ | ⟨rfl, _⟩
      · omega
      · omega
/-- The call's who. -/
theorem Bf.who {w : World} {g : Nat} {f : Fr} (h : Bf w g f) (u : Int) : Bf (w.setCell ⟨g, 2, none⟩ (.int .i64 u)) g { f with who := u } := by
  unfold Bf at h ⊢
  simp [World.setCell, Array.getElem?_modify, h]
/-- A store into a block of its own. -/
theorem RP.set {w0 : World} {n₀ : Nat} {D : Int} {g na d : Nat} {A : Option Addr} {M : List Int} {row : List Fr} {lo : Nat} {Q : Option Addr} {no co : Nat} {over : List Fr} {w : World} (h : RP w0 n₀ D g na d A M row lo Q no co over w) {k : Nat} (hn : n₀ < k) (hg : g ≠ k) (hq : ∀ b, (Value.slice Q no co).ownBlock = some b → b ≠ k) (hx : Rx 0 k w A M) (i : Nat) (v : Value) : RP w0 n₀ D g na d A M row lo Q no co over (w.setCell ⟨k, i, none⟩ v) := by
  have k1 := hx.set (p := ⟨k, i, none⟩) rfl v
  have hs : ∀ b, b ≠ k → (w.setCell ⟨k, i, none⟩ v).heap[b]? = w.heap[b]? := fun b hb => Below.heap_setCell _ _ _ _ hb
  refine ⟨⟨h.rs.bx.of_block (hs _ (by omega)) (by simpa using h.rs.bx.1), h.rs.ow.kept fun b hb => ?_, h.rs.me.both k1, h.rs.be.setCell (Nat.le_of_lt hn) v⟩, h.lg, h.ov.kept fun b hb => hs b (hq b hb), fun b hb => (h.dm b hb).both k1⟩
  injection hb with hb
  subst hb
  exact hs _ hg
set_option maxRecDepth 100000 in
/-- A call more that is over. -/
theorem RP.app {w0 : World} {n₀ : Nat} {D : Int} {g na d : Nat} {A : Option Addr} {M : List Int} {row : List Fr} {lo : Nat} {Q : Option Addr} {no co : Nat} {over : List Fr} {w : World} (h : RP w0 n₀ D g na d A M row lo Q no co over w) (x : Fr) (hz : no + 1 ≤ 10000) (hlo : lo ≤ w.heap.size) :
    ∃ Q' d' w', (Builtin.append_ #[29, 29] 29 #[.slice Q no co, .slice (some ⟨w.heap.size, 0, none⟩) 1 1]).run Try.prog (w.alloc (.cells #[.int .i64 x.op, .int .i64 x.pc, .int .i64 x.who, .int .u64 x.val, .int .u64 x.x, .int .u64 x.y, .int .i64 x.res] 28)) = .ok (.slice Q' (no + 1) d') w' ∧ RP w0 n₀ D g na d A M row lo Q' (no + 1) d' (over ++ [x]) w' ∧ w.heap.size ≤ w'.heap.size := by
  obtain ⟨Q', d', w', h1, h2, h3, h4, h5⟩ := app_one h.ov x hz hlo
  have ha := box_below w (.cells #[.int .i64 x.op, .int .i64 x.pc, .int .i64 x.who, .int .u64 x.val, .int .u64 x.x, .int .u64 x.y, .int .i64 x.res] 28)
  have hA := h.after ha
  have hg := ow_ge h.rs.ow
  have hgA := ow_ge hA.rs.ow
  have hsz := h3.size
  have hn := hA.rs.bx.1
  generalize w.alloc (.cells #[.int .i64 x.op, .int .i64 x.pc, .int .i64 x.who, .int .u64 x.val, .int .u64 x.x, .int .u64 x.y, .int .i64 x.res] 28) = wa at *
  have hlow : ∀ k, k < lo → k < wa.heap.size → w'.heap[k]? = wa.heap[k]? := fun k hk hka => h3.block k hka fun e => by
    have := (World.ownsRow.lt h.ov k e.symm).1
    omega
  have hme : Rx 0 g w' A M := fun hp => by
    obtain ⟨ad, e, _, hne, hlt, hc⟩ := hA.rs.me hp
    have hs : w'.heap[ad.block]? = wa.heap[ad.block]? := h3.block _ hlt fun e' => by
      obtain ⟨ad', e2, _, hne', _, _⟩ := h.dm _ e'.symm hp
      rw [e] at e2
      injection e2 with e2
      subst e2
      exact hne' rfl
    exact ⟨ad, e, Nat.zero_le _, hne, Nat.lt_of_lt_of_le hlt hsz, fun j u hu => (World.cell?_of_block (by rw [block_add]; exact hs)).trans (hc j u hu)⟩
  refine ⟨Q', d', w', h1, ⟨⟨?_, ?_, hme, ?_⟩, h.lg, h2, fun b hq => ?_⟩, Nat.le_trans ha.size hsz⟩
  · exact hA.rs.bx.of_block (hlow _ (by have := h.lg; omega) hn) (Nat.lt_of_lt_of_le hn hsz)
  · exact hA.rs.ow.kept fun k hk => by
      injection hk with hk
      subst hk
      exact hlow _ h.lg hgA.2
  · exact h.rs.be.trans (h4.mono (by have := h.lg; omega))
  · rcases h5 with e | e
    · rw [e] at hq
      exact (h.dm b hq).both hme
    · rw [e] at hq
      injection hq with hq
      subst hq
      intro hp
      obtain ⟨ad, e, _, hne, hlt, hc⟩ := h.rs.me hp
      obtain ⟨ad', e', _, _, hlt', hc'⟩ := hme hp
      rw [e] at e'
      injection e' with e'
      subst e'
      exact ⟨ad, e, Nat.zero_le _, by omega, hlt', hc'⟩
theorem beg_uf {own : List Fr} (hu : ∀ f ∈ own, UF f) {s : PS} (h : ∀ j, UF (s.a.getD j fno)) (i : Nat) : UF ((beg own s i).a.getD i fno) := by
  unfold beg
  split
  · by_cases hl : i < s.a.length
    · split
      · simp only
        rw [getD_set_eq hl]
        unfold UF U fbg; simp
      · simp only
        rw [getD_set_eq hl]
        exact (nxt_uf (fun f hf => hu f (List.mem_of_mem_drop hf)) s.nx).1
    · have e : ∀ x : Fr, (s.a.set i x).getD i fno = fno := fun x => by
        rw [List.set_eq_of_length_le (by omega), List.getD_eq_getElem?_getD, List.getElem?_eq_none (by omega)]; rfl
      split
      · simp only
        rw [e]; exact uf_fno
      · simp only
        rw [e]; exact uf_fno
  · exact h i
/-- Who has no call at hand has nobody's call. -/
def FN (a : List Fr) : Prop := ∀ i, (a.getD i fno).op < 0 → a.getD i fno = fno
theorem fn_set {a : List Fr} (h : FN a) {f : Fr} (hf : f.op < 0 → f = fno) (j : Nat) : FN (a.set j f) := by
  intro i
  rw [List.getD_eq_getElem?_getD, List.getElem?_set]
  split
  · split
    · exact hf
    · intro _; rfl
  · have := h i
    rw [List.getD_eq_getElem?_getD] at this
    exact this
theorem fn_start (D : Int) (t : Nat) : FN (start D t).a := by
  intro i _
  unfold start
  rw [List.getD_eq_getElem?_getD, List.getElem?_replicate]
  split <;> rfl
theorem deqS_fno (D : Int) (m : List Int) : deqS 1 D 1 0 m fno = (m, fno) := by
  unfold deqS; simp [fno]
theorem fn_step {D : Int} {s : PS} (h : FN s.a) (i : Nat) : FN (stepAt 1 D 1 0 s i).a := by
  unfold stepAt
  split
  · refine fn_set h (fun hlt => ?_) i
    rw [deqS_op] at hlt
    have e := h i hlt
    rw [e, deqS_fno]
  · exact fn_set h (fun _ => rfl) i
theorem nxt_fno (own : List Fr) (k : Nat) : (nxt own k).1.op < 0 → (nxt own k).1 = fno := by
  induction own generalizing k with
  | nil => intro _; rfl
  | cons f r ih =>
    unfold nxt
    split
    · rename_i h
      intro hlt
      unfold fbg at hlt
      simp only at hlt
      omega
    · exact ih (k + 1)
theorem fn_beg {own : List Fr} {s : PS} (h : FN s.a) (i : Nat) : FN (beg own s i).a := by
  unfold beg
  split
  · split
    · exact fn_set h (fun hlt => by simp [fbg] at hlt) i
    · exact fn_set h (nxt_fno _ _) i
  · exact h
theorem fn_play1 {D th : Int} {own : List Fr} {s : PS} (h : FN s.a) (i : Int) : FN (play1 D th own s i).a := by
  unfold play1
  split
  · exact fn_step (fn_beg h _) _
  · exact h
theorem set_same {α : Type} (a : List α) (i : Nat) (z : α) : a.set i (a.getD i z) = a := by
  by_cases h : i < a.length
  · rw [List.getD_eq_getElem?_getD, List.getElem?_eq_getElem h]; simp
  · exact List.set_eq_of_length_le (by omega)
theorem nxt_cons (f : Fr) (r : List Fr) (k : Nat) : nxt (f :: r) k = if f.op = 0 ∨ f.op = 1 then (fbg f.op 0 f.val, k + 1) else nxt r (k + 1) := rfl
theorem nxt_nil (k : Nat) : nxt [] k = (fno, k) := rfl
/-- How the row of calls stands while the owner's next call is looked for. -/
def SQ (own : List Fr) (s : PS) (i : Nat) (row : List Fr) (nx : Nat) : Prop :=
  (0 ≤ (row.getD i fno).op ∧ beg own s i = ⟨s.m, row, s.over, nx⟩) ∨ ((row.getD i fno).op < 0 ∧ i = 0 ∧ row = s.a ∧ nxt (own.drop nx) nx = nxt (own.drop s.nx) s.nx)
theorem SQ.start {own : List Fr} {s : PS} {i : Nat} (hl : i < s.a.length) {row : List Fr} (h : row = if (s.a.getD i fno).op < 0 ∧ 0 < i then s.a.set i (fbg 2 0 0) else s.a) : SQ own s i row s.nx := by
  by_cases h1 : (s.a.getD i fno).op < 0
  · by_cases h2 : 0 < i
    · rw [if_pos ⟨h1, h2⟩] at h
      subst h
      refine .inl ⟨by rw [getD_set_eq hl]; simp [fbg], ?_⟩
      unfold beg
      rw [if_pos h1, if_pos h2]
    · rw [if_neg (fun h => h2 h.2)] at h
      subst h
      exact .inr ⟨h1, by omega, rfl, rfl⟩
  · rw [if_neg (fun h => h1 h.1)] at h
    subst h
    refine .inl ⟨by omega, ?_⟩
    unfold beg
    rw [if_neg h1]
theorem SQ.own {own : List Fr} {s : PS} {i : Nat} {row : List Fr} {nx : Nat} (h : SQ own s i row nx) (hl : i < s.a.length) (hf : (row.getD i fno).op < 0) (hn : nx < own.length) :
    (own[nx].op = 0 ∨ own[nx].op = 1 → SQ own s i (row.set i (fbg own[nx].op 0 own[nx].val)) (nx + 1)) ∧ (¬ (own[nx].op = 0 ∨ own[nx].op = 1) → SQ own s i row (nx + 1)) := by
  rcases h with ⟨h1, _⟩ | ⟨_, rfl, rfl, h4⟩
  · omega
  · have hd := List.drop_eq_getElem_cons hn
    rw [hd] at h4
    refine ⟨fun ho => .inl ⟨by rw [getD_set_eq hl]; unfold fbg; simp only; omega, ?_⟩, fun ho => .inr ⟨hf, rfl, rfl, ?_⟩⟩
    · rw [nxt_cons, if_pos ho] at h4
      unfold beg
      rw [if_pos hf, if_neg (by omega), ← h4]
    · rw [nxt_cons, if_neg ho] at h4
      exact h4
theorem SQ.done {own : List Fr} {s : PS} {i : Nat} {row : List Fr} {nx : Nat} (h : SQ own s i row nx) (hfn : FN s.a) (he : (row.getD i fno).op < 0 → own.length ≤ nx) : beg own s i = ⟨s.m, row, s.over, nx⟩ := by
  rcases h with ⟨_, h2⟩ | ⟨h1, rfl, rfl, h4⟩
  · exact h2
  · have hz := he h1
    rw [List.drop_eq_nil_of_le hz] at h4
    unfold beg
    rw [if_pos h1, if_neg (by omega), ← h4, nxt_nil]
    simp only
    have e := hfn 0 h1
    have e2 := set_same s.a 0 fno
    rw [e] at e2
    rw [e2]
theorem beg_m (own : List Fr) (s : PS) (i : Nat) : (beg own s i).m = s.m := by
  unfold beg; split
  · split <;> rfl
  · rfl
set_option maxRecDepth 100000 in
set_option maxHeartbeats 8000000 in
theorem rplay_yes (D : Int) (t : Nat) (A B : Option Addr) (ca cw no nw : Nat) (own : List Fr) (who : List Int) (w : World) (hP : Pr w.heap.size w A own) (hW : Ri w B who) (hno : own.length = no) (hnw : who.length = nw) (hw5 : nw ≤ 504) (hn6 : no ≤ 1000) (hu : ∀ f ∈ own, UF f) (hm : may 1 D 1 0 = true) (ht : t ≤ 8) :
    Calls Try.prog 14 #[.int .i64 D, .int .i64 t, .slice A no ca, .slice B nw cw] w (RetPl w (play D t own who)) := by
  have HP := Lib.hid hP
  have HW := Lib.hid hW
  have HM := Lib.hid hm
  have HU := Lib.hid hu
  have HNO := Lib.hid hno
  have HNW := Lib.hid hnw
  clear hP hW hm hu hno hnw
  obtain ⟨sF, hF⟩ : ∃ s, play D t own who = s := ⟨_, rfl⟩
  rw [hF]
  have HFF := Lib.hid hF
  have hzl := sz_lim' HM.out
  have HZL := Lib.hid hzl
  clear hF hzl
  have d1 : decide ((t : Int) < 0) = false := decide_eq_false (by omega)
  have d2 : decide ((t : Int) > 8) = false := decide_eq_false (by omega)
  go_enter Try.func14, Try.ntmps14
  go_wp2_with fail
  refine (Tells.of (rmay_any 1 D 1 0 _) (v' := .bool true) (by rw [HM.out])).mono ?_
  rintro _ w1 ⟨rfl, z1⟩
  have BX := Lib.hid ((Bx.mk w 1 D 1 0 23).below z1)
  have Z1 := Lib.hid ((box_below w _).trans (z1.mono (box_below w _).size))
  clear z1
  obtain ⟨_, x0, x1, x2, x3⟩ := BX.out
  go_wp2_with fail
  refine (rnew_any 1 D 1 0 _).mono ?_
  rintro _ w2 ⟨Am, cm, rfl, rm, z2⟩
  clear x0 x1 x2 x3
  replace BX := Lib.hid (BX.out.below z2)
  replace Z1 := Lib.hid (Z1.out.trans (z2.mono Z1.out.size))
  obtain ⟨nm, hnm⟩ : ∃ nm, (sz 1 D 1 0).toNat = nm := ⟨_, rfl⟩
  rw [hnm] at rm ⊢
  have RM := Lib.hid rm
  have HNM := Lib.hid hnm
  clear z2 rm hnm
  go_wp2
  go_loopw [14, 16] (fun q x wr => ∃ (j : Nat) (Q : Option Addr) (d : Nat), q = .slice Q j d ∧ x = .int .i64 j ∧ j ≤ t + 1 ∧ Hid (Ow wr w2.heap.size Q j d (List.replicate j fno)) ∧ Hid (Below w2.heap.size w2 wr)) (fun _ x _ => t + 1 - (intOf x).toNat)
  case atStart => exact ⟨0, none, 0, rfl, rfl, Nat.zero_le _, Lib.hid (Ow.nil _ _), Lib.hid (Below.refl _ _)⟩
  case round =>
    obtain ⟨j, Q, d, rfl, rfl, hj, HO, HZ⟩ := hrel
    by_cases hlt : j ≤ t
    · obtain ⟨Q', d', w', hrun, hown, _, hbel, _⟩ := app_one HO.out fno (by omega) HZ.out.size
      rw [← List.replicate_succ'] at hown
      have RUN := Lib.hid hrun
      have HO' := Lib.hid hown
      have HZ' := Lib.hid (HZ.out.trans hbel)
      have g1 : decide ((j : Int) ≤ (t : Int)) = true := decide_eq_true (by omega)
      clear hrun hown hbel HO HZ
      go_wp2_with (at_builtin; (with_reducible refine wpList_append_fr RUN.out ?_ ?_ ?_ ?_); exact ⟨_, _, rfl, rfl, rfl⟩; rfl; rfl)
      go_roundw
      case rel => exact ⟨j + 1, Q', d', rfl, by go_num, by omega, HO', HZ'⟩
      case measure => simp [intOf]; omega
    · have hje : j = t + 1 := by omega
      have g1 : decide ((j : Int) ≤ (t : Int)) = false := decide_eq_false (by omega)
      obtain ⟨g, rfl, hg1, hg2, _⟩ := HO.out.at (by omega)
      have hb0 : w.heap.size < w2.heap.size := BX.out.1
      have hst : RP w w.heap.size D g j d Am (start D t).m (start D t).a wr.heap.size none 0 0 (start D t).over wr := by
        refine ⟨⟨BX.out.below HZ.out, ow_base ?_ (show w.heap.size + 1 ≤ w2.heap.size from hb0), ?_, Z1.out.trans (HZ.out.mono Z1.out.size)⟩, hg2, Ow.nil _ _, fun b hb => by cases hb⟩
        · have := HO.out
          subst hje
          exact this
        · have := rx_of RM.out HZ.out hg1
          rw [← HNM.out] at this
          exact this
      have HST := Lib.hid hst
      generalize hlo : wr.heap.size = lo at HST
      have HLO := Lib.hid (Nat.le_of_eq hlo.symm)
      have HJE := Lib.hid hje
      have hj9 : j ≤ 9 := by omega
      clear hst hg1 hg2 hb0 BX Z1 RM HO hlo HZ hje
      have hnm5 : nm ≤ 500 := by
        have h1 := sz_lim 1 D 1 0
        have h2 := HNM.out
        omega
      go_wp2
      go_loopw [18, 13, 15, 17, 19, 20, 21, 22] (fun x m v n _ _ _ _ wx => ∃ (k no' : Nat) (A' Q' : Option Addr) (c' co : Nat) (s : PS), x = .int .i64 k ∧ m = .slice A' nm c' ∧ v = .slice Q' no' co ∧ n = .int .i64 s.nx ∧ k ≤ nw ∧ no' ≤ k ∧ s.nx ≤ no ∧ Hid (s.over.length = no') ∧ Hid (RP w w.heap.size D g j d A' s.m s.a lo Q' no' co s.over wx) ∧ Hid (PV D t k s) ∧ Hid (FN s.a) ∧ Hid ((who.drop k).foldl (play1 D t own) s = sF) ∧ Hid (lo ≤ wx.heap.size)) (fun x _ _ _ _ _ _ _ _ => nw - (intOf x).toNat)
      case atStart => exact ⟨0, 0, Am, none, cm, 0, start D t, rfl, rfl, rfl, rfl, Nat.zero_le _, Nat.le_refl _, Nat.zero_le _, Lib.hid rfl, HST, Lib.hid (PV.start t HM.out), Lib.hid (fn_start D t), Lib.hid (by rw [List.drop_zero]; exact HFF.out), HLO⟩
      case round =>
        clear HST HLO HFF
        obtain ⟨k, no', A', Q', c', co, s, rfl, rfl, rfl, rfl, hk, hok, hnx, HOL, HRP, HPV, HFN, HFO, HLO⟩ := hrel
        by_cases hlt2 : k < nw
        · obtain ⟨y, hy⟩ : ∃ y, who[k]? = some y := ⟨_, List.getElem?_eq_getElem (by rw [HNW.out]; exact hlt2)⟩
          have hd : who.drop k = y :: who.drop (k + 1) := by
            obtain ⟨h1, h2⟩ := List.getElem?_eq_some_iff.1 hy
            rw [List.drop_eq_getElem_cons h1, h2]
          have hfo := HFO.out
          rw [hd, List.foldl_cons] at hfo
          have HPV' := Lib.hid (show PV D t (k + 1) (play1 D t own s y) from fold_PV HU.out [y] k s HPV.out)
          have HFN' := Lib.hid (fn_play1 (D := D) (th := (t : Int)) (own := own) HFN.out y)
          have HFO' := Lib.hid hfo
          obtain ⟨ad, rfl, hal, hac⟩ := (HW.out.below HRP.out.rs.be) (by rw [HNW.out]; omega)
          have hy0 := hac k y hy
          clear hac hfo hd hy HFO
          by_cases hr : 0 ≤ y ∧ y ≤ (t : Int)
          · obtain ⟨i, rfl⟩ := Int.eq_ofNat_of_zero_le hr.1
            have hit : i < j := by have := HJE.out; omega
            have g2 : decide ((i : Int) < 0) = false := decide_eq_false (by omega)
            have g3 : decide ((i : Int) > (t : Int)) = false := decide_eq_false (by omega)
            have g4 : decide (t < i) = false := decide_eq_false (by omega)
            have hal : s.a.length = j := HPV.out.al.trans HJE.out.symm
            have HAL := Lib.hid hal
            clear hr hal
            go_upto_if 64 with (fail)
            iterate 5 (first | go_step | go_back)
            clear g2 g3 g4
            go_cut [] from 65 to 78 (fun wx => ∃ (row : List Fr), Hid (RP w w.heap.size D g j d A' s.m row lo Q' no' co s.over wx) ∧ Hid (row = if (s.a.getD i fno).op < 0 ∧ 0 < i then s.a.set i (fbg 2 0 0) else s.a) ∧ Hid (lo ≤ wx.heap.size))
            case first =>
              obtain ⟨f, hf⟩ : ∃ f, s.a.getD i fno = f := ⟨_, rfl⟩
              have c7 := HRP.out.rs.ow.c7 hit
              rw [hf] at c7
              obtain ⟨a0, a1, a2, a3, a4, a5, a6⟩ := c7
              by_cases h1 : f.op < 0
              · have g1 : decide (f.op < 0) = true := decide_eq_true h1
                by_cases h2 : 0 < i
                · have g2 : decide ((i : Int) > 0) = true := decide_eq_true (by omega)
                  have g3 : decide (0 < i) = true := decide_eq_true h2
                  have HIF := Lib.hid (show s.a.set i (fbg 2 0 0) = if (s.a.getD i fno).op < 0 ∧ 0 < i then s.a.set i (fbg 2 0 0) else s.a from by rw [hf]; exact (if_pos ⟨h1, h2⟩).symm)
                  clear h1 hf
                  go_wp2_with fail
                  refine (rbegin_any 2 0 0 _).mono ?_
                  rintro _ w4 ⟨rfl, z4⟩
                  have HR4 := Lib.hid (HRP.out.after z4)
                  have c7 := HR4.out.rs.ow.c7 hit
                  clear a0 a1 a2 a3 a4 a5 a6
                  obtain ⟨a0, a1, a2, a3, a4, a5, a6⟩ := c7
                  have fz := HR4.out.rs.ow.free
                  have hl4 := Lib.hid (Nat.le_trans HLO.out z4.size)
                  clear z4
                  go_wp2
                  go_meet
                  exact ⟨_, Lib.hid (HR4.out.store hit (fbg 2 0 0)), HIF, Lib.hid (show lo ≤ (pk7 w4 g (i * 7) (fbg 2 0 0)).heap.size by rw [pk7_size]; exact hl4.out)⟩
                · have g2 : decide ((i : Int) > 0) = false := decide_eq_false (by omega)
                  have g3 : decide (0 < i) = false := decide_eq_false h2
                  have HIF := Lib.hid (show s.a = if (s.a.getD i fno).op < 0 ∧ 0 < i then s.a.set i (fbg 2 0 0) else s.a from by rw [hf]; exact (if_neg (fun h => h2 h.2)).symm)
                  clear h1 hf h2
                  go_wp2
                  go_meet
                  exact ⟨s.a, HRP, HIF, HLO⟩
              · have g1 : decide (f.op < 0) = false := decide_eq_false h1
                have HIF := Lib.hid (show s.a = if (s.a.getD i fno).op < 0 ∧ 0 < i then s.a.set i (fbg 2 0 0) else s.a from by rw [hf]; exact (if_neg (fun h => h1 h.1)).symm)
                clear h1 hf
                go_wp2
                go_meet
                exact ⟨s.a, HRP, HIF, HLO⟩
            case rest =>
              clear HRP HLO
              obtain ⟨row, HRP, HROW, HLO⟩ := hcut
              have HAL2 := Lib.hid (show i < s.a.length by rw [HAL.out]; exact hit)
              have HSQ := Lib.hid (SQ.start (own := own) HAL2.out HROW.out)
              clear HROW
              iterate 2 (first | go_step | go_back)
              go_cut [17] from 79 to 120 (fun x wx => ∃ (nx1 : Nat) (row : List Fr), x = .int .i64 nx1 ∧ nx1 ≤ no ∧ Hid (RP w w.heap.size D g j d A' s.m row lo Q' no' co s.over wx) ∧ Hid (beg own s i = ⟨s.m, row, s.over, nx1⟩) ∧ Hid (lo ≤ wx.heap.size))
              case first =>
                go_wp2
                go_loopw [17] (fun x wx => ∃ (nx1 : Nat) (row : List Fr), x = .int .i64 nx1 ∧ nx1 ≤ no ∧ Hid (RP w w.heap.size D g j d A' s.m row lo Q' no' co s.over wx) ∧ Hid (SQ own s i row nx1) ∧ Hid (lo ≤ wx.heap.size)) (fun x _ => no - (intOf x).toNat)
                case atStart => exact ⟨s.nx, row, rfl, hnx, HRP, HSQ, HLO⟩
                case round =>
                  clear HRP HSQ HLO
                  obtain ⟨nx1, row, rfl, hn1, HRP, HSQ, HLO⟩ := hrel
                  obtain ⟨f, hf⟩ : ∃ f, row.getD i fno = f := ⟨_, rfl⟩
                  have c7 := HRP.out.rs.ow.c7 hit
                  rw [hf] at c7
                  obtain ⟨a0, a1, a2, a3, a4, a5, a6⟩ := c7
                  by_cases h1 : f.op < 0
                  · have g1 : decide (f.op < 0) = true := decide_eq_true h1
                    by_cases h2 : nx1 < no
                    · have hL : nx1 < own.length := by rw [HNO.out]; exact h2
                      have hsq := HSQ.out.own HAL2.out (by rw [hf]; exact h1) hL
                      obtain ⟨b, off, rfl, hbl, hc7⟩ := (HP.out.below HRP.out.rs.be).at hL
                      obtain ⟨h, hh⟩ : ∃ h, own[nx1] = h := ⟨_, rfl⟩
                      rw [hh] at hsq hc7
                      obtain ⟨o, p, q, vv, xx, yy, r⟩ := h
                      obtain ⟨b0, b1, b2, b3, b4, b5, b6⟩ := hc7
                      simp only at b0 b3 hsq
                      clear h1 hf hh b1 b2 b4 b5 b6
                      by_cases ho : o = 0 ∨ o = 1
                      · have HQ1 := Lib.hid (hsq.1 ho)
                        have hlx := HLO.out
                        rcases ho with rfl | rfl
                        · clear hsq
                          go_wp2
                          clear a0 a1 a2 a3 a4 a5 a6
                          go_region_with (go_at_call 41; (refine (rbegin_any 0 0 vv _).mono ?_); rintro _ w5 ⟨rfl, z5⟩; have HR5 := Lib.hid (HRP.out.after ((Below.refl _ _).drew.trans z5)); obtain ⟨a0, a1, a2, a3, a4, a5, a6⟩ := HR5.out.rs.ow.c7 hit; have fz := HR5.out.rs.ow.free; have HL5 := Lib.hid (Nat.le_trans hlx (sz_drew z5.size)))
                          all_goals
                            go_wp2
                            go_roundw
                            case rel => exact ⟨nx1 + 1, _, by go_num, by omega, Lib.hid (HR5.out.store hit (fbg 0 0 vv)), HQ1, Lib.hid (show lo ≤ (pk7 w5 g (i * 7) (fbg 0 0 vv)).heap.size by rw [pk7_size]; exact HL5.out)⟩
                            case measure => simp [intOf]; omega
                        · clear hsq
                          go_wp2
                          clear a0 a1 a2 a3 a4 a5 a6
                          go_region_with (go_at_call 41; (refine (rbegin_any 1 0 vv _).mono ?_); rintro _ w5 ⟨rfl, z5⟩; have HR5 := Lib.hid (HRP.out.after ((Below.refl _ _).drew.trans z5)); obtain ⟨a0, a1, a2, a3, a4, a5, a6⟩ := HR5.out.rs.ow.c7 hit; have fz := HR5.out.rs.ow.free; have HL5 := Lib.hid (Nat.le_trans hlx (sz_drew z5.size)))
                          all_goals
                            go_wp2
                            go_roundw
                            case rel => exact ⟨nx1 + 1, _, by go_num, by omega, Lib.hid (HR5.out.store hit (fbg 1 0 vv)), HQ1, Lib.hid (show lo ≤ (pk7 w5 g (i * 7) (fbg 1 0 vv)).heap.size by rw [pk7_size]; exact HL5.out)⟩
                            case measure => simp [intOf]; omega
                      · have g3 : (o == 0) = false := by simp; omega
                        have g4 : (o == 1) = false := by simp; omega
                        have HQ2 := Lib.hid (hsq.2 ho)
                        clear hsq ho
                        go_wp2
                        go_roundw
                        case rel => exact ⟨nx1 + 1, row, by go_num, by omega, HRP, HQ2, HLO⟩
                        case measure => simp [intOf]; omega
                    · have g2 : decide (nx1 < no) = false := decide_eq_false h2
                      have HBE := Lib.hid (HSQ.out.done HFN.out (fun _ => by rw [HNO.out]; omega))
                      clear h1 hf
                      go_wp2
                      go_meet
                      exact ⟨nx1, row, rfl, hn1, HRP, HBE, HLO⟩
                  · have g1 : decide (f.op < 0) = false := decide_eq_false h1
                    have HBE := Lib.hid (HSQ.out.done HFN.out (fun hh => absurd (by rw [hf] at hh; exact hh) h1))
                    clear h1 hf
                    go_wp2
                    go_meet
                    exact ⟨nx1, row, rfl, hn1, HRP, HBE, HLO⟩
              case rest =>
                clear HRP HSQ HLO
                obtain ⟨nx1, row, rfl, hn1, HRP, HBE, HLO⟩ := hcut
                have hUF := beg_uf HU.out HPV.out.uf i
                have hpl : play1 D t own s (i : Int) = stepAt 1 D 1 0 (beg own s i) i := by unfold play1; rw [if_pos ⟨by omega, by have := HJE.out; omega⟩]; rfl
                rw [HBE.out] at hUF hpl
                unfold stepAt at hpl
                simp only at hUF hpl
                obtain ⟨f, hf⟩ : ∃ f, row.getD i fno = f := ⟨_, rfl⟩
                obtain ⟨⟨M', f'⟩, hst⟩ : ∃ x, deqS 1 D 1 0 s.m f = x := ⟨_, rfl⟩
                have hc := HRP.out.rs.ow.c7 hit
                rw [hf] at hUF hpl hc
                rw [hst] at hpl
                simp only at hpl
                obtain ⟨o, p, q, vv, xx, yy, r⟩ := f
                obtain ⟨wx, hwx⟩ : ∃ wx, wx = wc := ⟨_, rfl⟩
                subst hwx
                have HC := Lib.hid hc
                have HUF := Lib.hid hUF
                have HST := Lib.hid hst
                have HUM := Lib.hid HPV.out.um
                have HML := Lib.hid (HPV.out.ml.trans HNM.out)
                clear hf hc hUF hst HBE HPV HFN
                iterate 2 (first | go_step | go_back)

                have HK := Lib.hid (show ∀ x', Below wx.heap.size wx x' → (fun w' => w'.cell? ⟨w.heap.size, 0, none⟩ = some (.int .i64 1) ∧ w'.cell? ⟨w.heap.size, 1, none⟩ = some (.int .i64 D) ∧ w'.cell? ⟨w.heap.size, 2, none⟩ = some (.int .i64 1) ∧ w'.cell? ⟨w.heap.size, 3, none⟩ = some (.int .i64 0) ∧ w'.cell? ⟨g, i * 7, none⟩ = some (.int .i64 o) ∧ w'.cell? ⟨g, i * 7 + 1, none⟩ = some (.int .i64 p) ∧ w'.cell? ⟨g, i * 7 + 2, none⟩ = some (.int .i64 q) ∧ w'.cell? ⟨g, i * 7 + 3, none⟩ = some (.int .u64 vv) ∧ w'.cell? ⟨g, i * 7 + 4, none⟩ = some (.int .u64 xx) ∧ w'.cell? ⟨g, i * 7 + 5, none⟩ = some (.int .u64 yy) ∧ w'.cell? ⟨g, i * 7 + 6, none⟩ = some (.int .i64 r) ∧ Below wx.heap.size wx w') x' from fun x' hx => by
                  obtain ⟨_, e0, e1, e2, e3⟩ := HRP.out.rs.bx.below hx
                  obtain ⟨f0, f1, f2, f3, f4, f5, f6⟩ := HC.out.same (hx.block _ (ow_ge HRP.out.rs.ow).2)
                  exact ⟨e0, e1, e2, e3, f0, f1, f2, f3, f4, f5, f6, hx⟩)
                have HRD := Lib.hid (show ∀ x', (fun w' => w'.cell? ⟨w.heap.size, 0, none⟩ = some (.int .i64 1) ∧ w'.cell? ⟨w.heap.size, 1, none⟩ = some (.int .i64 D) ∧ w'.cell? ⟨w.heap.size, 2, none⟩ = some (.int .i64 1) ∧ w'.cell? ⟨w.heap.size, 3, none⟩ = some (.int .i64 0) ∧ w'.cell? ⟨g, i * 7, none⟩ = some (.int .i64 o) ∧ w'.cell? ⟨g, i * 7 + 1, none⟩ = some (.int .i64 p) ∧ w'.cell? ⟨g, i * 7 + 2, none⟩ = some (.int .i64 q) ∧ w'.cell? ⟨g, i * 7 + 3, none⟩ = some (.int .u64 vv) ∧ w'.cell? ⟨g, i * 7 + 4, none⟩ = some (.int .u64 xx) ∧ w'.cell? ⟨g, i * 7 + 5, none⟩ = some (.int .u64 yy) ∧ w'.cell? ⟨g, i * 7 + 6, none⟩ = some (.int .i64 r) ∧ Below wx.heap.size wx w') x' → Rd x' A' s.m from fun x' h => HRP.out.rs.me.rd.below (h.2.2.2.2.2.2.2.2.2.2.2))
                have hHeld0 := HK.out _ (Below.refl _ _)
                have hn0 : wx.heap.size ≤ wx.heap.size := Nat.le_refl _
                go_region_held3 (fun w' => w'.cell? ⟨w.heap.size, 0, none⟩ = some (.int .i64 1) ∧ w'.cell? ⟨w.heap.size, 1, none⟩ = some (.int .i64 D) ∧ w'.cell? ⟨w.heap.size, 2, none⟩ = some (.int .i64 1) ∧ w'.cell? ⟨w.heap.size, 3, none⟩ = some (.int .i64 0) ∧ w'.cell? ⟨g, i * 7, none⟩ = some (.int .i64 o) ∧ w'.cell? ⟨g, i * 7 + 1, none⟩ = some (.int .i64 p) ∧ w'.cell? ⟨g, i * 7 + 2, none⟩ = some (.int .i64 q) ∧ w'.cell? ⟨g, i * 7 + 3, none⟩ = some (.int .u64 vv) ∧ w'.cell? ⟨g, i * 7 + 4, none⟩ = some (.int .u64 xx) ∧ w'.cell? ⟨g, i * 7 + 5, none⟩ = some (.int .u64 yy) ∧ w'.cell? ⟨g, i * 7 + 6, none⟩ = some (.int .i64 r) ∧ Below wx.heap.size wx w')
                  (first | with_reducible exact hd_drew HK.out (fun _ h => h.2.2.2.2.2.2.2.2.2.2.2) (by assumption) | with_reducible exact hd_call HK.out (fun _ h => h.2.2.2.2.2.2.2.2.2.2.2) (by assumption) (by assumption) hn0 | with_reducible exact hd_alloc HK.out (fun _ h => h.2.2.2.2.2.2.2.2.2.2.2) hn0 _ (by assumption) | with_reducible exact hd_alloc_drew HK.out (fun _ h => h.2.2.2.2.2.2.2.2.2.2.2) hn0 _ (by assumption) | with_reducible exact hd_setg HK.out (fun _ h => h.2.2.2.2.2.2.2.2.2.2.2) (Nat.le_refl _) _ _ _ _ _ _ _ (by assumption) | with_reducible exact hd_realloc HK.out (fun _ h => h.2.2.2.2.2.2.2.2.2.2.2) (sz_drew hb6.size) _ _ (by assumption))
                  (first
                  | (go_at_call 12; (refine (rdstep_n (HRD.out _ (by assumption)) HML.out hnm5 HUM.out HUF.out HST.out).mono ?_); rintro _ w6 ⟨A6, c6, rfl, hr6, hb6⟩; (try (have e : Bf w6 wx.heap.size f0 := (Bf.new wx.drew f0).after hb6; obtain ⟨r0, r1, r2, r3, r4, r5, r6⟩ := e.cells; have fz := e.free; have ld := e.lt))))
                · have hrs := HRP.out.box (.inl rfl) hr6 hb6 (wf := w6.alloc (.cells #[.int .i64 f'.op, .int .i64 f'.pc, .int .i64 f'.who, .int .u64 f'.val, .int .u64 f'.x, .int .u64 f'.y, .int .i64 f'.res] 28)) (k := w6.heap.size) (f' := f') (.inr ⟨rfl, bel_alloc w6 _⟩)
                  have hbf := Bf.new w6 f'
                  generalize w6.alloc (.cells #[.int .i64 f'.op, .int .i64 f'.pc, .int .i64 f'.who, .int .u64 f'.val, .int .u64 f'.x, .int .u64 f'.y, .int .i64 f'.res] 28) = wf at hrs hbf ⊢
                  generalize w6.heap.size = kb at hrs hbf ⊢
                  have HR5 := Lib.hid hrs.1
                  have HK5 := Lib.hid hrs.2.1
                  have HX5 := Lib.hid hrs.2.2
                  have HB5 := Lib.hid hbf
                  have HL5 := Lib.hid (show lo ≤ wf.heap.size from Nat.le_trans HLO.out (Nat.le_trans hrs.2.1 (Nat.le_of_lt hbf.lt)))
                  obtain ⟨a0, a1, a2, a3, a4, a5, a6⟩ := hrs.1.rs.ow.c7 hit
                  have fz := hrs.1.rs.ow.free
                  obtain ⟨e0, e1, e2, e3, e4, e5, e6⟩ := hbf.cells
                  have hk := hbf.lt
                  have hgk : g ≠ kb := by have := (ow_ge HRP.out.rs.ow).2; have := hrs.2.1; omega
                  have hnk : w.heap.size < kb := by have := HRP.out.rs.bx.1; have := hrs.2.1; omega
                  have hqk : ∀ b, (Value.slice Q' no' co).ownBlock = some b → b ≠ kb := fun b hb => by have := (World.ownsRow.lt HRP.out.ov b hb).2; have := hrs.2.1; omega
                  have HQK := Lib.hid hqk
                  clear hrs hbf hr6 hb6 hHeld0 hn0 HK HRD hqk
                  go_upto_region 27 with (fail)
                  clear a0 a1 a2 a3 a4 a5 a6 fz e0 e1 e2 e3 e4 e5 e6 hk
                  change Code.wp _ _ _ _ (pk7 wf g (i * 7) f')
                  have HR7 := Lib.hid (HR5.out.store hit f')
                  have HX7 := Lib.hid (HX5.out.both HR7.out.rs.me)
                  have HB7 := Lib.hid (show Bf (pk7 wf g (i * 7) f') kb f' from (pk7_other kb (Ne.symm hgk)).trans HB5.out)
                  have HL7 := Lib.hid (show lo ≤ (pk7 wf g (i * 7) f').heap.size by rw [pk7_size]; exact HL5.out)
                  clear HR5 HX5 HB5 HL5
                  generalize pk7 wf g (i * 7) f' = w7 at HR7 HX7 HB7 HL7 ⊢
                  obtain ⟨e0, e1, e2, e3, e4, e5, e6⟩ := HB7.out.cells
                  have hk := HB7.out.lt
                  by_cases hres : f'.res = 0
                  · rw [if_pos hres] at hpl
                    rw [hpl] at HPV' HFN' HFO'
                    have hov := fun w => Tells.of (rover_any f' w) (v' := .bool false) (by simp [hres])
                    have HOV := Lib.hid hov
                    clear hov hpl hres
                    go_wp2_with (go_at_call 42; refine (HOV.out _).mono ?_; rintro _ w9 ⟨rfl, z9⟩)
                    go_roundw
                    case rel => exact ⟨k + 1, no', A6, Q', c6, co, ⟨M', row.set i f', s.over, nx1⟩, by go_num, rfl, rfl, rfl, by omega, by omega, hn1, HOL, Lib.hid (HR7.out.after z9), HPV', HFN', HFO', Lib.hid (Nat.le_trans HL7.out z9.size)⟩
                    case measure => simp [intOf]; omega
                  · rw [if_neg hres] at hpl
                    rw [hpl] at HPV' HFN' HFO'
                    have hov := fun w => Tells.of (rover_any f' w) (v' := .bool true) (by simp [hres])
                    have HOV := Lib.hid hov
                    clear hov hpl hres
                    go_wp2_with fail
                    refine (HOV.out _).mono ?_
                    rintro _ w9 ⟨rfl, z9⟩
                    have HR9 := Lib.hid (HR7.out.after z9)
                    have HX9 := Lib.hid (HX7.out.after z9)
                    have HB9 := Lib.hid (HB7.out.after z9)
                    have HL9 := Lib.hid (Nat.le_trans HL7.out z9.size)
                    clear e0 e1 e2 e3 e4 e5 e6 hk z9 HR7 HX7 HB7 HL7
                    obtain ⟨e0, e1, e2, e3, e4, e5, e6⟩ := HB9.out.cells
                    have hk := HB9.out.lt
                    have fz := HB9.out.free
                    go_upto_region 30 with (fail)
                    clear e0 e1 e2 e3 e4 e5 e6 hk fz
                    have HR10 := Lib.hid (HR9.out.set hnk hgk HQK.out HX9.out 2 (.int .i64 i))
                    have HB10 := Lib.hid (show Bf (w9.setCell ⟨kb, 2, none⟩ (.int .i64 i)) kb { f' with who := (i : Int) } from HB9.out.who i)
                    have HL10 := Lib.hid (show lo ≤ (w9.setCell ⟨kb, 2, none⟩ (.int .i64 i)).heap.size by simpa using HL9.out)
                    clear HR9 HX9 HB9 HL9
                    generalize w9.setCell ⟨kb, 2, none⟩ (.int .i64 i) = w10 at HR10 HB10 HL10 ⊢
                    obtain ⟨Q2, d2', w11, hrun, hrp, hsz⟩ := HR10.out.app { f' with who := (i : Int) } (by omega) HL10.out
                    have RUN := Lib.hid hrun
                    have HR11 := Lib.hid hrp
                    have HL11 := Lib.hid (Nat.le_trans HL10.out hsz)
                    obtain ⟨e0, e1, e2, e3, e4, e5, e6⟩ := HB10.out.cells
                    have hk := HB10.out.lt
                    obtain ⟨a0, a1, a2, a3, a4, a5, a6⟩ := hrp.rs.ow.c7 hit
                    have fz := hrp.rs.ow.free
                    clear hrun hrp hsz HR10 HB10 HL10
                    go_wp2_with (at_builtin; (with_reducible refine wpList_append_fr RUN.out ?_ ?_ ?_ ?_); exact ⟨_, _, rfl, rfl, rfl⟩; rfl; rfl)
                    go_roundw
                    case rel =>
                      have hfin := HR11.out.store hit fno
                      rw [List.set_set] at hfin
                      exact ⟨k + 1, no' + 1, A6, Q2, c6, d2', ⟨M', row.set i fno, s.over ++ [{ f' with who := (i : Int) }], nx1⟩, by go_num, rfl, rfl, rfl, by omega, by omega, hn1, Lib.hid (by simp [HOL.out]), Lib.hid hfin, HPV', HFN', HFO', Lib.hid (show lo ≤ (pk7 w11 g (i * 7) fno).heap.size by rw [pk7_size]; exact HL11.out)⟩
                    case measure => simp [intOf]; omega
                · have hrs := HRP.out.box (.inr ⟨_, .inl rfl⟩) hr6 hb6 (wf := Go.Proofs.Ytpeaahihjeplmaa.pf w6 wx.heap.size f') (k := wx.heap.size) (f' := f') (.inl ⟨rfl, by simp, rfl⟩)
                  have hbf : Bf (Go.Proofs.Ytpeaahihjeplmaa.pf w6 wx.heap.size f') wx.heap.size f' := Bf.pf ((Bf.new wx.drew f0).after hb6) f'
                  change Exit.then _ _ _ _ (Go.Proofs.Ytpeaahihjeplmaa.pf w6 wx.heap.size f')
                  generalize hwf : Go.Proofs.Ytpeaahihjeplmaa.pf w6 wx.heap.size f' = wf at hrs hbf ⊢
                  generalize hkb : wx.heap.size = kb at hbf ⊢
                  rw [hkb] at hrs
                  replace hrs := (show RP w w.heap.size D g j d A6 M' row lo Q' no' co s.over wf ∧ wx.heap.size ≤ kb ∧ Rx 0 kb wf A6 M' from ⟨hrs.1, Nat.le_of_eq hkb, hrs.2.2⟩)
                  clear hwf hkb
                  have HR5 := Lib.hid hrs.1
                  have HK5 := Lib.hid hrs.2.1
                  have HX5 := Lib.hid hrs.2.2
                  have HB5 := Lib.hid hbf
                  have HL5 := Lib.hid (show lo ≤ wf.heap.size from Nat.le_trans HLO.out (Nat.le_trans hrs.2.1 (Nat.le_of_lt hbf.lt)))
                  obtain ⟨a0, a1, a2, a3, a4, a5, a6⟩ := hrs.1.rs.ow.c7 hit
                  have fz := hrs.1.rs.ow.free
                  obtain ⟨e0, e1, e2, e3, e4, e5, e6⟩ := hbf.cells
                  have hk := hbf.lt
                  have hgk : g ≠ kb := by have := (ow_ge HRP.out.rs.ow).2; have := hrs.2.1; omega
                  have hnk : w.heap.size < kb := by have := HRP.out.rs.bx.1; have := hrs.2.1; omega
                  have hqk : ∀ b, (Value.slice Q' no' co).ownBlock = some b → b ≠ kb := fun b hb => by have := (World.ownsRow.lt HRP.out.ov b hb).2; have := hrs.2.1; omega
                  have HQK := Lib.hid hqk
                  clear hrs hbf hr6 hb6 hHeld0 hn0 HK HRD hqk
                  go_upto_region 27 with (fail)
                  clear a0 a1 a2 a3 a4 a5 a6 fz e0 e1 e2 e3 e4 e5 e6 hk
                  change Code.wp _ _ _ _ (pk7 wf g (i * 7) f')
                  have HR7 := Lib.hid (HR5.out.store hit f')
                  have HX7 := Lib.hid (HX5.out.both HR7.out.rs.me)
                  have HB7 := Lib.hid (show Bf (pk7 wf g (i * 7) f') kb f' from (pk7_other kb (Ne.symm hgk)).trans HB5.out)
                  have HL7 := Lib.hid (show lo ≤ (pk7 wf g (i * 7) f').heap.size by rw [pk7_size]; exact HL5.out)
                  clear HR5 HX5 HB5 HL5
                  generalize pk7 wf g (i * 7) f' = w7 at HR7 HX7 HB7 HL7 ⊢
                  obtain ⟨e0, e1, e2, e3, e4, e5, e6⟩ := HB7.out.cells
                  have hk := HB7.out.lt
                  by_cases hres : f'.res = 0
                  · rw [if_pos hres] at hpl
                    rw [hpl] at HPV' HFN' HFO'
                    have hov := fun w => Tells.of (rover_any f' w) (v' := .bool false) (by simp [hres])
                    have HOV := Lib.hid hov
                    clear hov hpl hres
                    go_wp2_with (go_at_call 42; refine (HOV.out _).mono ?_; rintro _ w9 ⟨rfl, z9⟩)
                    go_roundw
                    case rel => exact ⟨k + 1, no', A6, Q', c6, co, ⟨M', row.set i f', s.over, nx1⟩, by go_num, rfl, rfl, rfl, by omega, by omega, hn1, HOL, Lib.hid (HR7.out.after z9), HPV', HFN', HFO', Lib.hid (Nat.le_trans HL7.out z9.size)⟩
                    case measure => simp [intOf]; omega
                  · rw [if_neg hres] at hpl
                    rw [hpl] at HPV' HFN' HFO'
                    have hov := fun w => Tells.of (rover_any f' w) (v' := .bool true) (by simp [hres])
                    have HOV := Lib.hid hov
                    clear hov hpl hres
                    go_wp2_with fail
                    refine (HOV.out _).mono ?_
                    rintro _ w9 ⟨rfl, z9⟩
                    have HR9 := Lib.hid (HR7.out.after z9)
                    have HX9 := Lib.hid (HX7.out.after z9)
                    have HB9 := Lib.hid (HB7.out.after z9)
                    have HL9 := Lib.hid (Nat.le_trans HL7.out z9.size)
                    clear e0 e1 e2 e3 e4 e5 e6 hk z9 HR7 HX7 HB7 HL7
                    obtain ⟨e0, e1, e2, e3, e4, e5, e6⟩ := HB9.out.cells
                    have hk := HB9.out.lt
                    have fz := HB9.out.free
                    go_upto_region 30 with (fail)
                    clear e0 e1 e2 e3 e4 e5 e6 hk fz
                    have HR10 := Lib.hid (HR9.out.set hnk hgk HQK.out HX9.out 2 (.int .i64 i))
                    have HB10 := Lib.hid (show Bf (w9.setCell ⟨kb, 2, none⟩ (.int .i64 i)) kb { f' with who := (i : Int) } from HB9.out.who i)
                    have HL10 := Lib.hid (show lo ≤ (w9.setCell ⟨kb, 2, none⟩ (.int .i64 i)).heap.size by simpa using HL9.out)
                    clear HR9 HX9 HB9 HL9
                    generalize w9.setCell ⟨kb, 2, none⟩ (.int .i64 i) = w10 at HR10 HB10 HL10 ⊢
                    obtain ⟨Q2, d2', w11, hrun, hrp, hsz⟩ := HR10.out.app { f' with who := (i : Int) } (by omega) HL10.out
                    have RUN := Lib.hid hrun
                    have HR11 := Lib.hid hrp
                    have HL11 := Lib.hid (Nat.le_trans HL10.out hsz)
                    obtain ⟨e0, e1, e2, e3, e4, e5, e6⟩ := HB10.out.cells
                    have hk := HB10.out.lt
                    obtain ⟨a0, a1, a2, a3, a4, a5, a6⟩ := hrp.rs.ow.c7 hit
                    have fz := hrp.rs.ow.free
                    clear hrun hrp hsz HR10 HB10 HL10
                    go_wp2_with (at_builtin; (with_reducible refine wpList_append_fr RUN.out ?_ ?_ ?_ ?_); exact ⟨_, _, rfl, rfl, rfl⟩; rfl; rfl)
                    go_roundw
                    case rel =>
                      have hfin := HR11.out.store hit fno
                      rw [List.set_set] at hfin
                      exact ⟨k + 1, no' + 1, A6, Q2, c6, d2', ⟨M', row.set i fno, s.over ++ [{ f' with who := (i : Int) }], nx1⟩, by go_num, rfl, rfl, rfl, by omega, by omega, hn1, Lib.hid (by simp [HOL.out]), Lib.hid hfin, HPV', HFN', HFO', Lib.hid (show lo ≤ (pk7 w11 g (i * 7) fno).heap.size by rw [pk7_size]; exact HL11.out)⟩
                    case measure => simp [intOf]; omega
          · have e : play1 D t own s y = s := by unfold play1; rw [if_neg hr]
            rw [e] at HPV' HFN' HFO'
            by_cases hr0 : y < 0
            · have g2 : decide (y < 0) = true := decide_eq_true hr0
              clear hr e
              go_wp2
              go_roundw
              case rel => exact ⟨k + 1, no', A', Q', c', co, s, by go_num, rfl, rfl, rfl, by omega, by omega, hnx, HOL, HRP, HPV', HFN', HFO', HLO⟩
              case measure => simp [intOf]; omega
            · have g2 : decide (y < 0) = false := decide_eq_false hr0
              have g3 : decide (y > (t : Int)) = true := decide_eq_true (by omega)
              clear hr e
              go_wp2
              go_roundw
              case rel => exact ⟨k + 1, no', A', Q', c', co, s, by go_num, rfl, rfl, rfl, by omega, by omega, hnx, HOL, HRP, HPV', HFN', HFO', HLO⟩
              case measure => simp [intOf]; omega
        · have hke : k = nw := by omega
          have e : who.drop k = [] := by rw [hke, ← HNW.out, List.drop_length]
          have hfo := HFO.out
          rw [e] at hfo
          simp only [List.foldl_nil] at hfo
          subst hfo
          have hml : s.m.length = nm := HPV.out.ml.trans HNM.out
          have hal : s.a.length = j := HPV.out.al.trans HJE.out.symm
          clear hke e HFO
          go_wp2
          go_ret3
          exact ⟨A', c', Q', co, some ⟨g, 0, none⟩, d, by rw [hml, hal, HOL.out]; rfl, HRP.out.rs.me.rd, HRP.out.ov.pr, by rw [HOL.out]; exact ow_cap HRP.out.ov, HRP.out.rs.ow.pr, HRP.out.rs.be⟩
set_option maxRecDepth 100000 in
set_option maxHeartbeats 4000000 in
theorem rplay_no (D th : Int) (A B : Option Addr) (ca cw no nw : Nat) (w : World) (hk : plK D th = false) :
    Calls Try.prog 14 #[.int .i64 D, .int .i64 th, .slice A no ca, .slice B nw cw] w (RetPl w ⟨[], [], [], 0⟩) := by
  have HK := Lib.hid hk
  clear hk
  go_enter Try.func14, Try.ntmps14
  cases hm : may 1 D 1 0
  · go_wp2_with fail
    refine (Tells.of (rmay_any 1 D 1 0 _) (v' := .bool false) (by rw [hm])).mono ?_
    rintro _ w1 ⟨rfl, z1⟩
    have Z1 := Lib.hid ((box_below w _).trans (z1.mono (box_below w _).size))
    clear z1
    go_wp2
    go_ret3
    exact ret_nil w _ Z1.out
  · go_wp2_with fail
    refine (Tells.of (rmay_any 1 D 1 0 _) (v' := .bool true) (by rw [hm])).mono ?_
    rintro _ w1 ⟨rfl, z1⟩
    have Z1 := Lib.hid ((box_below w _).trans (z1.mono (box_below w _).size))
    clear z1
    have h := HK.out
    unfold plK at h
    rw [hm] at h
    simp only [Bool.true_and, Bool.and_eq_false_iff, decide_eq_false_iff_not] at h
    by_cases h0 : th < 0
    · have d1 : decide (th < 0) = true := decide_eq_true h0
      clear h
      go_wp2
      go_ret3
      exact ret_nil w _ Z1.out
    · have d1 : decide (th < 0) = false := decide_eq_false h0
      have d2 : decide (th > 8) = true := decide_eq_true (by omega)
      clear h
      go_wp2
      go_ret3
      exact ret_nil w _ Z1.out
/-- The document's own Play, whatever comes in. -/
theorem rplay_any (D th : Int) (A B : Option Addr) (ca cw no nw : Nat) (own : List Fr) (who : List Int) (w : World) (hP : Pr w.heap.size w A own) (hW : Ri w B who) (hno : own.length = no) (hnw : who.length = nw) (hw5 : nw ≤ 504) (hn6 : no ≤ 1000) (hu : ∀ f ∈ own, UF f) :
    Calls Try.prog 14 #[.int .i64 D, .int .i64 th, .slice A no ca, .slice B nw cw] w (RetPl w (plO D th own who)) := by
  unfold plO
  cases hk : plK D th
  · rw [if_neg (by simp)]
    exact rplay_no D th A B ca cw no nw w hk
  · rw [if_pos rfl]
    unfold plK at hk
    simp only [Bool.and_eq_true, decide_eq_true_eq] at hk
    obtain ⟨t, rfl⟩ := Int.eq_ofNat_of_zero_le hk.2.1
    exact rplay_yes D t A B ca cw no nw own who w hP hW hno hnw hw5 hn6 hu hk.1 (by omega)
end Go.Proofs.Ytpeaahihjeplmaa
