/- Merged: IkU, IkY, IkZ. -/
import Derived.Test.YtppllanmgdhabaaIkFW
import Derived.Test.YtppllanmgdhabaaIkV
namespace Go.Proofs.Ytppllanmgdhabaa
open Go.RowKit Go.Deep Go.Shelf
set_option maxRecDepth 100000 in
theorem Rx.both {g b : Nat} {w w' : World} {A : Option Addr} {l : List Int} (h : Rx 0 b w A l) (h' : Rx 0 g w' A l) : Rx 0 b w' A l := fun hp => by
  obtain ⟨ad, e, _, hne, _, _⟩ := h hp
  obtain ⟨ad', e', _, _, hlt', hc'⟩ := h' hp
  rw [e] at e'
  injection e' with e'
  subst e'
  exact ⟨ad, e, Nat.zero_le _, hne, hlt', hc'⟩
/-- A block that holds numbers (of int), known whole. -/
def Bi (w : World) (g : Nat) (l : List Int) : Prop := w.heap[g]? = some (.cells (l.map (Value.int .i64)).toArray 3)
set_option maxRecDepth 100000 in
theorem Bi.lt {w : World} {g : Nat} {l : List Int} (h : Bi w g l) : g < w.heap.size := (Array.getElem?_eq_some_iff.1 h).1
set_option maxRecDepth 100000 in
theorem Bi.same {w w' : World} {g : Nat} {l : List Int} (h : Bi w g l) (hs : w'.heap[g]? = w.heap[g]?) : Bi w' g l := hs.trans h
set_option maxRecDepth 100000 in
theorem Bi.cell {w : World} {g : Nat} {l : List Int} (h : Bi w g l) {i : Nat} {u : Int} (hu : l[i]? = some u) : w.cell? ⟨g, i, none⟩ = some (.int .i64 u) := by
  unfold World.cell?
  unfold Bi at h
  simp [h, hu]
set_option maxRecDepth 100000 in
theorem Bi.free {w : World} {g : Nat} {l : List Int} (h : Bi w g l) (i : Nat) : w.frozen? ⟨g, i, none⟩ = false := by
  unfold Bi at h
  simp [World.frozen?, h]
set_option maxRecDepth 100000 in
theorem Bi.set {w : World} {g : Nat} {l : List Int} (h : Bi w g l) (i : Nat) (u : Int) : Bi (w.setCell ⟨g, i, none⟩ (.int .i64 u)) g (l.set i u) := by
  unfold Bi at h ⊢
  simp [World.setCell, Array.getElem?_modify, h, List.map_set]
/-- As RS, and the calls that are over, and each one's next place. -/
structure RP (w0 : World) (n₀ : Nat) (J : Int) (g na d : Nat) (A : Option Addr) (M : List Int) (row : List Fr) (lo : Nat) (Q : Option Addr) (no co : Nat) (over : List Fr) (gx : Nat) (nx : List Int) (w : World) : Prop where
  rs : RS w0 n₀ J g na d A M row w
  lg : g < lo
  ov : Ow w lo Q no co over
  dm : ∀ b, (Value.slice Q no co).ownBlock = some b → Rx 0 b w A M
  lx : n₀ < gx ∧ gx < lo ∧ gx ≠ g
  nb : Bi w gx nx
  dx : Rx 0 gx w A M
set_option maxRecDepth 100000 in
theorem RP.after {w0 : World} {n₀ : Nat} {J : Int} {g na d : Nat} {A : Option Addr} {M : List Int} {row : List Fr} {lo : Nat} {Q : Option Addr} {no co : Nat} {over : List Fr} {gx : Nat} {nx : List Int} {w w' : World} (h : RP w0 n₀ J g na d A M row lo Q no co over gx nx w) (hb : Below w.heap.size w w') : RP w0 n₀ J g na d A M row lo Q no co over gx nx w' :=
  ⟨h.rs.after hb, h.lg, h.ov.below hb, fun b hq => (h.dm b hq).after hb, h.lx, h.nb.same (hb.block _ h.nb.lt), h.dx.after hb⟩
set_option maxRecDepth 100000 in
theorem RP.store {w0 : World} {n₀ : Nat} {J : Int} {g na d : Nat} {A : Option Addr} {M : List Int} {row : List Fr} {lo : Nat} {Q : Option Addr} {no co : Nat} {over : List Fr} {gx : Nat} {nx : List Int} {w : World} (h : RP w0 n₀ J g na d A M row lo Q no co over gx nx w) {i : Nat} (hi : i < na) (f : Fr) : RP w0 n₀ J g na d A M (row.set i f) lo Q no co over gx nx (pk7 w g (i * 7) f) := by
  have k1 := h.rs.store hi f
  have k2 : Ow (pk7 w g (i * 7) f) lo Q no co over := h.ov.kept fun k hk => pk7_other k (by have := (World.ownsRow.lt h.ov k hk).1; have := h.lg; omega)
  exact ⟨k1, h.lg, k2, fun b hq => (h.dm b hq).both k1.me, h.lx, h.nb.same (pk7_other _ h.lx.2.2), h.dx.both k1.me⟩
set_option maxRecDepth 100000 in
theorem RP.next {w0 : World} {n₀ : Nat} {J : Int} {g na d : Nat} {A : Option Addr} {M : List Int} {row : List Fr} {lo : Nat} {Q : Option Addr} {no co : Nat} {over : List Fr} {gx : Nat} {nx : List Int} {w : World} (h : RP w0 n₀ J g na d A M row lo Q no co over gx nx w) (i : Nat) (u : Int) : RP w0 n₀ J g na d A M row lo Q no co over gx (nx.set i u) (w.setCell ⟨gx, i, none⟩ (.int .i64 u)) := by
  have k1 := h.dx.set (p := ⟨gx, i, none⟩) rfl (.int .i64 u)
  have hs : ∀ b, b ≠ gx → (w.setCell ⟨gx, i, none⟩ (.int .i64 u)).heap[b]? = w.heap[b]? := fun b hb => Below.heap_setCell _ _ _ _ hb
  have hx := h.lx
  refine ⟨⟨h.rs.bx.of_block (hs _ (by omega)) (by simpa using h.rs.bx.1), h.rs.ow.kept fun b hb => ?_, h.rs.me.both k1, h.rs.be.setCell (Nat.le_of_lt hx.1) _⟩, h.lg, h.ov.kept fun b hb => hs b ?_, fun b hb => (h.dm b hb).both k1, hx, h.nb.set i u, k1⟩
  · injection hb with hb
    subst hb
    exact hs _ (fun e => hx.2.2 e.symm)
  · have := (World.ownsRow.lt h.ov b hb).1
    omega
set_option maxRecDepth 100000 in
theorem RP.box {w0 : World} {n₀ : Nat} {J : Int} {g na d : Nat} {A A' : Option Addr} {M M' : List Int} {row : List Fr} {lo : Nat} {Q : Option Addr} {no co : Nat} {over : List Fr} {gx : Nat} {nx : List Int} {w x w' : World} {f' : Fr} (h : RP w0 n₀ J g na d A M row lo Q no co over gx nx w)
    (hx : x = w.drew ∨ ∃ o, x = w.drew.alloc o ∨ x = (w.alloc o).drew) (hr : (A' = A ∧ M' = M) ∨ Rn x.heap.size w' A' M') (hb : Below x.heap.size x w') {wf : World} {k : Nat} (hf : (k = w.heap.size ∧ w.heap.size < x.heap.size ∧ wf = Go.Proofs.Ytppllanmgdhabaa.pf w' k f') ∨ (k = w'.heap.size ∧ Below w'.heap.size w' wf)) : RP w0 n₀ J g na d A' M' row lo Q no co over gx nx wf ∧ w.heap.size ≤ k ∧ Below w.heap.size w wf := by
  have hwx : Below w.heap.size w x := by
    rcases hx with rfl | ⟨o, rfl | rfl⟩
    · exact (Below.refl _ _).drew
    · exact (Below.refl _ _).drew.alloc (Nat.le_refl _) _
    · exact ((Below.refl _ _).alloc (Nat.le_refl _) _).drew
  have hb' : Below w.heap.size w w' := hwx.trans (hb.mono hwx.size)
  have hbf : Below w.heap.size w wf := by
    rcases hf with ⟨rfl, hlt, rfl⟩ | ⟨rfl, hz⟩
    · exact below_pf hb' (Nat.le_refl _) f'
    · exact hb'.trans (hz.mono hb'.size)
  have k1 := h.rs.box hx hr hb hf
  have far : ∀ b, b < w.heap.size → Rx 0 b w A M → Rx 0 b wf A' M' := fun b hbl hd => by
    rcases hr with ⟨rfl, rfl⟩ | hr
    · exact hd.after hbf
    · have hm : Rx 0 b w' A' M' := hr.rx (Nat.zero_le _) (.inl (by have := hwx.size; omega))
      exact hm.both k1.me
  refine ⟨⟨k1, h.lg, h.ov.below hbf, fun b hq => far b (World.ownsRow.lt h.ov b hq).2 (h.dm b hq), h.lx, h.nb.same (hbf.block _ h.nb.lt), far gx h.nb.lt h.dx⟩, ?_, hbf⟩
  rcases hf with ⟨rfl, _, _⟩ | ⟨rfl, _⟩
  · exact Nat.le_refl _
  · exact hb'.size
set_option maxRecDepth 100000 in
/-- A call more that is over. -/
theorem RP.app {w0 : World} {n₀ : Nat} {J : Int} {g na d : Nat} {A : Option Addr} {M : List Int} {row : List Fr} {lo : Nat} {Q : Option Addr} {no co : Nat} {over : List Fr} {gx : Nat} {nx : List Int} {w : World} (h : RP w0 n₀ J g na d A M row lo Q no co over gx nx w) (x : Fr) (hz : no + 1 ≤ 10000) (hlo : lo ≤ w.heap.size) :
    ∃ Q' d' w', (Builtin.append_ #[31, 31] 31 #[.slice Q no co, .slice (some ⟨w.heap.size, 0, none⟩) 1 1]).run Try.prog (w.alloc (.cells #[.int .i64 x.op, .int .i64 x.pc, .int .i64 x.who, .int .u64 x.val, .int .u64 x.x, .int .u64 x.y, .int .i64 x.res] 28)) = .ok (.slice Q' (no + 1) d') w' ∧ RP w0 n₀ J g na d A M row lo Q' (no + 1) d' (over ++ [x]) gx nx w' ∧ w.heap.size ≤ w'.heap.size := by
  obtain ⟨Q', d', w', h1, h2, h3, h4, h5⟩ := app_one h.ov x hz hlo
  have ha := box_below w (.cells #[.int .i64 x.op, .int .i64 x.pc, .int .i64 x.who, .int .u64 x.val, .int .u64 x.x, .int .u64 x.y, .int .i64 x.res] 28)
  have hA := h.after ha
  have hg := ow_ge h.rs.ow
  have hgA := ow_ge hA.rs.ow
  have hsz := h3.size
  have hn := hA.rs.bx.1
  have hlx := h.lx
  generalize w.alloc (.cells #[.int .i64 x.op, .int .i64 x.pc, .int .i64 x.who, .int .u64 x.val, .int .u64 x.x, .int .u64 x.y, .int .i64 x.res] 28) = wa at *
  have hlow : ∀ k, k < lo → k < wa.heap.size → w'.heap[k]? = wa.heap[k]? := fun k hk hka => h3.block k hka fun e => by
    have := (World.ownsRow.lt h.ov k e.symm).1
    omega
  have hme : Rx 0 g w' A M := fun hp => by
    obtain ⟨ad, e, _, hne, hlt, hc⟩ := hA.rs.me hp
    have hs : w'.heap[ad.block]? = wa.heap[ad.block]? := h3.block _ hlt fun e' => by
      obtain ⟨ad', e2, _, hne', _, _⟩ := h.dm _ e'.symm hp
      rw [e] at e2
      injection e2 with e2
      subst e2
      exact hne' rfl
    exact ⟨ad, e, Nat.zero_le _, hne, Nat.lt_of_lt_of_le hlt hsz, fun j u hu => (World.cell?_of_block (by rw [block_add]; exact hs)).trans (hc j u hu)⟩
  refine ⟨Q', d', w', h1, ⟨⟨?_, ?_, hme, ?_⟩, h.lg, h2, fun b hq => ?_, hlx, hA.nb.same (hlow _ hlx.2.1 hA.nb.lt), hA.dx.both hme⟩, Nat.le_trans ha.size hsz⟩
  · exact hA.rs.bx.of_block (hlow _ (by have := h.lg; omega) hn) (Nat.lt_of_lt_of_le hn hsz)
  · exact hA.rs.ow.kept fun k hk => by
      injection hk with hk
      subst hk
      exact hlow _ h.lg hgA.2
  · exact h.rs.be.trans (h4.mono (by have := h.lg; omega))
  · rcases h5 with e | e
    · rw [e] at hq
      exact (h.dm b hq).both hme
    · rw [e] at hq
      injection hq with hq
      subst hq
      intro hp
      obtain ⟨ad, e, _, hne, hlt, hc⟩ := h.rs.me hp
      obtain ⟨ad', e', _, _, hlt', hc'⟩ := hme hp
      rw [e] at e'
      injection e' with e'
      subst e'
      exact ⟨ad, e, Nat.zero_le _, by omega, hlt', hc'⟩
/-- Who has no call at hand has nobody's call. -/
def FN (a : List Fr) : Prop := ∀ i, (a.getD i fno).op < 0 → a.getD i fno = fno
set_option maxRecDepth 100000 in
theorem fn_set {a : List Fr} (h : FN a) {f : Fr} (hf : f.op < 0 → f = fno) (j : Nat) : FN (a.set j f) := by
  intro i
  rw [List.getD_eq_getElem?_getD, List.getElem?_set]
  split
  · split
    · exact hf
    · intro _; rfl
  · have := h i
    rw [List.getD_eq_getElem?_getD] at this
    exact this
set_option maxRecDepth 100000 in
theorem fn_start (J : Int) (calls : List (List Fr)) : FN (startI J calls).a := by
  intro i _
  unfold startI
  rw [List.getD_eq_getElem?_getD, List.getElem?_replicate]
  split <;> rfl
set_option maxRecDepth 100000 in
theorem insS_fno (J : Int) (m : List Int) : insS 1 1 J 0 m fno = (m, fno) := by
  unfold insS; simp [fno]
set_option maxRecDepth 100000 in
theorem fn_stepI {J : Int} {s : PI} (h : FN s.a) (i : Nat) : FN (stepI J s i).a := by
  unfold stepI
  split
  · refine fn_set h (fun hlt => ?_) i
    rw [insS_op] at hlt
    have e := h i hlt
    rw [e, insS_fno]
  · exact fn_set h (fun _ => rfl) i
set_option maxRecDepth 100000 in
theorem nxtI_fno (i : Int) (l : List Fr) : (nxtI i l).1.op < 0 → (nxtI i l).1 = fno := by
  induction l with
  | nil => intro _; rfl
  | cons f r ih =>
    unfold nxtI
    split
    · rename_i h
      intro hlt
      unfold fbg at hlt
      simp only at hlt
      omega
    · exact ih
set_option maxRecDepth 100000 in
theorem fn_begI {s : PI} (h : FN s.a) (i : Nat) : FN (begI s i).a := by
  unfold begI
  split
  · exact fn_set h (nxtI_fno _ _) i
  · exact h
set_option maxRecDepth 100000 in
theorem fn_playI1 {J : Int} {n : Nat} {s : PI} (h : FN s.a) (i : Int) : FN (playI1 J n s i).a := by
  unfold playI1
  split
  · exact fn_stepI (fn_begI h _) _
  · exact h
set_option maxRecDepth 100000 in
theorem set_same {α : Type} (a : List α) (i : Nat) (z : α) : a.set i (a.getD i z) = a := by
  by_cases h : i < a.length
  · rw [List.getD_eq_getElem?_getD, List.getElem?_eq_getElem h]; simp
  · exact List.set_eq_of_length_le (by omega)
/-- How the row of calls stands while the next call of one is looked for: 'l' is the list of it, 'k' its next place. -/
def SQ (s : PI) (i : Nat) (l : List Fr) (row : List Fr) (k : Nat) : Prop :=
  (0 ≤ (row.getD i fno).op ∧ begI s i = ⟨s.m, row, s.over, s.left.set i (l.drop k)⟩) ∨ ((row.getD i fno).op < 0 ∧ row = s.a ∧ nxtI i (l.drop k) = nxtI i (s.left.getD i []))
set_option maxRecDepth 100000 in
theorem nxtI_cons (i : Int) (f : Fr) (r : List Fr) : nxtI i (f :: r) = if f.op = 3 ∨ f.op = 4 then (fbg f.op i f.val, r) else nxtI i r := rfl
set_option maxRecDepth 100000 in
theorem SQ.start {s : PI} {i : Nat} {l : List Fr} {k : Nat} (hk : s.left.getD i [] = l.drop k) : SQ s i l s.a k := by
  by_cases h1 : (s.a.getD i fno).op < 0
  · exact .inr ⟨h1, rfl, by rw [hk]⟩
  · refine .inl ⟨by omega, ?_⟩
    unfold begI
    rw [if_neg (by omega), ← hk, set_same]
set_option maxRecDepth 100000 in
theorem SQ.own {s : PI} {i : Nat} {l row : List Fr} {k : Nat} (h : SQ s i l row k) (hfn : FN s.a) (hl : i < s.a.length) (hf : (row.getD i fno).op < 0) (hn : k < l.length) :
    (l[k].op = 3 ∨ l[k].op = 4 → SQ s i l (row.set i (fbg l[k].op i l[k].val)) (k + 1)) ∧ (¬ (l[k].op = 3 ∨ l[k].op = 4) → SQ s i l row (k + 1)) := by
  rcases h with ⟨h1, _⟩ | ⟨_, rfl, h4⟩
  · omega
  · have hd := List.drop_eq_getElem_cons hn
    rw [hd] at h4
    have e1 : (s.a.getD i fno).op = -1 := by rw [hfn i hf]; rfl
    refine ⟨fun ho => .inl ⟨by rw [getD_set_eq hl]; unfold fbg; simp only; omega, ?_⟩, fun ho => .inr ⟨hf, rfl, ?_⟩⟩
    · rw [nxtI_cons, if_pos ho] at h4
      unfold begI
      rw [if_pos e1, ← h4]
    · rw [← h4, nxtI_cons, if_neg ho]
set_option maxRecDepth 100000 in
theorem SQ.done {s : PI} {i : Nat} {l row : List Fr} {k : Nat} (h : SQ s i l row k) (hfn : FN s.a) (he : (row.getD i fno).op < 0 → l.length ≤ k) : begI s i = ⟨s.m, row, s.over, s.left.set i (l.drop k)⟩ := by
  rcases h with ⟨_, h2⟩ | ⟨h1, rfl, h4⟩
  · exact h2
  · have hz := he h1
    rw [List.drop_eq_nil_of_le hz] at h4 ⊢
    have e0 := hfn i h1
    have e2 := set_same s.a i fno
    rw [e0] at e2
    unfold begI
    rw [if_pos (by rw [e0]; rfl), ← h4]
    simp only [nxtI]
    rw [e2]
/-- What is left, by each one's next place. -/
def LK (calls left : List (List Fr)) (nx : List Int) : Prop := nx.length = calls.length ∧ left.length = calls.length ∧ ∀ i, i < calls.length → ∃ k : Nat, nx[i]? = some (k : Int) ∧ k ≤ (calls.getD i []).length ∧ left.getD i [] = (calls.getD i []).drop k
set_option maxRecDepth 100000 in
theorem LK.start (calls : List (List Fr)) : LK calls calls (List.replicate calls.length 0) := by
  refine ⟨by simp, rfl, fun i hi => ⟨0, by simp [hi], Nat.zero_le _, rfl⟩⟩
set_option maxRecDepth 100000 in
theorem LK.set {calls left : List (List Fr)} {nx : List Int} (h : LK calls left nx) {i : Nat} (hi : i < calls.length) {k : Nat} (hk : k ≤ (calls.getD i []).length) : LK calls (left.set i ((calls.getD i []).drop k)) (nx.set i (k : Int)) := by
  obtain ⟨h1, h2, h3⟩ := h
  refine ⟨by simp [h1], by simp [h2], fun j hj => ?_⟩
  by_cases e : i = j
  · subst e
    refine ⟨k, by rw [List.getElem?_set_self (by omega)], hk, ?_⟩
    rw [List.getD_eq_getElem?_getD, List.getElem?_set_self (by omega)]; rfl
  · obtain ⟨q, q1, q2, q3⟩ := h3 j hj
    refine ⟨q, by rw [List.getElem?_set_ne e]; exact q1, q2, ?_⟩
    rw [List.getD_eq_getElem?_getD, List.getElem?_set_ne e, ← List.getD_eq_getElem?_getD]; exact q3
set_option maxRecDepth 100000 in
theorem stepI_left (J : Int) (s : PI) (i : Nat) : (stepI J s i).left = s.left := by
  unfold stepI; split <;> rfl
end Go.Proofs.Ytppllanmgdhabaa
namespace Go.Proofs.Ytppllanmgdhabaa
open Go.RowKit Go.Deep
/-- Are there at most 10 lists of at most 30 calls each? -/
def fewC (ls : List (List Fr)) : Bool := (ls.take 11).all (fun l => decide (l.length ≤ 30)) && decide (ls.length ≤ 10)
theorem fewC_of {ls : List (List Fr)} (h : fewC ls = true) : ls.length ≤ 10 ∧ ∀ l ∈ ls, l.length ≤ 30 := by
  unfold fewC at h
  simp only [Bool.and_eq_true, decide_eq_true_eq, List.all_eq_true] at h
  refine ⟨h.2, fun l hl => h.1 l ?_⟩
  rw [List.take_of_length_le (by omega)]; exact hl
set_option maxRecDepth 100000 in
set_option maxHeartbeats 1000000 in
theorem fewcalls_any (A : Option Addr) (n c : Nat) (vs : List Value) (ls : List (List Fr)) (w : World) (h : Rv w A vs) (hl : Ls w.heap.size w vs ls) (hn : ls.length = n) :
    Tells 11 #[.slice A n c] w (.bool (fewC ls)) := by
  have H := Lib.hid h
  have HL := Lib.hid hl
  have HN := Lib.hid hn
  clear h hl hn
  go_enter Try.func11, Try.ntmps11
  go_wp2
  go_loopw [3] (fun x wr => ∃ j : Nat, x = .int .i64 j ∧ j ≤ n ∧ j ≤ 11 ∧ Hid ((ls.take j).all (fun l => decide (l.length ≤ 30)) = true) ∧ Hid (Below w.heap.size w wr)) (fun x _ => n - (intOf x).toNat)
  case atStart => exact ⟨0, rfl, by omega, by omega, Lib.hid (by simp), Lib.hid (Below.refl _ _)⟩
  case round =>
    obtain ⟨j, rfl, hj, hj9, hX, hZ⟩ := hrel
    by_cases hlt : j < n ∧ j ≤ 10
    · obtain ⟨h1, h2⟩ := hlt
      have d1 : decide ((j : Int) < (n : Int)) = true := decide_eq_true (by omega)
      have d2 : decide ((j : Int) ≤ 10) = true := decide_eq_true (by omega)
      have hL : j < ls.length := by rw [HN.out]; exact h1
      obtain ⟨B, cB, hvj, _, _⟩ := HL.out.at_ j _ (List.getElem?_eq_getElem hL)
      obtain ⟨ad, rfl, hal, hac⟩ := (H.out.below hZ.out) (by have := HL.out.len; omega)
      have hx := hac j _ hvj
      clear hvj
      obtain ⟨m, hm⟩ : ∃ m, ls[j].length = m := ⟨_, rfl⟩
      rw [hm] at hx
      by_cases h30 : m ≤ 30
      · have d3 : decide ((m : Int) > 30) = false := decide_eq_false (by omega)
        have hXn := Lib.hid (show (ls.take (j + 1)).all (fun l => decide (l.length ≤ 30)) = true by
          rw [List.take_succ_eq_append_getElem hL, List.all_append, hX.out]
          simp [hm, h30])
        clear hX hac hm
        go_wp2
        go_roundw
        case rel => exact ⟨j + 1, by go_num, by omega, by omega, hXn, hZ⟩
        case measure => simp [intOf]; omega
      · have d3 : decide ((m : Int) > 30) = true := decide_eq_true (by omega)
        have hE : fewC ls = false := by
          unfold fewC
          have : ls[j] ∈ ls.take 11 := by
            rw [List.mem_take_iff_getElem]
            exact ⟨j, by omega, rfl⟩
          rw [Bool.and_eq_false_iff]
          left
          rw [List.all_eq_false]
          exact ⟨_, this, by simp [hm]; omega⟩
        have HE := Lib.hid hE
        clear hX hac hm hE
        go_wp2
        go_ret
        exact ⟨by rw [HE.out]; rfl, hZ.out⟩
    · have HE := Lib.hid (show fewC ls = decide ((n : Int) ≤ 10) by
        unfold fewC
        by_cases h8 : n ≤ 10
        · have e : j = n := by omega
          have h1 := hX.out
          rw [List.take_of_length_le (by rw [HN.out]; omega)] at h1
          rw [List.take_of_length_le (by rw [HN.out]; omega), h1, HN.out, Bool.true_and]
          exact decide_eq_decide.2 (by omega)
        · have h1 : ¬ ls.length ≤ 10 := by rw [HN.out]; exact h8
          have h2 : ¬ (n : Int) ≤ 10 := by omega
          simp [h1, h2])
      clear hX
      by_cases h1 : j < n
      · have h2 : ¬ j ≤ 10 := fun h => hlt ⟨h1, h⟩
        have d1 : decide ((j : Int) < (n : Int)) = true := decide_eq_true (by omega)
        have d2 : decide ((j : Int) ≤ 10) = false := decide_eq_false (by omega)
        clear hlt
        go_wp2
        go_ret
        exact ⟨by rw [HE.out]; rfl, hZ.out⟩
      · have d1 : decide ((j : Int) < (n : Int)) = false := decide_eq_false (by omega)
        clear hlt
        go_wp2
        go_ret
        exact ⟨by rw [HE.out]; rfl, hZ.out⟩
end Go.Proofs.Ytppllanmgdhabaa
namespace Go.Proofs.Ytppllanmgdhabaa
open Go.RowKit Go.Deep Go.Shelf
set_option maxRecDepth 100000 in
set_option maxHeartbeats 4000000 in
theorem rplay_no1 (J : Int) (A B : Option Addr) (nc cc nw cw : Nat) (w : World) (hm : may 1 1 J 0 = false) :
    Calls Try.prog 15 #[.int .i64 J, .slice A nc cc, .slice B nw cw] w (RetPl w [] [] []) := by
  have HM := Lib.hid hm
  clear hm
  go_enter Try.func15, Try.ntmps15
  go_wp2_with fail
  refine (Tells.of (rmay_any 1 1 J 0 _) (v' := .bool false) (by rw [HM.out])).mono ?_
  rintro _ w1 ⟨rfl, z1⟩
  have Z1 := Lib.hid ((box_below w _).trans (z1.mono (box_below w _).size))
  clear z1
  go_wp2
  refine bodyPost_ret (v := .tuple #[.slice none 0 0, .slice none 0 0, .slice none 0 0]) (by simp [results, Try.results15, go_sem]; try rfl) rfl ?_
  exact ret_none Z1.out
set_option maxRecDepth 100000 in
set_option maxHeartbeats 4000000 in
theorem rplay_no2 (J : Int) (A B : Option Addr) (nc cc nw cw : Nat) (w : World) (hm : may 1 1 J 0 = true) (h8 : 8 < nc) :
    Calls Try.prog 15 #[.int .i64 J, .slice A nc cc, .slice B nw cw] w (RetPl w [] [] []) := by
  have HM := Lib.hid hm
  have t1 : decide ((nc : Int) > 8) = true := decide_eq_true (by omega)
  clear hm h8
  go_enter Try.func15, Try.ntmps15
  go_wp2_with fail
  refine (Tells.of (rmay_any 1 1 J 0 _) (v' := .bool true) (by rw [HM.out])).mono ?_
  rintro _ w1 ⟨rfl, z1⟩
  have Z1 := Lib.hid ((box_below w _).trans (z1.mono (box_below w _).size))
  clear z1
  go_wp2
  refine bodyPost_ret (v := .tuple #[.slice none 0 0, .slice none 0 0, .slice none 0 0]) (by simp [results, Try.results15, go_sem]; try rfl) rfl ?_
  exact ret_none Z1.out
end Go.Proofs.Ytppllanmgdhabaa
