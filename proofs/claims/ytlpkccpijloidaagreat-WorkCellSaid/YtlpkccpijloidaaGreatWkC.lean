/- A worker's methods that draw their order (layer 18): what happens, what is done, what is started, what is next, a call's step. -/
import Derived.Test.YtlpkccpijloidaaGreatWkAB
import Derived.Deep.CutRange
import Derived.Deep.DeepCutAuto
namespace Go.Proofs.YtlpkccpijloidaaGreat
set_option linter.unusedSimpArgs false
set_option maxRecDepth 100000
open Go.RowKit Go.Deep
/-- All blocks but block g stay, and of it the cells that a step leaves. -/
structure Kw (g : Nat) (w w' : World) : Prop where
  kb : Kb g w w'
  cells : ∀ i, 11 ≤ i → i ≤ 18 → i ≠ 16 → w'.cell? ⟨g, i, none⟩ = w.cell? ⟨g, i, none⟩
theorem Kw.refl (g : Nat) (w : World) : Kw g w w := ⟨Kb.refl _ _, fun _ _ _ _ => rfl⟩
theorem Kw.drew {g : Nat} {w w' : World} (h : Kw g w w') : Kw g w w'.drew := ⟨h.kb.drew, h.cells⟩
theorem Kw.call {g : Nat} {w w1 w2 : World} (h : Kw g w w1) (hg : g < w.heap.size) (hb : Below w1.heap.size w1 w2) : Kw g w w2 :=
  ⟨h.kb.call hg hb, fun i h1 h2 h3 => (hb.cell (p := ⟨g, i, none⟩) (Nat.lt_of_lt_of_le hg h.kb.size)).trans (h.cells i h1 h2 h3)⟩
theorem Kw.set {g : Nat} {w w1 : World} (h : Kw g w w1) (k : Nat) (hk : k < 11 ∨ 18 < k ∨ k = 16) (v : Value) : Kw g w (w1.setCell ⟨g, k, none⟩ v) :=
  ⟨h.kb.set k v, fun i h1 h2 h3 => by
    refine Eq.trans ?_ (h.cells i h1 h2 h3)
    simp only [World.cell?, World.setCell]
    rw [Array.getElem?_modify, if_pos rfl]
    cases hw : w1.heap[g]? with
    | none => rfl
    | some o =>
      cases o <;> simp [Option.map]
      all_goals (try (rw [Array.getElem?_setIfInBounds_ne (by omega)]))⟩
theorem Kw.pwk {g : Nat} {w w1 : World} (h : Kw g w w1) (f : Fr) : Kw g w (pwk w1 g f) :=
  ((((((h.set 2 (by decide) _).set 3 (by decide) _).set 4 (by decide) _).set 5 (by decide) _).set 6 (by decide) _).set 7 (by decide) _).set 8 (by decide) _
theorem Kw.new {g b : Nat} {w w1 : World} (h : Kw g w w1) (hg : g < w.heap.size) (hb : w.heap.size ≤ b) (k : Nat) (v : Value) : Kw g w (w1.setCell ⟨b, k, none⟩ v) :=
  ⟨⟨h.kb.low.setCell (show g ≤ b by omega) _, fun i h1 h2 => (Below.heap_setCell w1 ⟨b, k, none⟩ v i (show i ≠ b by omega)).trans (h.kb.others i h1 h2)⟩,
    fun i h1 h2 h3 => (World.cell?_of_block (a := ⟨g, i, none⟩) (Below.heap_setCell w1 ⟨b, k, none⟩ v g (show g ≠ b by omega))).trans (h.cells i h1 h2 h3)⟩
theorem kw_drew {S : World → Prop} {g : Nat} {w x : World} (K : ∀ x, Kw g w x → S x) (G : ∀ x, S x → Kw g w x) (h : S x) : S x.drew := K _ (G _ h).drew
theorem kw_call {S : World → Prop} {g : Nat} {w x x' : World} (K : ∀ x, Kw g w x → S x) (G : ∀ x, S x → Kw g w x) (hg : g < w.heap.size) (hc : Below x.heap.size x x') (h : S x) : S x' := K _ ((G _ h).call hg hc)
theorem kw_set {S : World → Prop} {g : Nat} {w x : World} (K : ∀ x, Kw g w x → S x) (G : ∀ x, S x → Kw g w x) (k : Nat) (hk : k < 11 ∨ 18 < k ∨ k = 16) (v : Value) (h : S x) : S (x.setCell ⟨g, k, none⟩ v) := K _ ((G _ h).set k hk v)
theorem kw_pwk {S : World → Prop} {g : Nat} {w x : World} (K : ∀ x, Kw g w x → S x) (G : ∀ x, S x → Kw g w x) (f : Fr) (h : S x) : S (pwk x g f) := K _ ((G _ h).pwk f)
theorem kw_new2 {S : World → Prop} {g b : Nat} {w x : World} (K : ∀ x, Kw g w x → S x) (G : ∀ x, S x → Kw g w x) (hg : g < w.heap.size) (hb : w.heap.size ≤ b) (u v : Value) (h : S x) : S ((x.setCell ⟨b, 0, none⟩ u).setCell ⟨b, 1, none⟩ v) := K _ (((G _ h).new hg hb 0 u).new hg hb 1 v)
/-- An append whose run is known, as one step of a region that draws. -/
theorem step_append_run {P : Program} {ops : Array Oper} {o : Oper} {a : Act} {w : World} {K : Act → World → Prop} {Q : Exit → Act → World → Prop} {E : Prop} {t u : TypeId} {v xv v' : Value} {w' : World}
    (hrun : (Builtin.append_ #[t, t] u #[v, xv]).run P w = .ok v' w')
    (ho : ∃ s x, o.op = .call { callee := .builtin .append, args := #[s, x], argTypes := #[t, t] } ∧ a.eval s = v ∧ a.eval x = xv) (hu : o.type = u) (hg : o.guard = none)
    (hK : K (a.put o.dst v') w') : if Region.wanted o (yielded ops a.tmps) = true then Oper.wp P o a w K Q else E := by
  obtain ⟨s, x, hop, hs, hx⟩ := ho
  subst hu
  have hw : Region.wanted o (yielded ops a.tmps) = true := by simp [Region.wanted, hg]
  rw [if_pos hw]
  unfold Oper.wp
  simp [execOp, hop, resolve, invoke, builtin, hs, hx, hrun, Result.andThen]
  exact hK
/-- An event more, appended: a box of its own, then the append. -/
theorem ev_app {w : World} {base : Nat} {Q : Option Addr} {n d : Nat} {l : List Evn} (h : Evx.Iow w base Q n d l) (x : Evn) (hz : n + 1 ≤ 100000) (hb : base ≤ w.heap.size) :
    ∃ Q' d' w', (Builtin.append_ #[35, 35] 35 #[.slice Q n d, .slice (some ⟨w.heap.size, 0, none⟩) 1 1]).run Tryz.prog (w.alloc (.cells #[.int .i64 x.1, .int .i64 x.2.1, .int .i64 x.2.2] 44)) = .ok (.slice Q' (n + 1) d') w' ∧ Evx.Iow w' base Q' (n + 1) d' (l ++ [x]) ∧ (w.alloc (.cells #[.int .i64 x.1, .int .i64 x.2.1, .int .i64 x.2.2] 44)).grownBy w' (Value.slice Q n d).ownBlock ∧ (∀ e : Addr, Q' = some e → (∃ e0 : Addr, Q = some e0 ∧ e0.block = e.block) ∨ w.heap.size ≤ e.block) := by
  obtain ⟨i0, hi0, hz'⟩ := Option.map_eq_some_iff.1 Evx.Tryz.info44
  simp only [Prod.mk.injEq] at hz'
  obtain ⟨hz0, hz1, hz2⟩ := hz'
  obtain ⟨v', w', hrun, g2, g3, _, g5⟩ := run_append_own_at (P := Tryz.prog) (w.alloc (.cells #[.int .i64 x.1, .int .i64 x.2.1, .int .i64 x.2.2] 44)) base 35 35 44 i0 (.agg #[.int .i64 0, .int .i64 0, .int .i64 0]) 3 24 Tryz.underlying35 hi0 hz0 hz1 hz2 rfl (by omega) _ n _ (h.alloc (.cells #[.int .i64 x.1, .int .i64 x.2.1, .int .i64 x.2.2] 44)) ⟨w.heap.size, 0, none⟩ 1 1 (Evx.iflat [x]) (by rw [Evx.iflat_len]; rfl)
    ((Evx.isrc_new w x).2 _ rfl) (Evx.iflat_one [x]) (by simp only [maxLen]; omega) (by omega) (by simp; omega)
  have fin : ∃ Q' d', v' = .slice Q' (n + 1) d' := by
    rcases g2.2 with ⟨e1, e2⟩ | ⟨g, cap, cur, e1, _⟩
    · omega
    · exact ⟨_, cap, e1⟩
  obtain ⟨Q', d', rfl⟩ := fin
  refine ⟨Q', d', w', hrun, by unfold Evx.Iow; rw [Evx.iflat_append]; exact g2, g3, fun e he => ?_⟩
  subst he
  rcases g5 with g5 | g5
  · left
    cases Q with
    | none => simp [Value.ownBlock] at g5
    | some e0 => exact ⟨e0, rfl, by simpa [Value.ownBlock] using g5.symm⟩
  · right
    have g5' : e.block = (w.alloc (.cells #[.int .i64 x.1, .int .i64 x.2.1, .int .i64 x.2.2] 44)).heap.size := by simpa [Value.ownBlock] using g5
    rw [g5']; simp
/-- Of block g the cells that a step leaves stay. -/
structure Kv (g : Nat) (w w' : World) : Prop where
  lt : g < w.heap.size
  size : w.heap.size ≤ w'.heap.size
  cells : ∀ i, 11 ≤ i → i ≤ 18 → i ≠ 16 → w'.cell? ⟨g, i, none⟩ = w.cell? ⟨g, i, none⟩
theorem Kv.drew {g : Nat} {w w' : World} (h : Kv g w w') : Kv g w w'.drew := ⟨h.lt, h.size, h.cells⟩
theorem Kv.call {g : Nat} {w w1 w2 : World} (h : Kv g w w1) (hb : Below w1.heap.size w1 w2) : Kv g w w2 :=
  ⟨h.lt, Nat.le_trans h.size hb.size, fun i h1 h2 h3 => (hb.cell (p := ⟨g, i, none⟩) (Nat.lt_of_lt_of_le h.lt h.size)).trans (h.cells i h1 h2 h3)⟩
theorem Kv.set {g : Nat} {w w1 : World} (h : Kv g w w1) (k : Nat) (hk : k < 11 ∨ 18 < k ∨ k = 16) (v : Value) : Kv g w (w1.setCell ⟨g, k, none⟩ v) :=
  ⟨h.lt, by simpa using h.size, fun i h1 h2 h3 => ((Kw.refl g w1).set k hk v).cells i h1 h2 h3 |>.trans (h.cells i h1 h2 h3)⟩
theorem kv_drew {S : World → Prop} {g : Nat} {w x : World} (K : ∀ x, Kv g w x → S x) (G : ∀ x, S x → Kv g w x) (h : S x) : S x.drew := K _ (G _ h).drew
theorem kv_call {S : World → Prop} {g : Nat} {w x x' : World} (K : ∀ x, Kv g w x → S x) (G : ∀ x, S x → Kv g w x) (hc : Below x.heap.size x x') (h : S x) : S x' := K _ ((G _ h).call hc)
theorem kv_set {S : World → Prop} {g : Nat} {w x : World} (K : ∀ x, Kv g w x → S x) (G : ∀ x, S x → Kv g w x) (k : Nat) (hk : k < 11 ∨ 18 < k ∨ k = 16) (v : Value) (h : S x) : S (x.setCell ⟨g, k, none⟩ v) := K _ ((G _ h).set k hk v)
section
variable {k : Wc} {x : WkS} {m : List Int} {l : List Evn} {w w1 : World} {A : Option Addr} {c : Nat} {SA : Option Addr} {cs : Nat} {E : Option Addr} {ce : Nat} {o : Obj}
theorem tell_blk (hgr : (w.alloc o).grownBy w1 (Value.slice E l.length ce).ownBlock) {b : Nat} (hb : b < w.heap.size) (hne : ∀ e : Addr, E = some e → e.block ≠ b) : w1.heap[b]? = w.heap[b]? := by
  refine (hgr.block b (by simp; omega) ?_).trans (Below.heap_alloc w o b hb)
  cases E with
  | none => simp [Value.ownBlock]
  | some e => simpa [Value.ownBlock] using (hne e rfl).symm
theorem Wsx.own_gt (h : Wsx k x m l w A c SA cs E ce) : ∀ e : Addr, E = some e → e.block ≠ k.g := fun e he => by
  subst he
  have := (World.ownsRow.lt h.re e.block rfl).1
  omega
theorem tell_bx (h : Wsx k x m l w A c SA cs E ce) (hgr : (w.alloc o).grownBy w1 (Value.slice E l.length ce).ownBlock) : Wkb w1 k.g x (.slice SA x.stk.length cs) k.W k.D k.J k.S (.slice k.AT k.T.length k.ct) (.slice A m.length c) k.me k.d (.slice E l.length ce) :=
  (tell_blk hgr h.bx.lt h.own_gt).trans h.bx
theorem tell_kv (h : Wsx k x m l w A c SA cs E ce) (hgr : (w.alloc o).grownBy w1 (Value.slice E l.length ce).ownBlock) : Kv k.g w w1 :=
  ⟨h.bx.lt, Nat.le_trans (by simp) hgr.size, fun i _ _ _ => World.cell?_of_block (a := ⟨k.g, i, none⟩) (tell_blk hgr h.bx.lt h.own_gt)⟩
theorem tell_low (h : Wsx k x m l w A c SA cs E ce) (hgr : (w.alloc o).grownBy w1 (Value.slice E l.length ce).ownBlock) : Below (k.g + 1) w w1 :=
  ((Below.refl (k.g + 1) w).alloc h.bx.lt o).grown hgr (by simp; have := h.bx.lt; omega) (fun j hj => (World.ownsRow.lt h.re j hj).1)
theorem tell_kd (h : Wsx k x m l w A c SA cs E ce) (hgr : (w.alloc o).grownBy w1 (Value.slice E l.length ce).ownBlock) (v : Value) : Kd k.g w (w1.setCell ⟨k.g, 19, none⟩ v) := by
  refine ⟨((tell_low h hgr).mono (Nat.le_succ _)).setCell (Nat.le_refl _) _, fun b h1 h2 h3 => ?_⟩
  refine (Below.heap_setCell w1 ⟨k.g, 19, none⟩ v b h2).trans (tell_blk hgr h1 ?_)
  rintro e rfl rfl
  rcases h.re.2 with ⟨q, _⟩ | ⟨g, cap, cur, q, _, q2, _⟩
  · cases q
  · injection q with q _ _
    injection q with q
    subst q
    exact h3 _ _ q2
theorem tell_st (h : Wsx k x m l w A c SA cs E ce) (hgr : (w.alloc o).grownBy w1 (Value.slice E l.length ce).ownBlock) {E1 : Option Addr} {ce1 : Nat} {l1 : List Evn} {n1 : Nat} (hn : n1 = l1.length)
    (hob : ∀ e : Addr, E1 = some e → (∃ e0 : Addr, E = some e0 ∧ e0.block = e.block) ∨ w.heap.size ≤ e.block) (how : Evx.Iow w1 (k.g + 1) E1 n1 ce1 l1) : Wst k x m l1 (w1.setCell ⟨k.g, 19, none⟩ (.slice E1 n1 ce1)) := by
  subst hn
  have hk := (Kb.refl k.g w1).set 19 (.slice E1 l1.length ce1)
  have hrm : Rx 0 k.g w1 A m := fun hp => by
    obtain ⟨ad, e, h1, h2, h3, h4⟩ := h.rm hp
    have hb := tell_blk hgr h3 (fun e' he' => fun q => h.nm hp e' ad he' e q.symm)
    exact ⟨ad, e, h1, h2, Nat.lt_of_lt_of_le h3 (Nat.le_trans (by simp) hgr.size), fun j u hu => (World.cell?_of_block (by rw [block_add]; exact hb)).trans (h4 j u hu)⟩
  have hrs : Iyy k.n₁ k.g w1 SA x.stk := fun hp => by
    obtain ⟨b, off, e, h2, h3, h4⟩ := h.rs hp
    have hb := tell_blk hgr h3 (fun e' he' => fun q => h.ns hp e' ⟨b, off, none⟩ he' e q.symm)
    refine ⟨b, off, e, h2, Nat.lt_of_lt_of_le h3 (Nat.le_trans (by simp) hgr.size), fun i y hy => ?_⟩
    obtain ⟨q1, q2, q3⟩ := h4 i y hy
    exact ⟨(World.cell?_of_block (a := ⟨b, off + i * 3, none⟩) hb).trans q1, (World.cell?_of_block (a := ⟨b, off + i * 3 + 1, none⟩) hb).trans q2, (World.cell?_of_block (a := ⟨b, off + i * 3 + 2, none⟩) hb).trans q3⟩
  refine Wsx.st (A := A) (c := c) (SA := SA) (cs := cs) (E := E1) (ce := ce1) ⟨(tell_bx h hgr).setE _, hrm.kb hk, hrs.kb hk, Evx_kb how (Nat.lt_succ_self _) hk, h.tk.below ((((tell_low h hgr).mono (Nat.le_succ _)).setCell (Nat.le_refl _) _).mono h.hn), h.hn, h.hn1, ?_, ?_⟩
  · intro hp e a he ha q
    obtain ⟨ad, e2, _, _, h3, _⟩ := h.rm hp
    rw [ha] at e2
    injection e2 with e2
    subst e2
    rcases hob e he with ⟨e0, h5, h6⟩ | h5
    · exact h.nm hp e0 a h5 ha (by rw [h6]; exact q)
    · omega
  · intro hp e a he ha q
    obtain ⟨b, off, e2, _, h3, _⟩ := h.rs hp
    rw [ha] at e2
    injection e2 with e2
    subst e2
    rcases hob e he with ⟨e0, h5, h6⟩ | h5
    · exact h.ns hp e0 _ h5 ha (by rw [h6]; exact q)
    · simp only at q; omega
end
section
variable (k : Wc) {x : WkS} {m : List Int} {l : List Evn} {w : World}
set_option maxHeartbeats 4000000 in
theorem wdo_any {s : List Fo.Itm} (hq : Fo.doS k.T x.stk = s) (hsm : Fo.Sm k.T) (hl : x.stk.length ≤ 1000) (h : Wst k x m l w) : Calls Tryz.prog 69 #[.pointer (some ⟨k.g, 0, none⟩)] w (Wrt k { x with stk := s } m l w) := by
  obtain ⟨A, c, SA, cs, E, ce, h⟩ := h
  have H := Lib.hid h
  have HSM := Lib.hid hsm
  have HQ := Lib.hid hq
  have HL := Lib.hid hl
  clear hsm hq hl
  have hg := h.bx.lt
  obtain ⟨a0, a1, a2, a3, a4, a5, a6, a7, a8, a9, a10, a11, a12, a13, a14, a15, a16, a17, a18, a19⟩ := h.bx.cells
  have fz := h.bx.free
  clear h
  obtain ⟨n₀, n₁, g, W, D, J, S, me, d, AT, T, ct⟩ := k
  obtain ⟨pc, stk, ⟨o, p, q, v, fx, y, r⟩, sp, lk⟩ := x
  simp only at a0 a1 a2 a3 a4 a5 a6 a7 a8 a9 a10 a11 a12 a13 a14 a15 a16 a17 a18 a19 fz hg ⊢
  have ZC := Lib.hid (Below.refl w.heap.size w).drew
  have HK := Lib.hid (show ∀ x', Kw g w x' → (fun w' => w'.cell? ⟨g, 11, none⟩ = some (.int .i64 W) ∧ w'.cell? ⟨g, 12, none⟩ = some (.int .i64 D) ∧ w'.cell? ⟨g, 13, none⟩ = some (.int .i64 J) ∧ w'.cell? ⟨g, 14, none⟩ = some (.int .i64 S) ∧ w'.cell? ⟨g, 15, none⟩ = some (.slice AT T.length ct) ∧ w'.cell? ⟨g, 17, none⟩ = some (.int .i64 me) ∧ w'.cell? ⟨g, 18, none⟩ = some (.int .u64 d) ∧ Kw g w w') x' from fun x' hx =>
    ⟨(hx.cells 11 (by decide) (by decide) (by decide)).trans a11, (hx.cells 12 (by decide) (by decide) (by decide)).trans a12, (hx.cells 13 (by decide) (by decide) (by decide)).trans a13, (hx.cells 14 (by decide) (by decide) (by decide)).trans a14, (hx.cells 15 (by decide) (by decide) (by decide)).trans a15, (hx.cells 17 (by decide) (by decide) (by decide)).trans a17, (hx.cells 18 (by decide) (by decide) (by decide)).trans a18, hx⟩)
  have hHeld0 := HK.out _ (Kw.refl g w)
  go_enter Tryz.func69, Tryz.ntmps69
  go_upto_region 0 with fail
  refine wp_region_held_drew (S := fun w' => w'.cell? ⟨g, 11, none⟩ = some (.int .i64 W) ∧ w'.cell? ⟨g, 12, none⟩ = some (.int .i64 D) ∧ w'.cell? ⟨g, 13, none⟩ = some (.int .i64 J) ∧ w'.cell? ⟨g, 14, none⟩ = some (.int .i64 S) ∧ w'.cell? ⟨g, 15, none⟩ = some (.slice AT T.length ct) ∧ w'.cell? ⟨g, 17, none⟩ = some (.int .i64 me) ∧ w'.cell? ⟨g, 18, none⟩ = some (.int .u64 d) ∧ Kw g w w') (by kernel_rfl) (kw_drew HK.out (fun _ h => h.2.2.2.2.2.2.2) hHeld0) (fun hHeld => ?_)
  refine tkH 0 (v := ?vd1) rfl ?yd1 ?rd1
  case yd1 => (intro w hSw; (try dsimp only at hSw); go_simp; (try with_reducible rfl))
  (try simp only [Act.put, jA, jB, jC])
  refine tkH 1 (v := ?vd2) rfl ?yd2 ?rd2
  case yd2 => (intro w hSw; (try dsimp only at hSw); go_simp; (try with_reducible rfl))
  (try simp only [Act.put, jA, jB, jC])
  refine tkH 2 (v := ?vd3) rfl ?yd3 ?rd3
  case yd3 => (intro w hSw; (try dsimp only at hSw); go_simp; (try with_reducible rfl))
  (try simp only [Act.put, jA, jB, jC])
  refine tkH 3 (v := ?vd4) rfl ?yd4 ?rd4
  case yd4 => (intro w hSw; (try dsimp only at hSw); go_simp; (try with_reducible rfl))
  (try simp only [Act.put, jA, jB, jC])
  refine tkH 4 (v := ?vd5) rfl ?yd5 ?rd5
  case yd5 => (intro w hSw; (try dsimp only at hSw); go_simp; (try with_reducible rfl))
  (try simp only [Act.put, jA, jB, jC])
  refine tkH 5 (v := ?vd6) rfl ?yd6 ?rd6
  case yd6 => (intro w hSw; (try dsimp only at hSw); go_simp; (try with_reducible rfl))
  (try simp only [Act.put, jA, jB, jC])
  refine tkH 6 (v := ?vd7) rfl ?yd7 ?rd7
  case yd7 => (intro w hSw; (try dsimp only at hSw); go_simp; (try with_reducible rfl))
  (try simp only [Act.put, jA, jB, jC])
  refine tkH 7 (v := ?vd8) rfl ?yd8 ?rd8
  case yd8 => (intro w hSw; (try dsimp only at hSw); go_simp; (try with_reducible rfl))
  (try simp only [Act.put, jA, jB, jC])
  refine tkH 8 (v := ?vd9) rfl ?yd9 ?rd9
  case yd9 => (intro w hSw; (try dsimp only at hSw); go_simp; (try with_reducible rfl))
  (try simp only [Act.put, jA, jB, jC])
  refine wpAnyH_ready (rs := [9]) (by kernel_rfl) (by simp) ?_
  refine (AllReadyH.cons rfl (fun K hK => ?_) AllReadyH.nil)
  go_simp
  refine hK.out _ _ (hHeld) (fun hHeld2 => ?_)
  clear hK K hHeld
  have hHeld := hHeld2
  clear hHeld2
  (try simp only [Act.put, jA, jB, jC])
  refine wpAnyH_ready (rs := [10]) (by kernel_rfl) (by simp) ?_
  refine (AllReadyH.cons rfl (fun K hK => ?_) AllReadyH.nil)
  go_simp
  refine (Calls.mono (Fo.tdo_any AT SA ct cs _ T stk _ (H.out.after ZC.out).tk2 (H.out.after ZC.out).rs.ir (Nat.le_refl _) HSM.out HL.out) (fun _ _ h => (show Fo.RetS _ s _ _ from HQ.out ▸ h))).mono ?_
  rintro e w1 ⟨A1, c1, rfl, ho, hb⟩
  go_wp2_with fail
  have HO := Lib.hid (Iow_iyy (lo := n₁) (g := g) ho (Nat.le_trans H.out.hn1 (Nat.le_of_lt (Nat.lt_of_lt_of_le hg ZC.out.size))) (.inl (Nat.lt_of_lt_of_le hg ZC.out.size)))
  have HA1 := Lib.hid (show Apart E A1 s.length from apart_new (H.out.after ZC.out).re (Nat.le_refl _) (fun _ a ha => (World.ownsRow.lt ho a.block (by rw [ha]; rfl)).1))
  replace ZC := Lib.hid (keep_call (w2 := w) hb ZC.out)
  have e := (H.out.after ZC.out).bx; obtain ⟨b0, b1, b2, b3, b4, b5, b6, b7, b8, b9, b10, b11, b12, b13, b14, b15, b16, b17, b18, b19⟩ := e.cells; have fz := e.free; simp only at b0 b1 b2 b3 b4 b5 b6 b7 b8 b9 b10 b11 b12 b13 b14 b15 b16 b17 b18 b19; clear e
  clear ho
  refine hK.out _ _ (kw_call HK.out (fun _ h => h.2.2.2.2.2.2.2) hg hb hHeld) (fun hHeld2 => ?_)
  clear hK K hHeld
  have hHeld := hHeld2
  clear hHeld2
  (try simp only [Act.put, jA, jB, jC])
  refine tkH 11 (v := ?vd10) rfl ?yd10 ?rd10
  case yd10 => (intro w hSw; (try dsimp only at hSw); go_simp; (try with_reducible rfl))
  (try simp only [Act.put, jA, jB, jC])
  refine tkH 12 (v := ?vd11) rfl ?yd11 ?rd11
  case yd11 => (intro w hSw; (try dsimp only at hSw); go_simp; (try with_reducible rfl))
  (try simp only [Act.put, jA, jB, jC])
  refine tkH 13 (v := ?vd12) rfl ?yd12 ?rd12
  case yd12 => (intro w hSw; (try dsimp only at hSw); go_simp; (try with_reducible rfl))
  (try simp only [Act.put, jA, jB, jC])
  refine wpAnyH_ready (rs := [14]) (by kernel_rfl) (by simp) ?_
  refine (AllReadyH.cons rfl (fun K hK => ?_) AllReadyH.nil)
  go_simp
  refine hK.out _ _ (kw_set HK.out (fun _ h => h.2.2.2.2.2.2.2) 1 (by decide) _ hHeld) (fun hHeld2 => ?_)
  clear hK K hHeld
  have hHeld := hHeld2
  clear hHeld2
  (try simp only [Act.put, jA, jB, jC])
  refine wpAnyH_done (by kernel_rfl) ?_ _
  clear hHeld
  go_wp2
  go_end0
  exact ⟨rfl, ((H.out.after ZC.out).setS HO.out HA1.out).st, (((Kb.refl _ _).call hg ZC.out).set _ _).kd⟩
set_option maxHeartbeats 4000000 in
theorem wnext_any {i j : Int} (hq : Fo.nextS k.T x.stk = (i, j)) (hsm : Fo.Sm k.T) (hl : x.stk.length ≤ 1000) (h : Wst k x m l w) : Tells 68 #[.pointer (some ⟨k.g, 0, none⟩)] w (.agg #[.int .i64 i, .int .i64 j]) := by
  obtain ⟨A, c, SA, cs, E, ce, h⟩ := h
  have H := Lib.hid h
  have HSM := Lib.hid hsm
  have HQ := Lib.hid hq
  have HL := Lib.hid hl
  clear hsm hq hl
  have hg := h.bx.lt
  obtain ⟨a0, a1, a2, a3, a4, a5, a6, a7, a8, a9, a10, a11, a12, a13, a14, a15, a16, a17, a18, a19⟩ := h.bx.cells
  have fz := h.bx.free
  clear h
  obtain ⟨n₀, n₁, g, W, D, J, S, me, d, AT, T, ct⟩ := k
  obtain ⟨pc, stk, ⟨o, p, q, v, fx, y, r⟩, sp, lk⟩ := x
  simp only at a0 a1 a2 a3 a4 a5 a6 a7 a8 a9 a10 a11 a12 a13 a14 a15 a16 a17 a18 a19 fz hg ⊢
  have ZC := Lib.hid (((Below.refl w.heap.size w).alloc (Nat.le_refl _) (.cells #[.int .i64 0, .int .i64 0] 88)).drew)
  have HK := Lib.hid (show ∀ x', Kw g w x' → (fun w' => w'.cell? ⟨g, 11, none⟩ = some (.int .i64 W) ∧ w'.cell? ⟨g, 12, none⟩ = some (.int .i64 D) ∧ w'.cell? ⟨g, 13, none⟩ = some (.int .i64 J) ∧ w'.cell? ⟨g, 14, none⟩ = some (.int .i64 S) ∧ w'.cell? ⟨g, 15, none⟩ = some (.slice AT T.length ct) ∧ w'.cell? ⟨g, 17, none⟩ = some (.int .i64 me) ∧ w'.cell? ⟨g, 18, none⟩ = some (.int .u64 d) ∧ Kw g w w') x' from fun x' hx =>
    ⟨(hx.cells 11 (by decide) (by decide) (by decide)).trans a11, (hx.cells 12 (by decide) (by decide) (by decide)).trans a12, (hx.cells 13 (by decide) (by decide) (by decide)).trans a13, (hx.cells 14 (by decide) (by decide) (by decide)).trans a14, (hx.cells 15 (by decide) (by decide) (by decide)).trans a15, (hx.cells 17 (by decide) (by decide) (by decide)).trans a17, (hx.cells 18 (by decide) (by decide) (by decide)).trans a18, hx⟩)
  have hHeld0 := HK.out _ ((Kw.refl g w).call hg (bel_alloc w (.cells #[.int .i64 0, .int .i64 0] 88)))
  have HZ := Lib.hid (Fo.Ab.new w 0 0)
  obtain ⟨b0, b1, b2, b3, b4, b5, b6, b7, b8, b9, b10, b11, b12, b13, b14, b15, b16, b17, b18, b19⟩ := (H.out.after (bel_alloc w (.cells #[.int .i64 0, .int .i64 0] 88))).bx.cells
  simp only at b0 b1 b2 b3 b4 b5 b6 b7 b8 b9 b10 b11 b12 b13 b14 b15 b16 b17 b18 b19
  go_enter Tryz.func68, Tryz.ntmps68
  go_upto_region 1 with fail
  refine wp_region_held_drew (S := fun w' => w'.cell? ⟨g, 11, none⟩ = some (.int .i64 W) ∧ w'.cell? ⟨g, 12, none⟩ = some (.int .i64 D) ∧ w'.cell? ⟨g, 13, none⟩ = some (.int .i64 J) ∧ w'.cell? ⟨g, 14, none⟩ = some (.int .i64 S) ∧ w'.cell? ⟨g, 15, none⟩ = some (.slice AT T.length ct) ∧ w'.cell? ⟨g, 17, none⟩ = some (.int .i64 me) ∧ w'.cell? ⟨g, 18, none⟩ = some (.int .u64 d) ∧ Kw g w w') (by kernel_rfl) (kw_drew HK.out (fun _ h => h.2.2.2.2.2.2.2) hHeld0) (fun hHeld => ?_)
  refine tkH 0 (v := ?vn1) rfl ?yn1 ?rn1
  case yn1 => (intro w hSw; (try dsimp only at hSw); go_simp; (try with_reducible rfl))
  (try simp only [Act.put, jA, jB, jC])
  refine tkH 1 (v := ?vn2) rfl ?yn2 ?rn2
  case yn2 => (intro w hSw; (try dsimp only at hSw); go_simp; (try with_reducible rfl))
  (try simp only [Act.put, jA, jB, jC])
  refine tkH 2 (v := ?vn3) rfl ?yn3 ?rn3
  case yn3 => (intro w hSw; (try dsimp only at hSw); go_simp; (try with_reducible rfl))
  (try simp only [Act.put, jA, jB, jC])
  refine tkH 3 (v := ?vn4) rfl ?yn4 ?rn4
  case yn4 => (intro w hSw; (try dsimp only at hSw); go_simp; (try with_reducible rfl))
  (try simp only [Act.put, jA, jB, jC])
  refine tkH 4 (v := ?vn5) rfl ?yn5 ?rn5
  case yn5 => (intro w hSw; (try dsimp only at hSw); go_simp; (try with_reducible rfl))
  (try simp only [Act.put, jA, jB, jC])
  refine tkH 5 (v := ?vn6) rfl ?yn6 ?rn6
  case yn6 => (intro w hSw; (try dsimp only at hSw); go_simp; (try with_reducible rfl))
  (try simp only [Act.put, jA, jB, jC])
  refine tkH 6 (v := ?vn7) rfl ?yn7 ?rn7
  case yn7 => (intro w hSw; (try dsimp only at hSw); go_simp; (try with_reducible rfl))
  (try simp only [Act.put, jA, jB, jC])
  refine tkH 7 (v := ?vn8) rfl ?yn8 ?rn8
  case yn8 => (intro w hSw; (try dsimp only at hSw); go_simp; (try with_reducible rfl))
  (try simp only [Act.put, jA, jB, jC])
  refine wpAnyH_ready (rs := [8]) (by kernel_rfl) (by simp) ?_
  refine (AllReadyH.cons rfl (fun K hK => ?_) AllReadyH.nil)
  go_simp
  refine hK.out _ _ (hHeld) (fun hHeld2 => ?_)
  clear hK K hHeld
  have hHeld := hHeld2
  clear hHeld2
  (try simp only [Act.put, jA, jB, jC])
  refine wpAnyH_ready (rs := [9]) (by kernel_rfl) (by simp) ?_
  refine (AllReadyH.cons rfl (fun K hK => ?_) AllReadyH.nil)
  go_simp
  refine (Fo.knext (H.out.after ZC.out).tk2 (H.out.after ZC.out).rs.ir HSM.out rfl rfl HL.out HQ.out).mono ?_
  rintro e w1 ⟨rfl, hb⟩
  go_wp2_with fail
  have hbx := Fo.Ab.below (show Fo.Ab (w.alloc (.cells #[.int .i64 0, .int .i64 0] 88)).drew w.heap.size 0 0 from HZ.out) hb (by simp)
  obtain ⟨q0, q1, q2, q3⟩ := hbx.cells
  replace ZC := Lib.hid (keep_call (w2 := w) hb ZC.out)
  have HBX := Lib.hid hbx
  clear hbx
  refine hK.out _ _ (kw_call HK.out (fun _ h => h.2.2.2.2.2.2.2) hg hb hHeld) (fun hHeld2 => ?_)
  clear hK K hHeld
  have hHeld := hHeld2
  clear hHeld2
  (try simp only [Act.put, jA, jB, jC])
  refine wpAnyH_ready (rs := [10]) (by kernel_rfl) (by simp) ?_
  refine (AllReadyH.cons rfl (fun K hK => ?_) AllReadyH.nil)
  go_simp
  refine hK.out _ _ (kw_new2 HK.out (fun _ h => h.2.2.2.2.2.2.2) hg (Nat.le_refl _) _ _ hHeld) (fun hHeld2 => ?_)
  clear hK K hHeld
  have hHeld := hHeld2
  clear hHeld2
  (try simp only [Act.put, jA, jB, jC])
  refine wpAnyH_done (by kernel_rfl) ?_ _
  clear hHeld
  go_wp2
  refine bodyPost_ret (Fo.results_act Tryz.results68 _ rfl (HBX.out.set i j)) rfl ?_
  exact ⟨rfl, (ZC.out.setCell (Nat.le_refl _) _).setCell (Nat.le_refl _) _⟩
set_option maxHeartbeats 4000000 in
theorem wtell_any (kd tk : Int) {l' : List Evn} (hl' : l ++ [(kd, tk, k.me)] = l') (hl : l.length ≤ 10) (h : Wst k x m l w) : Calls Tryz.prog 70 #[.pointer (some ⟨k.g, 0, none⟩), .int .i64 kd, .int .i64 tk] w (Wrt k x m l' w) := by
  subst hl'
  obtain ⟨A, c, SA, cs, E, ce, h⟩ := h
  have H := Lib.hid h
  have HL := Lib.hid hl
  clear hl
  have hg := h.bx.lt
  obtain ⟨a0, a1, a2, a3, a4, a5, a6, a7, a8, a9, a10, a11, a12, a13, a14, a15, a16, a17, a18, a19⟩ := h.bx.cells
  have fz := h.bx.free
  clear h
  obtain ⟨n₀, n₁, g, W, D, J, S, me, d, AT, T, ct⟩ := k
  obtain ⟨pc, stk, ⟨o, p, q, v, fx, y, r⟩, sp, lk⟩ := x
  simp only at a0 a1 a2 a3 a4 a5 a6 a7 a8 a9 a10 a11 a12 a13 a14 a15 a16 a17 a18 a19 fz hg ⊢
  have ZC := Lib.hid (Below.refl w.heap.size w).drew
  have HK := Lib.hid (show ∀ x', Kv g w x' → (fun w' => w'.cell? ⟨g, 11, none⟩ = some (.int .i64 W) ∧ w'.cell? ⟨g, 12, none⟩ = some (.int .i64 D) ∧ w'.cell? ⟨g, 13, none⟩ = some (.int .i64 J) ∧ w'.cell? ⟨g, 14, none⟩ = some (.int .i64 S) ∧ w'.cell? ⟨g, 15, none⟩ = some (.slice AT T.length ct) ∧ w'.cell? ⟨g, 17, none⟩ = some (.int .i64 me) ∧ w'.cell? ⟨g, 18, none⟩ = some (.int .u64 d) ∧ Kv g w w') x' from fun x' hx =>
    ⟨(hx.cells 11 (by decide) (by decide) (by decide)).trans a11, (hx.cells 12 (by decide) (by decide) (by decide)).trans a12, (hx.cells 13 (by decide) (by decide) (by decide)).trans a13, (hx.cells 14 (by decide) (by decide) (by decide)).trans a14, (hx.cells 15 (by decide) (by decide) (by decide)).trans a15, (hx.cells 17 (by decide) (by decide) (by decide)).trans a17, (hx.cells 18 (by decide) (by decide) (by decide)).trans a18, hx⟩)
  have hHeld0 := HK.out _ ⟨hg, Nat.le_refl _, fun _ _ _ _ => rfl⟩
  obtain ⟨E1, ce1, w1, hrun, hown, hgr, hob⟩ := ev_app H.out.drew.re (kd, tk, me) (by have := HL.out; omega) (show g + 1 ≤ w.drew.heap.size from hg)
  have HRUN := Lib.hid hrun
  have HOW := Lib.hid hown
  have HGR := Lib.hid hgr
  have HOB := Lib.hid hob
  clear hrun hown hgr hob
  go_enter Tryz.func70, Tryz.ntmps70
  go_upto_region 0 with fail
  refine wp_region_held_drew (S := fun w' => w'.cell? ⟨g, 11, none⟩ = some (.int .i64 W) ∧ w'.cell? ⟨g, 12, none⟩ = some (.int .i64 D) ∧ w'.cell? ⟨g, 13, none⟩ = some (.int .i64 J) ∧ w'.cell? ⟨g, 14, none⟩ = some (.int .i64 S) ∧ w'.cell? ⟨g, 15, none⟩ = some (.slice AT T.length ct) ∧ w'.cell? ⟨g, 17, none⟩ = some (.int .i64 me) ∧ w'.cell? ⟨g, 18, none⟩ = some (.int .u64 d) ∧ Kv g w w') (by kernel_rfl) (kv_drew HK.out (fun _ h => h.2.2.2.2.2.2.2) hHeld0) (fun hHeld => ?_)
  refine tkH 0 (v := ?ve1) rfl ?ye1 ?re1
  case ye1 => (intro w hSw; (try dsimp only at hSw); go_simp; (try with_reducible rfl))
  (try simp only [Act.put, jA, jB, jC])
  refine tkH 1 (v := ?ve2) rfl ?ye2 ?re2
  case ye2 => (intro w hSw; (try dsimp only at hSw); go_simp; (try with_reducible rfl))
  (try simp only [Act.put, jA, jB, jC])
  refine tkH 2 (v := ?ve3) rfl ?ye3 ?re3
  case ye3 => (intro w hSw; (try dsimp only at hSw); go_simp; (try with_reducible rfl))
  (try simp only [Act.put, jA, jB, jC])
  refine tkH 3 (v := ?ve4) rfl ?ye4 ?re4
  case ye4 => (intro w hSw; (try dsimp only at hSw); go_simp; (try with_reducible rfl))
  (try simp only [Act.put, jA, jB, jC])
  refine tkH 5 (v := ?ve5) rfl ?ye5 ?re5
  case ye5 => (intro w hSw; (try dsimp only at hSw); go_simp; (try with_reducible rfl))
  (try simp only [Act.put, jA, jB, jC])
  refine tkH 6 (v := ?ve6) rfl ?ye6 ?re6
  case ye6 => (intro w hSw; (try dsimp only at hSw); go_simp; (try with_reducible rfl))
  (try simp only [Act.put, jA, jB, jC])
  refine tkH 7 (v := ?ve7) rfl ?ye7 ?re7
  case ye7 => (intro w hSw; (try dsimp only at hSw); go_simp; (try with_reducible rfl))
  (try simp only [Act.put, jA, jB, jC])
  refine tkH 8 (v := ?ve8) rfl ?ye8 ?re8
  case ye8 => (intro w hSw; (try dsimp only at hSw); go_simp; (try with_reducible rfl))
  (try simp only [Act.put, jA, jB, jC])
  refine tkH 9 (v := ?ve9) rfl ?ye9 ?re9
  case ye9 => (intro w hSw; (try dsimp only at hSw); go_simp; (try with_reducible rfl))
  (try simp only [Act.put, jA, jB, jC])
  refine tkH 10 (v := ?ve10) rfl ?ye10 ?re10
  case ye10 => (intro w hSw; (try dsimp only at hSw); go_simp; (try with_reducible rfl))
  (try simp only [Act.put, jA, jB, jC])
  refine tkH 11 (v := ?ve11) rfl ?ye11 ?re11
  case ye11 => (intro w hSw; (try dsimp only at hSw); go_simp; (try with_reducible rfl))
  (try simp only [Act.put, jA, jB, jC])
  refine wpAnyH_ready (rs := [4, 12]) (by kernel_rfl) (by simp) ?_
  refine (AllReadyH.cons rfl (fun K hK => ?_) (AllReadyH.cons rfl (fun K hK => ?_) AllReadyH.nil))
  · go_simp
    refine hK.out _ _ (hHeld) (fun hHeld2 => ?_)
    clear hK K hHeld
    have hHeld := hHeld2
    clear hHeld2
    (try simp only [Act.put, jA, jB, jC])
    refine wpAnyH_ready (rs := [12]) (by kernel_rfl) (by simp) ?_
    refine (AllReadyH.cons rfl (fun K hK => ?_) AllReadyH.nil)
    go_simp
    refine hK.out _ _ (kv_call HK.out (fun _ h => h.2.2.2.2.2.2.2) (bel_alloc _ _) hHeld) (fun hHeld2 => ?_)
    clear hK K hHeld
    have hHeld := hHeld2
    clear hHeld2
    (try simp only [Act.put, jA, jB, jC])
    refine wpAnyH_ready (rs := [13]) (by kernel_rfl) (by simp) ?_
    refine (AllReadyH.cons rfl (fun K hK => ?_) AllReadyH.nil)
    refine step_append_run HRUN.out ⟨_, _, rfl, rfl, rfl⟩ rfl rfl ?_
    have W1 := Lib.hid (tell_bx H.out.drew HGR.out)
    obtain ⟨b0, b1, b2, b3, b4, b5, b6, b7, b8, b9, b10, b11, b12, b13, b14, b15, b16, b17, b18, b19⟩ := W1.out.cells
    have fz := W1.out.free
    simp only at b0 b1 b2 b3 b4 b5 b6 b7 b8 b9 b10 b11 b12 b13 b14 b15 b16 b17 b18 b19
    refine hK.out _ _ (HK.out _ (have q := tell_kv H.out.drew HGR.out; ⟨q.lt, q.size, q.cells⟩)) (fun hHeld2 => ?_)
    clear hK K hHeld
    have hHeld := hHeld2
    clear hHeld2
    (try simp only [Act.put, jA, jB, jC])
    refine tkH 14 (v := ?ve12) rfl ?ye12 ?re12
    case ye12 => (intro w hSw; (try dsimp only at hSw); go_simp; (try with_reducible rfl))
    (try simp only [Act.put, jA, jB, jC])
    refine tkH 15 (v := ?ve13) rfl ?ye13 ?re13
    case ye13 => (intro w hSw; (try dsimp only at hSw); go_simp; (try with_reducible rfl))
    (try simp only [Act.put, jA, jB, jC])
    refine wpAnyH_ready (rs := [16]) (by kernel_rfl) (by simp) ?_
    refine (AllReadyH.cons rfl (fun K hK => ?_) AllReadyH.nil)
    go_simp
    refine hK.out _ _ (kv_set HK.out (fun _ h => h.2.2.2.2.2.2.2) 19 (by decide) _ hHeld) (fun hHeld2 => ?_)
    clear hK K hHeld
    have hHeld := hHeld2
    clear hHeld2
    (try simp only [Act.put, jA, jB, jC])
    refine wpAnyH_done (by kernel_rfl) ?_ _
    clear hHeld
    go_wp2
    go_end0
    exact ⟨rfl, tell_st H.out.drew HGR.out (by simp) HOB.out HOW.out, (Kb.refl _ _).drew.kd.trans (tell_kd H.out.drew HGR.out _)⟩
  · go_simp
    refine hK.out _ _ (kv_call HK.out (fun _ h => h.2.2.2.2.2.2.2) (bel_alloc _ _) hHeld) (fun hHeld2 => ?_)
    clear hK K hHeld
    have hHeld := hHeld2
    clear hHeld2
    (try simp only [Act.put, jA, jB, jC])
    refine wpAnyH_ready (rs := [4]) (by kernel_rfl) (by simp) ?_
    refine (AllReadyH.cons rfl (fun K hK => ?_) AllReadyH.nil)
    go_simp
    refine hK.out _ _ (hHeld) (fun hHeld2 => ?_)
    clear hK K hHeld
    have hHeld := hHeld2
    clear hHeld2
    (try simp only [Act.put, jA, jB, jC])
    refine wpAnyH_ready (rs := [13]) (by kernel_rfl) (by simp) ?_
    refine (AllReadyH.cons rfl (fun K hK => ?_) AllReadyH.nil)
    refine step_append_run HRUN.out ⟨_, _, rfl, rfl, rfl⟩ rfl rfl ?_
    have W1 := Lib.hid (tell_bx H.out.drew HGR.out)
    obtain ⟨b0, b1, b2, b3, b4, b5, b6, b7, b8, b9, b10, b11, b12, b13, b14, b15, b16, b17, b18, b19⟩ := W1.out.cells
    have fz := W1.out.free
    simp only at b0 b1 b2 b3 b4 b5 b6 b7 b8 b9 b10 b11 b12 b13 b14 b15 b16 b17 b18 b19
    refine hK.out _ _ (HK.out _ (have q := tell_kv H.out.drew HGR.out; ⟨q.lt, q.size, q.cells⟩)) (fun hHeld2 => ?_)
    clear hK K hHeld
    have hHeld := hHeld2
    clear hHeld2
    (try simp only [Act.put, jA, jB, jC])
    refine tkH 14 (v := ?ve14) rfl ?ye14 ?re14
    case ye14 => (intro w hSw; (try dsimp only at hSw); go_simp; (try with_reducible rfl))
    (try simp only [Act.put, jA, jB, jC])
    refine tkH 15 (v := ?ve15) rfl ?ye15 ?re15
    case ye15 => (intro w hSw; (try dsimp only at hSw); go_simp; (try with_reducible rfl))
    (try simp only [Act.put, jA, jB, jC])
    refine wpAnyH_ready (rs := [16]) (by kernel_rfl) (by simp) ?_
    refine (AllReadyH.cons rfl (fun K hK => ?_) AllReadyH.nil)
    go_simp
    refine hK.out _ _ (kv_set HK.out (fun _ h => h.2.2.2.2.2.2.2) 19 (by decide) _ hHeld) (fun hHeld2 => ?_)
    clear hK K hHeld
    have hHeld := hHeld2
    clear hHeld2
    (try simp only [Act.put, jA, jB, jC])
    refine wpAnyH_done (by kernel_rfl) ?_ _
    clear hHeld
    go_wp2
    go_end0
    exact ⟨rfl, tell_st H.out.drew HGR.out (by simp) HOB.out HOW.out, (Kb.refl _ _).drew.kd.trans (tell_kd H.out.drew HGR.out _)⟩
set_option maxHeartbeats 4000000 in
theorem wstart_any {s : List Fo.Itm} {u : Int} {l' : List Evn} (hu : wrap64 x.f.val = u) (hq : Fo.startS k.T x.stk u = s) (hl' : l ++ [(2, u, k.me)] = l') (hsm : Fo.Sm k.T) (hl : x.stk.length ≤ 1000) (hll : l.length ≤ 10) (h : Wst k x m l w) : Calls Tryz.prog 60 #[.pointer (some ⟨k.g, 0, none⟩)] w (Wrt k { x with stk := s } m l' w) := by
  obtain ⟨A, c, SA, cs, E, ce, h⟩ := h
  have H := Lib.hid h
  have HSM := Lib.hid hsm
  have HQ := Lib.hid hq
  have HL := Lib.hid hl
  have HLL := Lib.hid hll
  have HL2 := Lib.hid hl'
  clear hsm hq hl hll hl'
  have hg := h.bx.lt
  obtain ⟨a0, a1, a2, a3, a4, a5, a6, a7, a8, a9, a10, a11, a12, a13, a14, a15, a16, a17, a18, a19⟩ := h.bx.cells
  have fz := h.bx.free
  clear h
  obtain ⟨n₀, n₁, g, W, D, J, S, me, d, AT, T, ct⟩ := k
  obtain ⟨pc, stk, ⟨o, p, q, v, fx, y, r⟩, sp, lk⟩ := x
  simp only at a0 a1 a2 a3 a4 a5 a6 a7 a8 a9 a10 a11 a12 a13 a14 a15 a16 a17 a18 a19 fz hg ⊢
  have ZC := Lib.hid (Below.refl w.heap.size w).drew
  have HK := Lib.hid (show ∀ x', Kw g w x' → (fun w' => w'.cell? ⟨g, 11, none⟩ = some (.int .i64 W) ∧ w'.cell? ⟨g, 12, none⟩ = some (.int .i64 D) ∧ w'.cell? ⟨g, 13, none⟩ = some (.int .i64 J) ∧ w'.cell? ⟨g, 14, none⟩ = some (.int .i64 S) ∧ w'.cell? ⟨g, 15, none⟩ = some (.slice AT T.length ct) ∧ w'.cell? ⟨g, 17, none⟩ = some (.int .i64 me) ∧ w'.cell? ⟨g, 18, none⟩ = some (.int .u64 d) ∧ Kw g w w') x' from fun x' hx =>
    ⟨(hx.cells 11 (by decide) (by decide) (by decide)).trans a11, (hx.cells 12 (by decide) (by decide) (by decide)).trans a12, (hx.cells 13 (by decide) (by decide) (by decide)).trans a13, (hx.cells 14 (by decide) (by decide) (by decide)).trans a14, (hx.cells 15 (by decide) (by decide) (by decide)).trans a15, (hx.cells 17 (by decide) (by decide) (by decide)).trans a17, (hx.cells 18 (by decide) (by decide) (by decide)).trans a18, hx⟩)
  have hHeld0 := HK.out _ (Kw.refl g w)
  have HU := Lib.hid hu
  clear hu
  go_enter Tryz.func60, Tryz.ntmps60
  go_upto_region 1 with fail
  try rw [HU.out]
  refine wp_region_held_drew (S := fun w' => w'.cell? ⟨g, 11, none⟩ = some (.int .i64 W) ∧ w'.cell? ⟨g, 12, none⟩ = some (.int .i64 D) ∧ w'.cell? ⟨g, 13, none⟩ = some (.int .i64 J) ∧ w'.cell? ⟨g, 14, none⟩ = some (.int .i64 S) ∧ w'.cell? ⟨g, 15, none⟩ = some (.slice AT T.length ct) ∧ w'.cell? ⟨g, 17, none⟩ = some (.int .i64 me) ∧ w'.cell? ⟨g, 18, none⟩ = some (.int .u64 d) ∧ Kw g w w') (by kernel_rfl) (kw_drew HK.out (fun _ h => h.2.2.2.2.2.2.2) hHeld0) (fun hHeld => ?_)
  refine tkH 0 (v := ?vs1) rfl ?ys1 ?rs1
  case ys1 => (intro w hSw; (try dsimp only at hSw); go_simp; (try with_reducible rfl))
  (try simp only [Act.put, jA, jB, jC])
  refine tkH 1 (v := ?vs2) rfl ?ys2 ?rs2
  case ys2 => (intro w hSw; (try dsimp only at hSw); go_simp; (try with_reducible rfl))
  (try simp only [Act.put, jA, jB, jC])
  refine tkH 2 (v := ?vs3) rfl ?ys3 ?rs3
  case ys3 => (intro w hSw; (try dsimp only at hSw); go_simp; (try with_reducible rfl))
  (try simp only [Act.put, jA, jB, jC])
  refine tkH 3 (v := ?vs4) rfl ?ys4 ?rs4
  case ys4 => (intro w hSw; (try dsimp only at hSw); go_simp; (try with_reducible rfl))
  (try simp only [Act.put, jA, jB, jC])
  refine tkH 4 (v := ?vs5) rfl ?ys5 ?rs5
  case ys5 => (intro w hSw; (try dsimp only at hSw); go_simp; (try with_reducible rfl))
  (try simp only [Act.put, jA, jB, jC])
  refine tkH 5 (v := ?vs6) rfl ?ys6 ?rs6
  case ys6 => (intro w hSw; (try dsimp only at hSw); go_simp; (try with_reducible rfl))
  (try simp only [Act.put, jA, jB, jC])
  refine tkH 6 (v := ?vs7) rfl ?ys7 ?rs7
  case ys7 => (intro w hSw; (try dsimp only at hSw); go_simp; (try with_reducible rfl))
  (try simp only [Act.put, jA, jB, jC])
  refine tkH 7 (v := ?vs8) rfl ?ys8 ?rs8
  case ys8 => (intro w hSw; (try dsimp only at hSw); go_simp; (try with_reducible rfl))
  (try simp only [Act.put, jA, jB, jC])
  refine tkH 8 (v := ?vs9) rfl ?ys9 ?rs9
  case ys9 => (intro w hSw; (try dsimp only at hSw); go_simp; (try with_reducible rfl))
  (try simp only [Act.put, jA, jB, jC])
  refine tkH 10 (v := ?vs10) rfl ?ys10 ?rs10
  case ys10 => (intro w hSw; (try dsimp only at hSw); go_simp; (try with_reducible rfl))
  (try simp only [Act.put, jA, jB, jC])
  refine wpAnyH_ready (rs := [9]) (by kernel_rfl) (by simp) ?_
  refine (AllReadyH.cons rfl (fun K hK => ?_) AllReadyH.nil)
  go_simp
  refine hK.out _ _ (hHeld) (fun hHeld2 => ?_)
  clear hK K hHeld
  have hHeld := hHeld2
  clear hHeld2
  (try simp only [Act.put, jA, jB, jC])
  refine wpAnyH_ready (rs := [11]) (by kernel_rfl) (by simp) ?_
  refine (AllReadyH.cons rfl (fun K hK => ?_) AllReadyH.nil)
  go_simp
  refine (Calls.mono (Fo.tstart_any AT SA ct cs _ T stk u _ (H.out.after ZC.out).tk2 (H.out.after ZC.out).rs.ir (Nat.le_refl _) HSM.out HL.out) (fun _ _ h => (show Fo.RetS _ s _ _ from HQ.out ▸ h))).mono ?_
  rintro e w1 ⟨A1, c1, rfl, ho, hb⟩
  go_wp2_with fail
  have HO := Lib.hid (Iow_iyy (lo := n₁) (g := g) ho (Nat.le_trans H.out.hn1 (Nat.le_of_lt (Nat.lt_of_lt_of_le hg ZC.out.size))) (.inl (Nat.lt_of_lt_of_le hg ZC.out.size)))
  have HA1 := Lib.hid (show Apart E A1 s.length from apart_new (H.out.after ZC.out).re (Nat.le_refl _) (fun _ a ha => (World.ownsRow.lt ho a.block (by rw [ha]; rfl)).1))
  replace ZC := Lib.hid (keep_call (w2 := w) hb ZC.out)
  have e := (H.out.after ZC.out).bx; obtain ⟨b0, b1, b2, b3, b4, b5, b6, b7, b8, b9, b10, b11, b12, b13, b14, b15, b16, b17, b18, b19⟩ := e.cells; have fz := e.free; simp only at b0 b1 b2 b3 b4 b5 b6 b7 b8 b9 b10 b11 b12 b13 b14 b15 b16 b17 b18 b19; clear e
  clear ho
  refine hK.out _ _ (kw_call HK.out (fun _ h => h.2.2.2.2.2.2.2) hg hb hHeld) (fun hHeld2 => ?_)
  clear hK K hHeld
  have hHeld := hHeld2
  clear hHeld2
  (try simp only [Act.put, jA, jB, jC])
  refine tkH 12 (v := ?vs11) rfl ?ys11 ?rs11
  case ys11 => (intro w hSw; (try dsimp only at hSw); go_simp; (try with_reducible rfl))
  (try simp only [Act.put, jA, jB, jC])
  refine tkH 13 (v := ?vs12) rfl ?ys12 ?rs12
  case ys12 => (intro w hSw; (try dsimp only at hSw); go_simp; (try with_reducible rfl))
  (try simp only [Act.put, jA, jB, jC])
  refine tkH 14 (v := ?vs13) rfl ?ys13 ?rs13
  case ys13 => (intro w hSw; (try dsimp only at hSw); go_simp; (try with_reducible rfl))
  (try simp only [Act.put, jA, jB, jC])
  refine wpAnyH_ready (rs := [15]) (by kernel_rfl) (by simp) ?_
  refine (AllReadyH.cons rfl (fun K hK => ?_) AllReadyH.nil)
  go_simp
  refine hK.out _ _ (kw_set HK.out (fun _ h => h.2.2.2.2.2.2.2) 1 (by decide) _ hHeld) (fun hHeld2 => ?_)
  clear hK K hHeld
  have hHeld := hHeld2
  clear hHeld2
  (try simp only [Act.put, jA, jB, jC])
  refine wpAnyH_done (by kernel_rfl) ?_ _
  clear hHeld
  have W2 := Lib.hid (Wsx.st ((H.out.after ZC.out).setS (c' := c1) HO.out HA1.out))
  have Z2 := Lib.hid ((((Kb.refl _ _).call hg ZC.out).set 1 (.slice A1 s.length c1)).kd)
  go_wp2_with fail
  refine (wtell_any _ 2 u HL2.out HLL.out W2.out).mono ?_
  rintro _ w3 ⟨rfl, W3, Z3⟩
  go_wp2
  go_end0
  exact ⟨rfl, W3, Z2.out.trans Z3⟩
end
end Go.Proofs.YtlpkccpijloidaaGreat
