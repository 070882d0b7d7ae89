/- What stays while one box alone is stored into; awake: the chapter's example. -/
import Derived.Test.YtjbmldadlpbiaaaPuJ
import Derived.Test.YtjbmldadlpbiaaaLayE
import Derived.Lib.SmallJoins
namespace Go.Proofs.Ytjbmldadlpbiaaa
open Go.RowKit Go.Deep
/-- All blocks but block g stay. -/
structure Kb (g : Nat) (w w' : World) : Prop where
  low : Below g w w'
  others : ∀ b, b < w.heap.size → b ≠ g → w'.heap[b]? = w.heap[b]?
theorem Kb.refl (g : Nat) (w : World) : Kb g w w := ⟨Below.refl _ _, fun _ _ _ => rfl⟩
theorem Kb.size {g : Nat} {w w' : World} (h : Kb g w w') : w.heap.size ≤ w'.heap.size := h.low.size
theorem Kb.call {g : Nat} {w w1 w2 : World} (h : Kb g w w1) (hg : g < w.heap.size) (hb : Below w1.heap.size w1 w2) : Kb g w w2 :=
  ⟨h.low.trans (hb.mono (Nat.le_trans (Nat.le_of_lt hg) h.size)), fun b h1 h2 => (hb.block b (Nat.lt_of_lt_of_le h1 h.size)).trans (h.others b h1 h2)⟩
theorem Kb.set {g : Nat} {w w1 : World} (h : Kb g w w1) (k : Nat) (v : Value) : Kb g w (w1.setCell ⟨g, k, none⟩ v) :=
  ⟨h.low.setCell (Nat.le_refl _) _, fun b h1 h2 => (Below.heap_setCell w1 ⟨g, k, none⟩ v b h2).trans (h.others b h1 h2)⟩
theorem Kb.pf {g : Nat} {w w1 : World} (h : Kb g w w1) (f : Fr) : Kb g w (pf w1 g f) :=
  ((((((h.set 0 _).set 1 _).set 2 _).set 3 _).set 4 _).set 5 _).set 6 _
theorem Kb.drew {g : Nat} {w w' : World} (h : Kb g w w') : Kb g w w'.drew := ⟨h.low.drew, h.others⟩
theorem Bx.kb {g c : Nat} {w w' : World} {W D J S : Int} (h : Bx w c W D J S) (hk : Kb g w w') (hc : c ≠ g) : Bx w' c W D J S := by
  have e : w'.heap[c]? = w.heap[c]? := hk.others c h.1 hc
  exact ⟨Nat.lt_of_lt_of_le h.1 hk.size, (World.cell?_of_block e).trans h.2.1, (World.cell?_of_block e).trans h.2.2.1, (World.cell?_of_block e).trans h.2.2.2.1, (World.cell?_of_block e).trans h.2.2.2.2⟩
theorem Bf.kb {g c : Nat} {w w' : World} {f : Fr} (h : Bf w c f) (hk : Kb g w w') (hc : c ≠ g) : Bf w' c f := (hk.others c h.lt hc).trans h
theorem Rx.kb {lo g : Nat} {w w' : World} {A : Option Addr} {l : List Int} (h : Rx lo g w A l) (hk : Kb g w w') : Rx lo g w' A l := fun hp => by
  obtain ⟨ad, e, hl, hne, hlt, hc⟩ := h hp
  exact ⟨ad, e, hl, hne, Nat.lt_of_lt_of_le hlt hk.size, fun j u hu => (World.cell?_of_block (by rw [block_add]; exact hk.others _ hlt hne)).trans (hc j u hu)⟩
theorem Rd.rx {g : Nat} {w : World} {A : Option Addr} {l : List Int} (h : Rd w A l) (hg : w.heap.size ≤ g) : Rx 0 g w A l := fun hp => by
  obtain ⟨ad, e, hlt, hc⟩ := h hp
  exact ⟨ad, e, Nat.zero_le _, by omega, hlt, hc⟩
/-- A step, where the cells are as many as before. -/
theorem step_n {W D J S : Int} {A : Option Addr} {n c : Nat} {l : List Int} {f : Fr} {w : World} (h : Rd w A l) (hn : l.length = n) (hs : n ≤ 500) (hf : UF f) {l' : List Int} {f' : Fr} (e : pushS W D J S l f = (l', f')) :
    Calls Try.prog 10 #[cf W D J S, .slice A n c, fv f] w fun e w' => ∃ A' c', e = .returned (.tuple #[.slice A' n c', fv f']) ∧ Rn w.heap.size w' A' l' ∧ Below w.heap.size w w' := by
  subst hn
  have h2 := step_any W D J S A c l f w h hs hf
  have hl := pushS_len W D J S l f
  rw [e] at h2 hl
  refine h2.mono ?_
  rintro _ w' ⟨A', c', rfl, h3, h4⟩
  exact ⟨A', c', by rw [show l'.length = l.length from hl], h3, h4⟩
/-- A list, where it is known. -/
theorem list_n {W D J S x : Int} {A : Option Addr} {n c : Nat} {m : List Int} {w : World} (h : Rd w A m) (hn : m.length = n) {o : Option (List Int)} (e : lst W D J S m x = o) {k : Nat} (hk : (o.getD []).length = k) {b : Bool} (hb : o.isSome = b) :
    Calls Try.prog 14 #[cf W D J S, .slice A n c, .int .i64 x] w fun e w' => ∃ A' c', e = .returned (.tuple #[.slice A' k c', .bool b]) ∧ k ≤ c' ∧ Rd w' A' (o.getD []) ∧ Below w.heap.size w w' := by
  subst e hk hb
  exact list_any W D J S x A n c m w h hn
theorem pushN_succ (W D J S : Int) (n : Nat) (s : List Int × Fr) : pushN W D J S (n + 1) s = pushS W D J S (pushN W D J S n s).1 (pushN W D J S n s).2 := rfl
/-- The cells of the chapter's example. -/
def ex0 : List Int := List.replicate 12 0
theorem ex_len (k : Nat) (f : Fr) : (pushN 1 1 1 0 k (ex0, f)).1.length = 12 := pushN_len _ _ _ _ _ _
theorem ex4 : pushN 1 1 1 0 4 (ex0, fbg 0 0 7) = ([0, 0, 0, 0, 0, 0, 0, 0, 0, 1, 0, 7], ⟨0, 0, 0, 7, 0, 0, 1⟩) := by rfl
theorem ex6 : pushN 1 1 1 0 2 ([0, 0, 0, 0, 0, 0, 0, 0, 0, 1, 0, 7], fbg 0 0 8) = ([0, 0, 0, 0, 0, 0, 0, 0, 0, 1, 0, 7], ⟨0, 0, 0, 8, 0, 0, 2⟩) := by rfl
theorem exl : lst 1 1 1 0 [0, 0, 0, 0, 0, 0, 0, 0, 0, 1, 0, 7] 0 = some [7] := by decide +kernel
theorem exg : goes 1 1 1 0 [0, 0, 0, 0, 0, 0, 0, 0, 0, 1, 0, 7] (fbg 0 0 7) 0 4 = true := by rfl
theorem U0 : U 0 := by unfold U; omega
theorem ex_U (k : Nat) : UF (pushN 1 1 1 0 k (ex0, fbg 0 0 7)).2 := (pushN_U (s := (ex0, fbg 0 0 7)) (fun u hu => by rw [List.eq_of_mem_replicate hu]; exact U0) ⟨by unfold U fbg; simp, U0, U0⟩ k).2
theorem ex_U2 (k : Nat) : UF (pushN 1 1 1 0 k ([0, 0, 0, 0, 0, 0, 0, 0, 0, 1, 0, 7], fbg 0 0 8)).2 := (pushN_U (s := ([0, 0, 0, 0, 0, 0, 0, 0, 0, 1, 0, 7], fbg 0 0 8)) (fun u hu => by
  simp only [List.mem_cons, List.not_mem_nil, or_false] at hu
  unfold U
  omega) ⟨by unfold U fbg; simp, U0, U0⟩ k).2
set_option maxHeartbeats 2000000 in
theorem awake_any (w : World) : Tells 9 #[] w (.bool true) := by
  go_enter Try.func9, Try.ntmps9
  go_wp2_with fail
  refine (new_at 1 1 1 0 12 _ (by rfl) (by omega)).mono ?_
  rintro _ w1 ⟨A1, c1, rfl, hr, z⟩
  have BX := Lib.hid ((Bx.mk w 1 1 1 0 23).below z)
  have Z := Lib.hid ((box_below w _).trans (z.mono (by simp)))
  have LM := Lib.hid hr
  clear z hr
  go_wp2_with fail
  refine (begin_any 0 0 7 _).mono ?_
  rintro _ w2 ⟨rfl, z⟩
  replace BX := Lib.hid (BX.out.below z)
  replace Z := Lib.hid (Z.out.trans (z.mono Z.out.size))
  replace LM := Lib.hid (LM.out.below z)
  clear z
  obtain ⟨ws, hws⟩ : ∃ ws, ws = w2.alloc (.cells #[.int .i64 0, .int .i64 0, .int .i64 0, .int .u64 7, .int .u64 0, .int .u64 0, .int .i64 0] 28) := ⟨_, rfl⟩
  have BF := Lib.hid (show Bf ws w2.heap.size (fbg 0 0 7) by rw [hws]; exact Bf.new w2 (fbg 0 0 7))
  have hz := box_below w2 (.cells #[.int .i64 0, .int .i64 0, .int .i64 0, .int .u64 7, .int .u64 0, .int .u64 0, .int .i64 0] 28)
  rw [← hws] at hz
  have BX2 := Lib.hid (BX.out.below hz)
  have LM2 := Lib.hid (LM.out.below hz)
  have HG := Lib.hid BX.out.1
  have HW := Lib.hid hws
  clear hz hws
  have HBB := Lib.hid BF.out.lt
  clear BX LM
  go_wp2
  go_loopw [4, 2] (fun i s wr => ∃ (j : Nat) (A : Option Addr) (c : Nat), i = .int .i64 j ∧ s = .slice A 12 c ∧ j ≤ 4 ∧ Hid (Rd wr A (pushN 1 1 1 0 j (ex0, fbg 0 0 7)).1) ∧ Hid (Bf wr w2.heap.size (pushN 1 1 1 0 j (ex0, fbg 0 0 7)).2) ∧ Hid (Kb w2.heap.size ws wr)) (fun i _ _ => 4 - (intOf i).toNat)
  case atStart =>
    obtain rfl := HW.out
    exact ⟨0, A1, c1, rfl, rfl, by omega, LM2, BF, Lib.hid (Kb.refl _ _)⟩
  case round =>
    clear BF
    obtain ⟨j, A, c, rfl, rfl, hj, LA, BF, KB⟩ := hrel
    by_cases hlt : j < 4
    · have HU := Lib.hid (ex_U j)
      have HL := Lib.hid (ex_len j (fbg 0 0 7))
      have HE := Lib.hid (pushN_succ 1 1 1 0 j (ex0, fbg 0 0 7))
      generalize (pushN 1 1 1 0 j (ex0, fbg 0 0 7)).1 = M at *
      generalize (pushN 1 1 1 0 j (ex0, fbg 0 0 7)).2 = F at *
      obtain ⟨M', F', HP⟩ : ∃ M' F', Hid (pushS 1 1 1 0 M F = (M', F')) := ⟨_, _, Lib.hid rfl⟩
      obtain ⟨_, b0, b1, b2, b3⟩ := BX2.out.kb KB.out (Nat.ne_of_lt HG.out)
      obtain ⟨d0, d1, d2, d3, d4, d5, d6⟩ := BF.out.cells
      go_wp2_with fail
      refine (step_n LA.out HL.out (by omega) HU.out HP.out).mono ?_
      rintro _ w3 ⟨A', c', rfl, hn, z⟩
      have BF3 := BF.out.after z
      clear b0 b1 b2 b3 d0 d1 d2 d3 d4 d5 d6
      obtain ⟨d0, d1, d2, d3, d4, d5, d6⟩ := BF3.cells
      have fz := BF3.free
      have HN := Lib.hid (hn.pf BF.out.lt F')
      have HB3 := Lib.hid (BF3.pf F')
      have HK3 := Lib.hid ((KB.out.call HBB.out z).pf F')
      clear hn BF3
      go_wp2_with fail
      go_roundw
      case rel => exact ⟨j + 1, A', c', by go_num, rfl, by omega, by rw [HE.out, HP.out]; exact Lib.hid HN.out.rd, by rw [HE.out, HP.out]; exact HB3, HK3⟩
      case measure => simp [intOf]; omega
    · obtain rfl : j = 4 := by omega
      rw [ex4] at LA BF
      simp only at LA BF
      have BX3 := Lib.hid (BX2.out.kb KB.out (Nat.ne_of_lt HG.out))
      have Z3 := Lib.hid (Z.out.trans (KB.out.low.mono Z.out.size |> fun h => by rw [HW.out] at h; exact (box_below w2 _).mono (Z.out.size) |>.trans h))
      clear KB HBB HW BX2 LM2 Z
      obtain ⟨_, b0, b1, b2, b3⟩ := BX3.out
      go_wp2_with fail
      refine (list_n LA.out rfl exl rfl rfl).mono ?_
      rintro _ w4 ⟨A4, c4, rfl, hc4, hr4, z⟩
      clear b0 b1 b2 b3
      have BX4 := Lib.hid (BX3.out.below z)
      have LA4 := Lib.hid (LA.out.below z)
      have BF4 := Lib.hid (BF.out.after z)
      have L4 := Lib.hid hr4
      have Z4 := Lib.hid (Z3.out.trans (z.mono Z3.out.size))
      clear z hr4 hc4 BX3 LA BF Z3
      go_wp2_with fail
      refine (begin_any 0 0 8 _).mono ?_
      rintro _ w5 ⟨rfl, z⟩
      have BX5 := Lib.hid (BX4.out.below z)
      have LA5 := Lib.hid (LA4.out.below z)
      have BF5 := Lib.hid (BF4.out.after z)
      have L5 := Lib.hid (L4.out.below z)
      have Z5 := Lib.hid (Z4.out.trans (z.mono Z4.out.size))
      clear z BX4 LA4 BF4 L4 Z4
      obtain ⟨wt, hwt⟩ : ∃ wt, wt = w5.alloc (.cells #[.int .i64 0, .int .i64 0, .int .i64 0, .int .u64 8, .int .u64 0, .int .u64 0, .int .i64 0] 28) := ⟨_, rfl⟩
      have BG := Lib.hid (show Bf wt w5.heap.size (fbg 0 0 8) by rw [hwt]; exact Bf.new w5 (fbg 0 0 8))
      have hz := box_below w5 (.cells #[.int .i64 0, .int .i64 0, .int .i64 0, .int .u64 8, .int .u64 0, .int .u64 0, .int .i64 0] 28)
      rw [← hwt] at hz
      have HG5 := Lib.hid (Nat.ne_of_lt BX5.out.1)
      have HF5 := Lib.hid (Nat.ne_of_lt BF5.out.lt)
      have BX6 := Lib.hid (BX5.out.below hz)
      have LA6 := Lib.hid (LA5.out.below hz)
      have BF6 := Lib.hid (BF5.out.after hz)
      have L6 := Lib.hid ((L5.out.rx (Nat.le_refl _)).after hz)
      have Z6 := Lib.hid (Z5.out.trans (hz.mono Z5.out.size))
      have Z5s := Lib.hid Z5.out.size
      have HBB := Lib.hid BG.out.lt
      have HW := Lib.hid hwt
      clear hz hwt BX5 LA5 BF5 L5 Z5
      go_wp2
      go_loopw [8, 2] (fun i s wr => ∃ (j : Nat) (A : Option Addr) (c : Nat), i = .int .i64 j ∧ s = .slice A 12 c ∧ j ≤ 2 ∧ Hid (Rd wr A (pushN 1 1 1 0 j ([0, 0, 0, 0, 0, 0, 0, 0, 0, 1, 0, 7], fbg 0 0 8)).1) ∧ Hid (Bf wr w5.heap.size (pushN 1 1 1 0 j ([0, 0, 0, 0, 0, 0, 0, 0, 0, 1, 0, 7], fbg 0 0 8)).2) ∧ Hid (Kb w5.heap.size wt wr)) (fun i _ _ => 2 - (intOf i).toNat)
      case atStart =>
        obtain rfl := HW.out
        exact ⟨0, A, c, rfl, rfl, by omega, LA6, BG, Lib.hid (Kb.refl _ _)⟩
      case round =>
        clear BG LA6
        obtain ⟨j, A, c, rfl, rfl, hj, LA, BF, KB⟩ := hrel
        by_cases hlt : j < 2
        · have HU := Lib.hid (ex_U2 j)
          have HL := Lib.hid (show (pushN 1 1 1 0 j ([0, 0, 0, 0, 0, 0, 0, 0, 0, 1, 0, 7], fbg 0 0 8)).1.length = 12 from pushN_len _ _ _ _ _ _)
          have HE := Lib.hid (pushN_succ 1 1 1 0 j ([0, 0, 0, 0, 0, 0, 0, 0, 0, 1, 0, 7], fbg 0 0 8))
          generalize (pushN 1 1 1 0 j ([0, 0, 0, 0, 0, 0, 0, 0, 0, 1, 0, 7], fbg 0 0 8)).1 = M at *
          generalize (pushN 1 1 1 0 j ([0, 0, 0, 0, 0, 0, 0, 0, 0, 1, 0, 7], fbg 0 0 8)).2 = F at *
          obtain ⟨M', F', HP⟩ : ∃ M' F', Hid (pushS 1 1 1 0 M F = (M', F')) := ⟨_, _, Lib.hid rfl⟩
          obtain ⟨_, b0, b1, b2, b3⟩ := BX6.out.kb KB.out HG5.out
          obtain ⟨d0, d1, d2, d3, d4, d5, d6⟩ := BF.out.cells
          go_wp2_with fail
          refine (step_n LA.out HL.out (by omega) HU.out HP.out).mono ?_
          rintro _ w7 ⟨A', c', rfl, hn, z⟩
          have BF3 := BF.out.after z
          clear b0 b1 b2 b3 d0 d1 d2 d3 d4 d5 d6
          obtain ⟨d0, d1, d2, d3, d4, d5, d6⟩ := BF3.cells
          have fz := BF3.free
          have HN := Lib.hid (hn.pf BF.out.lt F')
          have HB3 := Lib.hid (BF3.pf F')
          have HK3 := Lib.hid ((KB.out.call HBB.out z).pf F')
          clear hn BF3
          go_wp2_with fail
          go_roundw
          case rel => exact ⟨j + 1, A', c', by go_num, rfl, by omega, by rw [HE.out, HP.out]; exact Lib.hid HN.out.rd, by rw [HE.out, HP.out]; exact HB3, HK3⟩
          case measure => simp [intOf]; omega
        · obtain rfl : j = 2 := by omega
          rw [ex6] at LA BF
          simp only at LA BF
          have BX7 := Lib.hid (BX6.out.kb KB.out HG5.out)
          have BF7 := Lib.hid (BF6.out.kb KB.out HF5.out)
          have L7 := Lib.hid (L6.out.kb KB.out)
          have Z7 := Lib.hid (Z6.out.trans (KB.out.low.mono Z5s.out))
          clear KB HBB HW BX6 BF6 L6 Z6
          obtain ⟨ad, rfl, _, hne, hlt4, hc4⟩ := L7.out (by simp)
          have e7 : wr.cell? ad = some (.int .u64 7) := by have := hc4 0 7 rfl; rwa [show ad.add 0 = ad by simp [Addr.add]] at this
          have e6 := BF7.out.cells.2.2.2.2.2.2
          have e8 := BF.out.cells.2.2.2.2.2.2
          simp only at e6 e8
          obtain ⟨hg0, b0, b1, b2, b3⟩ := BX7.out
          have HK := Lib.hid (show ∀ x', Below wr.heap.size wr x' → (fun w' => w'.cell? ⟨w2.heap.size, 6, none⟩ = some (.int .i64 1) ∧ w'.cell? ad = some (.int .u64 7) ∧ w'.cell? ⟨w5.heap.size, 6, none⟩ = some (.int .i64 2) ∧ w'.cell? ⟨w.heap.size, 0, none⟩ = some (.int .i64 1) ∧ w'.cell? ⟨w.heap.size, 1, none⟩ = some (.int .i64 1) ∧ w'.cell? ⟨w.heap.size, 2, none⟩ = some (.int .i64 1) ∧ w'.cell? ⟨w.heap.size, 3, none⟩ = some (.int .i64 0) ∧ Below wr.heap.size wr w') x' from fun x' hx => by
            obtain ⟨_, g0, g1, g2, g3⟩ := BX7.out.below hx
            exact ⟨(hx.cell (p := ⟨w2.heap.size, 6, none⟩) BF7.out.lt).trans e6, (hx.cell (p := ad) hlt4).trans e7, (hx.cell (p := ⟨w5.heap.size, 6, none⟩) BF.out.lt).trans e8, g0, g1, g2, g3, hx⟩)
          have HLA := Lib.hid (show ∀ x', (fun w' => w'.cell? ⟨w2.heap.size, 6, none⟩ = some (.int .i64 1) ∧ w'.cell? ad = some (.int .u64 7) ∧ w'.cell? ⟨w5.heap.size, 6, none⟩ = some (.int .i64 2) ∧ w'.cell? ⟨w.heap.size, 0, none⟩ = some (.int .i64 1) ∧ w'.cell? ⟨w.heap.size, 1, none⟩ = some (.int .i64 1) ∧ w'.cell? ⟨w.heap.size, 2, none⟩ = some (.int .i64 1) ∧ w'.cell? ⟨w.heap.size, 3, none⟩ = some (.int .i64 0) ∧ Below wr.heap.size wr w') x' → Rd x' A [0, 0, 0, 0, 0, 0, 0, 0, 0, 1, 0, 7] from fun x' hx => LA.out.below hx.2.2.2.2.2.2.2)
          have HZ := Lib.hid (show ∀ x', (fun w' => w'.cell? ⟨w2.heap.size, 6, none⟩ = some (.int .i64 1) ∧ w'.cell? ad = some (.int .u64 7) ∧ w'.cell? ⟨w5.heap.size, 6, none⟩ = some (.int .i64 2) ∧ w'.cell? ⟨w.heap.size, 0, none⟩ = some (.int .i64 1) ∧ w'.cell? ⟨w.heap.size, 1, none⟩ = some (.int .i64 1) ∧ w'.cell? ⟨w.heap.size, 2, none⟩ = some (.int .i64 1) ∧ w'.cell? ⟨w.heap.size, 3, none⟩ = some (.int .i64 0) ∧ Below wr.heap.size wr w') x' → Below w.heap.size w x' from fun x' hx => Z7.out.trans (hx.2.2.2.2.2.2.2.mono Z7.out.size))
          have hn0 : wr.heap.size ≤ wr.heap.size := Nat.le_refl _
          have hHeld0 := HK.out _ (Below.refl _ _)
          clear hc4 e6 e7 e8 b0 b1 b2 b3 hlt hj
          go_wp2_with fail
          go_region_held3 (fun w' => w'.cell? ⟨w2.heap.size, 6, none⟩ = some (.int .i64 1) ∧ w'.cell? ad = some (.int .u64 7) ∧ w'.cell? ⟨w5.heap.size, 6, none⟩ = some (.int .i64 2) ∧ w'.cell? ⟨w.heap.size, 0, none⟩ = some (.int .i64 1) ∧ w'.cell? ⟨w.heap.size, 1, none⟩ = some (.int .i64 1) ∧ w'.cell? ⟨w.heap.size, 2, none⟩ = some (.int .i64 1) ∧ w'.cell? ⟨w.heap.size, 3, none⟩ = some (.int .i64 0) ∧ Below wr.heap.size wr w')
            (first | with_reducible exact hd_drew HK.out (fun _ h => h.2.2.2.2.2.2.2) (by assumption) | with_reducible exact hd_call HK.out (fun _ h => h.2.2.2.2.2.2.2) (by assumption) (by assumption) hn0)
            (first
            | (go_at_call 18; (refine (begin_any 0 0 7 _).mono ?_); rintro _ w8 ⟨rfl, hb⟩)
            | (go_at_call 17; (refine (Tells.of (goes_any 1 1 1 0 0 4 A 12 c _ (fbg 0 0 7) _ rfl) (v' := .bool true) (by rw [exg])).mono ?_); rintro _ w9 ⟨rfl, hb⟩))
          all_goals
            go_wp2
            go_ret
            exact ⟨rfl, HZ.out _ (by assumption)⟩
end Go.Proofs.Ytjbmldadlpbiaaa
