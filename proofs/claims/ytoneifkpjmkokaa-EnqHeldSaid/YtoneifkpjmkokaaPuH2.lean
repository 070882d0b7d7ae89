/- Merged: PuH, PuI, PuJ, PuK. -/
import Derived.Test.YtoneifkpjmkokaaPuG
import Derived.Test.YtoneifkpjmkokaaPuF
import Derived.Deep.CutRange
import Derived.Deep.DeepCutAuto
import Derived.IntWalk
import Derived.Test.YtoneifkpjmkokaaLaC
import Derived.Lib.SmallJoins
namespace Go.Proofs.Ytoneifkpjmkokaa
open Go.RowKit Go.Deep

end Go.Proofs.Ytoneifkpjmkokaa
namespace Go.Proofs.Ytoneifkpjmkokaa
open Go.RowKit Go.Deep
theorem ow_ok {W D J S : Int} {m : List Int} {w : Int} (h : okw W D J S m w = true) (k : Int) : ow W D J S w k = bg D J w + k := by
  obtain ⟨a, _, c, d⟩ := okw_iff.1 h
  unfold ow
  rw [a, wi_true.2 ⟨c, by omega⟩]; rfl
theorem sl_ok {W D J S : Int} {m : List Int} {w : Int} (h : okw W D J S m w = true) (x : Int) : sl W D J S w x = sI D J w x := by
  obtain ⟨a, _, c, d⟩ := okw_iff.1 h
  unfold sl sI
  rw [a, wi_true.2 ⟨c, by omega⟩]; rfl
theorem RetS.of {w : World} {l l' : List Int} {f f' : Fr} {P : Program} {F : FuncId} {args : Array Value} (h : Calls P F args w (RetS w l f)) (e : (l, f) = (l', f')) : Calls P F args w (RetS w l' f') := by
  injection e with e1 e2
  rw [← e1, ← e2]; exact h
end Go.Proofs.Ytoneifkpjmkokaa
namespace Go.Proofs.Ytoneifkpjmkokaa
open Go.RowKit Go.Deep
/-- What a call that tells a list leaves: the list, in memory that may be read, and whether there is one. -/
def RetL (w : World) (o : Option (List Int)) (e : Ending) (w' : World) : Prop :=
  ∃ A c, e = .returned (.tuple #[.slice A (o.getD []).length c, .bool o.isSome]) ∧ (o.getD []).length ≤ c ∧ Rd w' A (o.getD []) ∧ Below w.heap.size w w'
theorem Own.after {w w' : World} {base : Nat} {A : Option Addr} {n c : Nat} {l : List Int} (h : Own w base A n c l) (hb : Below w.heap.size w w') : Own w' base A n c l := by
  refine ⟨h.1, ?_⟩
  rcases h.2 with h2 | ⟨g, cap, cur, hv, hb0, hg, hr⟩
  · exact .inl h2
  · exact .inr ⟨g, cap, cur, hv, hb0, (hb.block g (Array.getElem?_eq_some_iff.1 hg).1).trans hg, hr⟩
theorem Own.nil (w : World) (base : Nat) : Own w base none 0 0 [] := World.ownsRow_nil _ _ _ _
theorem Own.cap {w : World} {base : Nat} {A : Option Addr} {n c : Nat} {l : List Int} (h : Own w base A n c l) : n ≤ c := by
  rcases h.2 with ⟨hv, hx⟩ | ⟨g, cap, cur, hv, hb, hg, hn, _⟩
  · omega
  · injection hv with _ _ hc
    rw [hc]; exact hn
/-- The first numbers of a deque, from T on. -/
def lN (D J : Int) (m : List Int) (x T : Int) (j : Nat) : List Int := (List.range j).map fun i : Nat => at0 m (sI D J x (T + i))
theorem lN_len (D J : Int) (m : List Int) (x T : Int) (j : Nat) : (lN D J m x T j).length = j := by simp [lN]
theorem lN_succ (D J : Int) (m : List Int) (x T : Int) (j : Nat) : lN D J m x T (j + 1) = lN D J m x T j ++ [at0 m (sI D J x (T + j))] := by simp [lN, List.range_succ]
theorem lst_yes {W D J S : Int} {m : List Int} {x : Int} (hk : okw W D J S m x = true) {j : Nat} (hf : far (at0 m (bg D J x + 1)) (at0 m (bg D J x)) = j) (hj : (j : Int) ≤ D) : lst W D J S m x = some (lN D J m x (at0 m (bg D J x)) j) := by
  unfold lst lN
  rw [if_pos ⟨hk, by rw [hf]; omega, by rw [hf]; exact hj⟩, hf]; rfl
theorem lst_no {W D J S : Int} {m : List Int} {x : Int} (h : okw W D J S m x = true → far (at0 m (bg D J x + 1)) (at0 m (bg D J x)) < 0 ∨ D < far (at0 m (bg D J x + 1)) (at0 m (bg D J x))) : lst W D J S m x = none := by
  unfold lst
  rw [if_neg]
  rintro ⟨h1, h2, h3⟩
  have := h h1
  omega
theorem list_there (W D J S x : Int) (A : Option Addr) (n c : Nat) (m : List Int) (w : World) (hn : m.length = n) (hk : okw W D J S m x = false) :
    Calls Try.prog 23 #[cf W D J S, .slice A n c, .int .i64 x] w (RetL w none) := by
  have HK := Lib.hid hk
  clear hk
  go_enter Try.func23, Try.ntmps23
  go_wp2_with fail
  refine (Tells.of (there_any W D J S x A n c m _ hn) (v' := .bool false) (by rw [HK.out])).mono ?_
  rintro _ w1 ⟨rfl, z1⟩
  have HZ := Lib.hid ((box_below w _).trans (z1.mono (by simp)))
  clear z1
  go_wp2
  refine bodyPost_ret (by simp [results, Try.results23, go_sem]; try rfl) rfl ?_
  exact ⟨none, 0, rfl, Nat.le_refl _, Rd.nil _ _, HZ.out⟩
set_option maxHeartbeats 2000000 in
theorem list_here (W D J S x T B : Int) (A : Option Addr) (n c : Nat) (m : List Int) (w : World) (h : Rd w A m) (hn : m.length = n) (hk : okw W D J S m x = true) (hT : at0 m (bg D J x) = T) (hB : at0 m (bg D J x + 1) = B)
    (o : Option (List Int)) (ho : (o = none ∧ (far B T < 0 ∨ 0 ≤ far B T ∧ D < far B T)) ∨ ∃ j : Nat, far B T = j ∧ (j : Int) ≤ D ∧ o = some (lN D J m x T j)) :
    Calls Try.prog 23 #[cf W D J S, .slice A n c, .int .i64 x] w (RetL w o) := by
  obtain ⟨hm, hlen, hx0, hx1⟩ := okw_iff.1 hk
  obtain ⟨hW, hD, hJ, hS⟩ := may_lim hm
  have hs : n ≤ 500 := by
    have := (bg_lim hD hJ (x := W) (by omega)).2
    omega
  have H := Lib.hid h
  have HN := Lib.hid hn
  have HK := Lib.hid hk
  have HT := Lib.hid (show at0 m (ow W D J S x 0) = T by rw [ow_ok hk, Int.add_zero, hT])
  have HB := Lib.hid (show at0 m (ow W D J S x 1) = B by rw [ow_ok hk, hB])
  have HO := Lib.hid ho
  have HD := Lib.hid hD
  clear h hn hk hT hB ho hm hlen hW hD hJ hS
  go_enter Try.func23, Try.ntmps23
  go_wp2_with fail
  refine (Tells.of (there_any W D J S x A n c m _ HN.out) (v' := .bool true) (by rw [HK.out])).mono ?_
  rintro _ w1 ⟨rfl, z1⟩
  have HZ := Lib.hid ((box_below w _).trans (z1.mono (by simp)))
  have BX := Lib.hid ((Bx.mk w W D J S 23).below z1)
  have HW := Lib.hid BX.out.1
  clear z1
  go_upto_region 3 with fail
  go_cut [8, 9] from 8 to 27 (fun t b wr => t = .int .u64 T ∧ b = .int .u64 B ∧ Hid (Below w1.heap.size w1 wr))
  case first =>
    have HKK := Lib.hid (show ∀ x', Below w1.heap.size w1 x' → (fun w' => w'.cell? ⟨w.heap.size, 0, none⟩ = some (.int .i64 W) ∧ w'.cell? ⟨w.heap.size, 1, none⟩ = some (.int .i64 D) ∧ w'.cell? ⟨w.heap.size, 2, none⟩ = some (.int .i64 J) ∧ w'.cell? ⟨w.heap.size, 3, none⟩ = some (.int .i64 S) ∧ Below w1.heap.size w1 w') x' from fun x' hx => ⟨(BX.out.below hx).2.1, (BX.out.below hx).2.2.1, (BX.out.below hx).2.2.2.1, (BX.out.below hx).2.2.2.2, hx⟩)
    have HR := Lib.hid (show ∀ x', (fun w' => w'.cell? ⟨w.heap.size, 0, none⟩ = some (.int .i64 W) ∧ w'.cell? ⟨w.heap.size, 1, none⟩ = some (.int .i64 D) ∧ w'.cell? ⟨w.heap.size, 2, none⟩ = some (.int .i64 J) ∧ w'.cell? ⟨w.heap.size, 3, none⟩ = some (.int .i64 S) ∧ Below w1.heap.size w1 w') x' → Rd x' A m from fun x' hx => H.out.below (HZ.out.trans (hx.2.2.2.2.mono HZ.out.size)))
    have HE := Lib.hid (show ∀ x', (fun w' => w'.cell? ⟨w.heap.size, 0, none⟩ = some (.int .i64 W) ∧ w'.cell? ⟨w.heap.size, 1, none⟩ = some (.int .i64 D) ∧ w'.cell? ⟨w.heap.size, 2, none⟩ = some (.int .i64 J) ∧ w'.cell? ⟨w.heap.size, 3, none⟩ = some (.int .i64 S) ∧ Below w1.heap.size w1 w') x' → Below w1.heap.size w1 x' from fun x' hx => hx.2.2.2.2)
    have hn0 : w1.heap.size ≤ w1.heap.size := Nat.le_refl _
    have hHeld0 := HKK.out _ (Below.refl _ _)
    go_region_held3 (fun w' => w'.cell? ⟨w.heap.size, 0, none⟩ = some (.int .i64 W) ∧ w'.cell? ⟨w.heap.size, 1, none⟩ = some (.int .i64 D) ∧ w'.cell? ⟨w.heap.size, 2, none⟩ = some (.int .i64 J) ∧ w'.cell? ⟨w.heap.size, 3, none⟩ = some (.int .i64 S) ∧ Below w1.heap.size w1 w')
      (first | with_reducible exact hd_drew HKK.out (fun _ h => h.2.2.2.2) (by assumption) | with_reducible exact hd_call HKK.out (fun _ h => h.2.2.2.2) (by assumption) (by assumption) hn0)
      (first
      | (go_at_call 47; (refine (top_any W D J S x _).mono ?_); rintro _ w2 ⟨rfl, hb⟩)
      | (go_at_call 48; (refine (bottom_any W D J S x _).mono ?_); rintro _ w2 ⟨rfl, hb⟩)
      | (go_at_call 27; (refine (load_any A n c m _ _ (HR.out _ (by assumption)) HN.out hs).mono ?_); rintro _ w2 ⟨rfl, hb⟩))
    all_goals
      go_wp2_with fail
      go_meet
      exact ⟨by rw [HT.out], by rw [HB.out], Lib.hid (HE.out _ (by assumption))⟩
  case rest =>
    obtain ⟨rfl, rfl, HZ2⟩ := hcut
    obtain ⟨_, b0, b1, b2, b3⟩ := BX.out.below HZ2.out
    have HZ3 := Lib.hid (HZ.out.trans (HZ2.out.mono HZ.out.size))
    go_wp2_with fail
    refine (far_any B T _).mono ?_
    rintro _ _ ⟨rfl, rfl⟩
    rcases HO.out with ⟨rfl, h1 | ⟨h1, h2⟩⟩ | ⟨N, hN, hND, rfl⟩
    · have hd : decide (far B T < 0) = true := decide_eq_true h1
      generalize far B T = k at *
      go_wp2
      refine bodyPost_ret (by simp [results, Try.results23, go_sem]; try rfl) rfl ?_
      exact ⟨none, 0, rfl, Nat.le_refl _, Rd.nil _ _, HZ3.out⟩
    · have hd : decide (far B T < 0) = false := decide_eq_false (by omega)
      have hd2 : decide (far B T > D) = true := decide_eq_true h2
      generalize far B T = k at *
      go_wp2
      refine bodyPost_ret (by simp [results, Try.results23, go_sem]; try rfl) rfl ?_
      exact ⟨none, 0, rfl, Nat.le_refl _, Rd.nil _ _, HZ3.out⟩
    · rw [hN]
      have hN0 : decide ((N : Int) < 0) = false := decide_eq_false (by omega)
      have hN1 : decide ((N : Int) > D) = false := decide_eq_false (by omega)
      have hN2 := Lib.hid hND
      have hN3 : N ≤ 16 := by have := HD.out; omega
      clear hN hND HO HT HB b0 b2 b3
      go_wp2
      clear hN0 hN1 b1
      go_loopw [40, 11] (fun i s wr => ∃ (j : Nat) (R : Option Addr) (d : Nat), i = .int .i64 j ∧ s = .slice R j d ∧ j ≤ N ∧ Hid (Own wr w1.heap.size R j d (lN D J m x T j)) ∧ Hid (Below w1.heap.size w1 wr)) (fun i _ _ => N - (intOf i).toNat)
      case atStart => exact ⟨0, none, 0, rfl, rfl, by omega, Lib.hid (Own.nil _ _), HZ2⟩
      case round =>
        clear HZ2 HZ3
        obtain ⟨j, R, d, rfl, rfl, hj, HOW, HZ2⟩ := hrel
        by_cases hlt : j < N
        · obtain ⟨g0, b0, b1, b2, b3⟩ := BX.out.below HZ2.out
          have hw1 : IntKind.u64.wrap (j : Int) = (j : Int) := by rw [IntKind.wrap_u64]; omega
          have hw2 : IntKind.u64.wrap (T + (j : Int)) = (T + (j : Int)) % 18446744073709551616 := IntKind.wrap_u64 _
          have HU := Lib.hid (mod_U (T + (j : Int)))
          have HSI := Lib.hid (show at0 m (sl W D J S x ((T + (j : Int)) % 18446744073709551616)) = at0 m (sI D J x (T + j)) by rw [sl_ok HK.out, sI_mod (okw_iff.1 HK.out).1])
          generalize (T + (j : Int)) % 18446744073709551616 = X at hw2 HU HSI
          go_wp2_with fail
          refine (slot_any W D J S x X _ HU.out).mono ?_
          rintro _ w3 ⟨rfl, z3⟩
          have HZ4 := Lib.hid (keep_call z3 HZ2.out)
          have HO3 := Lib.hid (HOW.out.after z3)
          obtain ⟨g1, b0, b1, b2, b3⟩ := BX.out.below HZ4.out
          go_wp2_with fail
          refine (ret_of (load_any A n c m _ _ (H.out.below (HZ.out.trans (HZ4.out.mono HZ.out.size))) HN.out hs) (v' := .int .u64 (at0 m (sI D J x (T + j)))) (by rw [HSI.out])).mono ?_
          rintro _ w4 ⟨rfl, z4⟩
          have HE := Lib.hid (lN_succ D J m x T j)
          generalize at0 m (sI D J x (T + j)) = V at HE ⊢
          have za := bel_alloc w4 (.cells #[.int .u64 V] 26)
          have HZ5 := Lib.hid (keep_call z4 HZ4.out)
          obtain ⟨R', d', w5, hrun, hown, hb⟩ := run_appN (m := 1) ((HO3.out.after z4).after za) 1 (rd_one w4 V) rfl (by omega) (Nat.le_trans HZ5.out.size za.size)
          have HOW5 := Lib.hid hown
          have HRUN := Lib.hid hrun
          have HZ6 := Lib.hid ((keep_call za HZ5.out).trans hb)
          clear hrun hown hb za z4 z3
          go_wp2_with (at_builtin; (with_reducible refine wpList_append_run HRUN.out ?_ ?_ ?_ ?_); exact ⟨_, _, rfl, rfl, rfl⟩; rfl; rfl)
          go_roundw
          case rel => exact ⟨j + 1, R', d', by go_num, rfl, by omega, by rw [HE.out]; exact HOW5, HZ6⟩
          case measure => simp [intOf]; omega
        · obtain rfl : j = N := by omega
          have HZ3 := Lib.hid (HZ.out.trans (HZ2.out.mono HZ.out.size))
          go_wp2
          refine bodyPost_ret (by simp [results, Try.results23, go_sem]; try rfl) rfl ?_
          exact ⟨R, d, by simp [lN_len], by simpa [lN_len] using HOW.out.cap, HOW.out.rd, HZ3.out⟩
theorem list_any (W D J S x : Int) (A : Option Addr) (n c : Nat) (m : List Int) (w : World) (h : Rd w A m) (hn : m.length = n) :
    Calls Try.prog 23 #[cf W D J S, .slice A n c, .int .i64 x] w (RetL w (lst W D J S m x)) := by
  cases hk : okw W D J S m x
  · rw [lst_no (fun h' => by rw [hk] at h'; cases h')]
    exact list_there W D J S x A n c m w hn hk
  · by_cases h0 : far (at0 m (bg D J x + 1)) (at0 m (bg D J x)) < 0
    · rw [lst_no (fun _ => .inl h0)]
      exact list_here W D J S x _ _ A n c m w h hn hk rfl rfl none (.inl ⟨rfl, .inl h0⟩)
    · by_cases h1 : far (at0 m (bg D J x + 1)) (at0 m (bg D J x)) ≤ D
      · obtain ⟨j, hj⟩ := Int.eq_ofNat_of_zero_le (show 0 ≤ far (at0 m (bg D J x + 1)) (at0 m (bg D J x)) by omega)
        rw [lst_yes hk hj (by omega)]
        exact list_here W D J S x _ _ A n c m w h hn hk rfl rfl _ (.inr ⟨j, hj, by omega, rfl⟩)
      · rw [lst_no (fun _ => .inr (by omega))]
        exact list_here W D J S x _ _ A n c m w h hn hk rfl rfl none (.inl ⟨rfl, .inr ⟨by omega, by omega⟩⟩)
end Go.Proofs.Ytoneifkpjmkokaa
namespace Go.Proofs.Ytoneifkpjmkokaa
open Go.RowKit Go.Deep
/-- All blocks but block g stay. -/
structure Kb (g : Nat) (w w' : World) : Prop where
  low : Below g w w'
  others : ∀ b, b < w.heap.size → b ≠ g → w'.heap[b]? = w.heap[b]?
theorem Kb.refl (g : Nat) (w : World) : Kb g w w := ⟨Below.refl _ _, fun _ _ _ => rfl⟩
theorem Kb.size {g : Nat} {w w' : World} (h : Kb g w w') : w.heap.size ≤ w'.heap.size := h.low.size
theorem Kb.call {g : Nat} {w w1 w2 : World} (h : Kb g w w1) (hg : g < w.heap.size) (hb : Below w1.heap.size w1 w2) : Kb g w w2 :=
  ⟨h.low.trans (hb.mono (Nat.le_trans (Nat.le_of_lt hg) h.size)), fun b h1 h2 => (hb.block b (Nat.lt_of_lt_of_le h1 h.size)).trans (h.others b h1 h2)⟩
theorem Kb.set {g : Nat} {w w1 : World} (h : Kb g w w1) (k : Nat) (v : Value) : Kb g w (w1.setCell ⟨g, k, none⟩ v) :=
  ⟨h.low.setCell (Nat.le_refl _) _, fun b h1 h2 => (Below.heap_setCell w1 ⟨g, k, none⟩ v b h2).trans (h.others b h1 h2)⟩
theorem Kb.pf {g : Nat} {w w1 : World} (h : Kb g w w1) (f : Fr) : Kb g w (pf w1 g f) :=
  ((((((h.set 0 _).set 1 _).set 2 _).set 3 _).set 4 _).set 5 _).set 6 _
theorem Kb.drew {g : Nat} {w w' : World} (h : Kb g w w') : Kb g w w'.drew := ⟨h.low.drew, h.others⟩
theorem Bx.kb {g c : Nat} {w w' : World} {W D J S : Int} (h : Bx w c W D J S) (hk : Kb g w w') (hc : c ≠ g) : Bx w' c W D J S := by
  have e : w'.heap[c]? = w.heap[c]? := hk.others c h.1 hc
  exact ⟨Nat.lt_of_lt_of_le h.1 hk.size, (World.cell?_of_block e).trans h.2.1, (World.cell?_of_block e).trans h.2.2.1, (World.cell?_of_block e).trans h.2.2.2.1, (World.cell?_of_block e).trans h.2.2.2.2⟩
theorem Bf.kb {g c : Nat} {w w' : World} {f : Fr} (h : Bf w c f) (hk : Kb g w w') (hc : c ≠ g) : Bf w' c f := (hk.others c h.lt hc).trans h
theorem Rx.kb {lo g : Nat} {w w' : World} {A : Option Addr} {l : List Int} (h : Rx lo g w A l) (hk : Kb g w w') : Rx lo g w' A l := fun hp => by
  obtain ⟨ad, e, hl, hne, hlt, hc⟩ := h hp
  exact ⟨ad, e, hl, hne, Nat.lt_of_lt_of_le hlt hk.size, fun j u hu => (World.cell?_of_block (by rw [block_add]; exact hk.others _ hlt hne)).trans (hc j u hu)⟩
theorem Rd.rx {g : Nat} {w : World} {A : Option Addr} {l : List Int} (h : Rd w A l) (hg : w.heap.size ≤ g) : Rx 0 g w A l := fun hp => by
  obtain ⟨ad, e, hlt, hc⟩ := h hp
  exact ⟨ad, e, Nat.zero_le _, by omega, hlt, hc⟩
/-- A list, where it is known. -/
theorem list_n {W D J S x : Int} {A : Option Addr} {n c : Nat} {m : List Int} {w : World} (h : Rd w A m) (hn : m.length = n) {o : Option (List Int)} (e : lst W D J S m x = o) {k : Nat} (hk : (o.getD []).length = k) {b : Bool} (hb : o.isSome = b) :
    Calls Try.prog 23 #[cf W D J S, .slice A n c, .int .i64 x] w fun e w' => ∃ A' c', e = .returned (.tuple #[.slice A' k c', .bool b]) ∧ k ≤ c' ∧ Rd w' A' (o.getD []) ∧ Below w.heap.size w w' := by
  subst e hk hb
  exact list_any W D J S x A n c m w h hn
theorem pushN_succ (W D J S : Int) (n : Nat) (s : List Int × Fr) : pushN W D J S (n + 1) s = pushS W D J S (pushN W D J S n s).1 (pushN W D J S n s).2 := rfl
/-- The cells of the chapter's example. -/
def ex0 : List Int := List.replicate 12 0
theorem ex_len (k : Nat) (f : Fr) : (pushN 1 1 1 0 k (ex0, f)).1.length = 12 := pushN_len _ _ _ _ _ _
theorem ex4 : pushN 1 1 1 0 4 (ex0, fbg 0 0 7) = ([0, 0, 0, 0, 0, 0, 0, 0, 0, 1, 0, 7], ⟨0, 0, 0, 7, 0, 0, 1⟩) := by rfl
theorem ex6 : pushN 1 1 1 0 2 ([0, 0, 0, 0, 0, 0, 0, 0, 0, 1, 0, 7], fbg 0 0 8) = ([0, 0, 0, 0, 0, 0, 0, 0, 0, 1, 0, 7], ⟨0, 0, 0, 8, 0, 0, 2⟩) := by rfl
theorem exl : lst 1 1 1 0 [0, 0, 0, 0, 0, 0, 0, 0, 0, 1, 0, 7] 0 = some [7] := by decide +kernel
theorem exg : goes 1 1 1 0 [0, 0, 0, 0, 0, 0, 0, 0, 0, 1, 0, 7] (fbg 0 0 7) 0 4 = true := by rfl
theorem U0 : U 0 := by unfold U; omega
theorem ex_U (k : Nat) : UF (pushN 1 1 1 0 k (ex0, fbg 0 0 7)).2 := (pushN_U (s := (ex0, fbg 0 0 7)) (fun u hu => by rw [List.eq_of_mem_replicate hu]; exact U0) ⟨by unfold U fbg; simp, U0, U0⟩ k).2
theorem ex_U2 (k : Nat) : UF (pushN 1 1 1 0 k ([0, 0, 0, 0, 0, 0, 0, 0, 0, 1, 0, 7], fbg 0 0 8)).2 := (pushN_U (s := ([0, 0, 0, 0, 0, 0, 0, 0, 0, 1, 0, 7], fbg 0 0 8)) (fun u hu => by
  simp only [List.mem_cons, List.not_mem_nil, or_false] at hu
  unfold U
  omega) ⟨by unfold U fbg; simp, U0, U0⟩ k).2
end Go.Proofs.Ytoneifkpjmkokaa
