/- Contracts of a push's last two steps. -/
import Derived.Test.YtlpkccpijloidaaGreatPuA2
import Derived.IntWalk
namespace Go.Proofs.YtlpkccpijloidaaGreat
set_option linter.unusedSimpArgs false
set_option maxRecDepth 100000
open Go.RowKit Go.Deep
/-- What a store leaves: numbers in new memory. -/
def RetK (w : World) (n : Nat) (l : List Int) (e : Ending) (w' : World) : Prop :=
  ∃ g, e = .returned (.slice (some ⟨g, 0, none⟩) n n) ∧ w.heap.size ≤ g ∧ Bk w' g l ∧ Below w.heap.size w w'
set_option maxHeartbeats 400000 in
theorem snew_in (A : Option Addr) (n c k : Nat) (l : List Int) (v : Int) (w : World) (h : Rd w A l) (hn : l.length = n) (hs : n ≤ 500) (hk : k < n) :
    Calls Tryz.prog 129 #[.slice A n c, .int .i64 k, .int .u64 v] w (RetK w n (l.set k v)) := by
  have HN := Lib.hid hn
  have hr : Rd (w.alloc (.cells #[.int .u64 v] 28)) A l := h.below ((Below.refl _ _).alloc (Nat.le_refl _) _)
  have H := Lib.hid hr
  clear hn hr h
  go_enter Tryz.func129, Tryz.ntmps129
  go_wp2_with fail
  refine (copied_any A n c (w.heap.size + 1) l _ H.out HN.out hs (by simp)).mono ?_
  rintro e w1 ⟨rfl, hB, hb⟩
  have hbox : w1.cell? ⟨w.heap.size, 0, none⟩ = some (.int .u64 v) := (hb.cell (p := ⟨w.heap.size, 0, none⟩) (by simp)).trans (by simp)
  have hcell := hB.cell k _ (List.getElem?_eq_getElem (by rw [HN.out]; exact hk))
  have hfz := hB.frozen k
  have HB := Lib.hid hB
  have Hb := Lib.hid hb
  clear hB hb
  go_wp2
  go_end0
  go_wp2
  go_end0
  go_wp2
  go_ret
  exact ⟨_, rfl, by simp, HB.out.set k v, (((Below.refl _ _).alloc (Nat.le_refl _) _).trans (Hb.out.mono (by simp))).setCell (by simp) _⟩
set_option maxHeartbeats 400000 in
theorem snew_out (A : Option Addr) (n c : Nat) (l : List Int) (i v : Int) (w : World) (h : Rd w A l) (hn : l.length = n) (hs : n ≤ 500) (hi : i < 0 ∨ (n : Int) ≤ i) :
    Calls Tryz.prog 129 #[.slice A n c, .int .i64 i, .int .u64 v] w (RetK w n l) := by
  have HN := Lib.hid hn
  have hr : Rd (w.alloc (.cells #[.int .u64 v] 28)) A l := h.below ((Below.refl _ _).alloc (Nat.le_refl _) _)
  have H := Lib.hid hr
  clear hn hr h
  rcases hi with hi | hi
  all_goals
    go_enter Tryz.func129, Tryz.ntmps129
    go_wp2_with fail
    refine (copied_any A n c (w.heap.size + 1) l _ H.out HN.out hs (by simp)).mono ?_
    rintro e w1 ⟨rfl, hB, hb⟩
    have HB := Lib.hid hB
    have Hb := Lib.hid hb
    clear hB hb
    go_wp2
    go_end0
    go_wp2
    go_ret
    exact ⟨_, rfl, by simp, HB.out, ((Below.refl _ _).alloc (Nat.le_refl _) _).trans (Hb.out.mono (by simp))⟩
theorem store_new (A : Option Addr) (n c : Nat) (l : List Int) (i v : Int) (w : World) (h : Rd w A l) (hn : l.length = n) (hs : n ≤ 500) :
    Calls Tryz.prog 129 #[.slice A n c, .int .i64 i, .int .u64 v] w (RetK w n (put l i v)) := by
  by_cases hi : 0 ≤ i ∧ i < n
  · obtain ⟨k, rfl⟩ := Int.eq_ofNat_of_zero_le hi.1
    have e : put l (k : Int) v = l.set k v := by simp [put]
    rw [e]
    exact snew_in A n c k l v w h hn hs (by omega)
  · have e : put l i v = l := by
      unfold put
      split
      · rw [List.set_eq_of_length_le (by omega)]
      · rfl
    rw [e]
    exact snew_out A n c l i v w h hn hs (by omega)
set_option maxHeartbeats 2000000 in
theorem storeVal_any (lo g : Nat) (f : Fr) (W D J S : Int) (A : Option Addr) (c : Nat) (l : List Int) (w : World) (hB : Bp w g f W D J S (.slice A l.length c)) (hA : Rx lo g w A l) (hlo : lo ≤ w.heap.size) (hs : l.length ≤ 500) (hx : U f.x) :
    Calls Tryz.prog 125 #[.pointer (some ⟨g, 0, none⟩)] w (Lv lo w g { f with pc := 3 } W D J S (put l (sl W D J S f.who f.x) f.val)) := by
  have HB := Lib.hid hB
  have HA := Lib.hid hA
  have HS := Lib.hid hs
  have HX := Lib.hid hx
  clear hB hA hs hx
  obtain ⟨o, p, q, v, x, y, s⟩ := f
  have e := HB.out
  obtain ⟨a0, a1, a2, a3, a4, a5, a6, a7, a8, a9, a10, a11⟩ := e.cells
  have fz := e.free
  have hg := e.lt
  have zr := Below.refl w.heap.size w
  have HK := Lib.hid (show ∀ x', Kx g 11 w x' → (fun w' => w'.cell? ⟨g, 2, none⟩ = some (.int .i64 q) ∧ w'.cell? ⟨g, 3, none⟩ = some (.int .u64 v) ∧ w'.cell? ⟨g, 4, none⟩ = some (.int .u64 x) ∧ w'.cell? ⟨g, 7, none⟩ = some (.int .i64 W) ∧ w'.cell? ⟨g, 8, none⟩ = some (.int .i64 D) ∧ w'.cell? ⟨g, 9, none⟩ = some (.int .i64 J) ∧ w'.cell? ⟨g, 10, none⟩ = some (.int .i64 S) ∧ Kx g 11 w w') x' from fun x' hx =>
    ⟨(hx.cells 2 (by decide)).trans a2, (hx.cells 3 (by decide)).trans a3, (hx.cells 4 (by decide)).trans a4, (hx.cells 7 (by decide)).trans a7, (hx.cells 8 (by decide)).trans a8, (hx.cells 9 (by decide)).trans a9, (hx.cells 10 (by decide)).trans a10, hx⟩)
  have hHeld0 := HK.out _ (Kx.refl g 11 w)
  clear e
  go_enter Tryz.func125, Tryz.ntmps125
  go_wp2_with fail
  refine wp_region_held_drew (S := fun w' => w'.cell? ⟨g, 2, none⟩ = some (.int .i64 q) ∧ w'.cell? ⟨g, 3, none⟩ = some (.int .u64 v) ∧ w'.cell? ⟨g, 4, none⟩ = some (.int .u64 x) ∧ w'.cell? ⟨g, 7, none⟩ = some (.int .i64 W) ∧ w'.cell? ⟨g, 8, none⟩ = some (.int .i64 D) ∧ w'.cell? ⟨g, 9, none⟩ = some (.int .i64 J) ∧ w'.cell? ⟨g, 10, none⟩ = some (.int .i64 S) ∧ Kx g 11 w w') (by kernel_rfl) (kx_drew HK.out (fun _ h => h.2.2.2.2.2.2.2) hHeld0) (fun hHeld => ?_)
  refine tkH 0 (v := ?va1) rfl ?ya1 ?ra1
  case ya1 => (intro w hSw; (try dsimp only at hSw); go_simp; (try with_reducible rfl))
  (try simp only [Act.put, jA, jB, jC])
  refine tkH 1 (v := ?va2) rfl ?ya2 ?ra2
  case ya2 => (intro w hSw; (try dsimp only at hSw); go_simp; (try with_reducible rfl))
  (try simp only [Act.put, jA, jB, jC])
  refine tkH 2 (v := ?va3) rfl ?ya3 ?ra3
  case ya3 => (intro w hSw; (try dsimp only at hSw); go_simp; (try with_reducible rfl))
  (try simp only [Act.put, jA, jB, jC])
  refine tkH 3 (v := ?va4) rfl ?ya4 ?ra4
  case ya4 => (intro w hSw; (try dsimp only at hSw); go_simp; (try with_reducible rfl))
  (try simp only [Act.put, jA, jB, jC])
  refine tkH 5 (v := ?va5) rfl ?ya5 ?ra5
  case ya5 => (intro w hSw; (try dsimp only at hSw); go_simp; (try with_reducible rfl))
  (try simp only [Act.put, jA, jB, jC])
  refine tkH 6 (v := ?va6) rfl ?ya6 ?ra6
  case ya6 => (intro w hSw; (try dsimp only at hSw); go_simp; (try with_reducible rfl))
  (try simp only [Act.put, jA, jB, jC])
  refine tkH 7 (v := ?va7) rfl ?ya7 ?ra7
  case ya7 => (intro w hSw; (try dsimp only at hSw); go_simp; (try with_reducible rfl))
  (try simp only [Act.put, jA, jB, jC])
  refine tkH 8 (v := ?va8) rfl ?ya8 ?ra8
  case ya8 => (intro w hSw; (try dsimp only at hSw); go_simp; (try with_reducible rfl))
  (try simp only [Act.put, jA, jB, jC])
  refine tkH 9 (v := ?va9) rfl ?ya9 ?ra9
  case ya9 => (intro w hSw; (try dsimp only at hSw); go_simp; (try with_reducible rfl))
  (try simp only [Act.put, jA, jB, jC])
  refine tkH 10 (v := ?va10) rfl ?ya10 ?ra10
  case ya10 => (intro w hSw; (try dsimp only at hSw); go_simp; (try with_reducible rfl))
  (try simp only [Act.put, jA, jB, jC])
  refine tkH 11 (v := ?va11) rfl ?ya11 ?ra11
  case ya11 => (intro w hSw; (try dsimp only at hSw); go_simp; (try with_reducible rfl))
  (try simp only [Act.put, jA, jB, jC])
  refine tkH 12 (v := ?va12) rfl ?ya12 ?ra12
  case ya12 => (intro w hSw; (try dsimp only at hSw); go_simp; (try with_reducible rfl))
  (try simp only [Act.put, jA, jB, jC])
  refine tkH 13 (v := ?va13) rfl ?ya13 ?ra13
  case ya13 => (intro w hSw; (try dsimp only at hSw); go_simp; (try with_reducible rfl))
  (try simp only [Act.put, jA, jB, jC])
  refine tkH 14 (v := ?va14) rfl ?ya14 ?ra14
  case ya14 => (intro w hSw; (try dsimp only at hSw); go_simp; (try with_reducible rfl))
  (try simp only [Act.put, jA, jB, jC])
  refine tkH 15 (v := ?va15) rfl ?ya15 ?ra15
  case ya15 => (intro w hSw; (try dsimp only at hSw); go_simp; (try with_reducible rfl))
  (try simp only [Act.put, jA, jB, jC])
  refine tkH 16 (v := ?va16) rfl ?ya16 ?ra16
  case ya16 => (intro w hSw; (try dsimp only at hSw); go_simp; (try with_reducible rfl))
  (try simp only [Act.put, jA, jB, jC])
  refine tkH 17 (v := ?va17) rfl ?ya17 ?ra17
  case ya17 => (intro w hSw; (try dsimp only at hSw); go_simp; (try with_reducible rfl))
  (try simp only [Act.put, jA, jB, jC])
  refine tkH 18 (v := ?va18) rfl ?ya18 ?ra18
  case ya18 => (intro w hSw; (try dsimp only at hSw); go_simp; (try with_reducible rfl))
  (try simp only [Act.put, jA, jB, jC])
  refine tkH 20 (v := ?va19) rfl ?ya19 ?ra19
  case ya19 => (intro w hSw; (try dsimp only at hSw); go_simp; (try with_reducible rfl))
  (try simp only [Act.put, jA, jB, jC])
  refine tkH 21 (v := ?va20) rfl ?ya20 ?ra20
  case ya20 => (intro w hSw; (try dsimp only at hSw); go_simp; (try with_reducible rfl))
  (try simp only [Act.put, jA, jB, jC])
  refine tkH 22 (v := ?va21) rfl ?ya21 ?ra21
  case ya21 => (intro w hSw; (try dsimp only at hSw); go_simp; (try with_reducible rfl))
  (try simp only [Act.put, jA, jB, jC])
  refine tkH 23 (v := ?va22) rfl ?ya22 ?ra22
  case ya22 => (intro w hSw; (try dsimp only at hSw); go_simp; (try with_reducible rfl))
  (try simp only [Act.put, jA, jB, jC])
  refine tkH 24 (v := ?va23) rfl ?ya23 ?ra23
  case ya23 => (intro w hSw; (try dsimp only at hSw); go_simp; (try with_reducible rfl))
  (try simp only [Act.put, jA, jB, jC])
  refine wpAnyH_ready (rs := [4, 19]) (by kernel_rfl) (by simp) ?_
  refine (AllReadyH.cons rfl (fun K hK => ?_) (AllReadyH.cons rfl (fun K hK => ?_) AllReadyH.nil))
  · go_simp
    refine hK.out _ _ (hHeld) (fun hHeld2 => ?_)
    clear hK K hHeld
    have hHeld := hHeld2
    clear hHeld2
    (try simp only [Act.put, jA, jB, jC])
    refine wpAnyH_ready (rs := [19]) (by kernel_rfl) (by simp) ?_
    refine (AllReadyH.cons rfl (fun K hK => ?_) AllReadyH.nil)
    go_simp
    refine (slot_any W D J S q x _ HX.out).mono ?_
    rintro e w1 ⟨rfl, hb⟩
    go_wp2_with fail
    have z1 := keep_call (w2 := w) hb zr.drew
    have Z1 := Lib.hid z1
    have e := HB.out.after z1; obtain ⟨b0, b1, b2, b3, b4, b5, b6, b7, b8, b9, b10, b11⟩ := e.cells; have fz := e.free; clear e
    refine hK.out _ _ (kx_call HK.out (fun _ h => h.2.2.2.2.2.2.2) hg hb hHeld) (fun hHeld2 => ?_)
    clear hK K hHeld
    have hHeld := hHeld2
    clear hHeld2
    (try simp only [Act.put, jA, jB, jC])
    refine wpAnyH_ready (rs := [25]) (by kernel_rfl) (by simp) ?_
    refine (AllReadyH.cons rfl (fun K hK => ?_) AllReadyH.nil)
    go_simp
    refine (store_new A l.length c l _ v _ (HA.out.after Z1.out).rd rfl HS.out).mono ?_
    rintro e w2 ⟨k, rfl, hk0, hk, hb2⟩
    go_wp2_with fail
    have HLO := Lib.hid (Nat.le_trans hlo (Nat.le_trans Z1.out.size hk0))
    have HKK := Lib.hid hk
    have z2 := keep_call (w2 := w) hb2 Z1.out
    have Z2 := Lib.hid z2
    have e := HB.out.after z2; obtain ⟨b0, b1, b2, b3, b4, b5, b6, b7, b8, b9, b10, b11⟩ := e.cells; have fz := e.free; clear e
    clear hk hk0
    refine hK.out _ _ (kx_call HK.out (fun _ h => h.2.2.2.2.2.2.2) hg hb2 hHeld) (fun hHeld2 => ?_)
    clear hK K hHeld
    have hHeld := hHeld2
    clear hHeld2
    (try simp only [Act.put, jA, jB, jC])
    refine tkH 26 (v := ?va24) rfl ?ya24 ?ra24
    case ya24 => (intro w hSw; (try dsimp only at hSw); go_simp; (try with_reducible rfl))
    (try simp only [Act.put, jA, jB, jC])
    refine tkH 27 (v := ?va25) rfl ?ya25 ?ra25
    case ya25 => (intro w hSw; (try dsimp only at hSw); go_simp; (try with_reducible rfl))
    (try simp only [Act.put, jA, jB, jC])
    refine wpAnyH_ready (rs := [28]) (by kernel_rfl) (by simp) ?_
    refine (AllReadyH.cons rfl (fun K hK => ?_) AllReadyH.nil)
    go_simp
    refine hK.out _ _ (kx_set HK.out (fun _ h => h.2.2.2.2.2.2.2) _ hHeld) (fun hHeld2 => ?_)
    clear hK K hHeld
    have hHeld := hHeld2
    clear hHeld2
    (try simp only [Act.put, jA, jB, jC])
    refine wpAnyH_done (by kernel_rfl) ?_ _
    go_wp2
    refine bodyPost_ret (by simp [results, Tryz.results125, go_sem]; try rfl) rfl ?_
    have e := HB.out.after Z2.out
    refine ⟨some ⟨k, 0, none⟩, l.length, rfl, ?_, ((HKK.out.rx (HKK.out.ne_box e) HLO.out).set rfl _).set rfl _, ((Z2.out.mono (Nat.le_of_lt hg)).setCell (Nat.le_refl _) _).setCell (Nat.le_refl _) _⟩
    rw [len_put]
    exact (e.setM _).setPc _
  · go_simp
    refine (slot_any W D J S q x _ HX.out).mono ?_
    rintro e w1 ⟨rfl, hb⟩
    go_wp2_with fail
    have z1 := keep_call (w2 := w) hb zr.drew
    have Z1 := Lib.hid z1
    have e := HB.out.after z1; obtain ⟨b0, b1, b2, b3, b4, b5, b6, b7, b8, b9, b10, b11⟩ := e.cells; have fz := e.free; clear e
    refine hK.out _ _ (kx_call HK.out (fun _ h => h.2.2.2.2.2.2.2) hg hb hHeld) (fun hHeld2 => ?_)
    clear hK K hHeld
    have hHeld := hHeld2
    clear hHeld2
    (try simp only [Act.put, jA, jB, jC])
    refine wpAnyH_ready (rs := [4]) (by kernel_rfl) (by simp) ?_
    refine (AllReadyH.cons rfl (fun K hK => ?_) AllReadyH.nil)
    go_simp
    refine hK.out _ _ (hHeld) (fun hHeld2 => ?_)
    clear hK K hHeld
    have hHeld := hHeld2
    clear hHeld2
    (try simp only [Act.put, jA, jB, jC])
    refine wpAnyH_ready (rs := [25]) (by kernel_rfl) (by simp) ?_
    refine (AllReadyH.cons rfl (fun K hK => ?_) AllReadyH.nil)
    go_simp
    refine (store_new A l.length c l _ v _ (HA.out.after Z1.out).rd rfl HS.out).mono ?_
    rintro e w2 ⟨k, rfl, hk0, hk, hb2⟩
    go_wp2_with fail
    have HLO := Lib.hid (Nat.le_trans hlo (Nat.le_trans Z1.out.size hk0))
    have HKK := Lib.hid hk
    have z2 := keep_call (w2 := w) hb2 Z1.out
    have Z2 := Lib.hid z2
    have e := HB.out.after z2; obtain ⟨b0, b1, b2, b3, b4, b5, b6, b7, b8, b9, b10, b11⟩ := e.cells; have fz := e.free; clear e
    clear hk hk0
    refine hK.out _ _ (kx_call HK.out (fun _ h => h.2.2.2.2.2.2.2) hg hb2 hHeld) (fun hHeld2 => ?_)
    clear hK K hHeld
    have hHeld := hHeld2
    clear hHeld2
    (try simp only [Act.put, jA, jB, jC])
    refine tkH 26 (v := ?va26) rfl ?ya26 ?ra26
    case ya26 => (intro w hSw; (try dsimp only at hSw); go_simp; (try with_reducible rfl))
    (try simp only [Act.put, jA, jB, jC])
    refine tkH 27 (v := ?va27) rfl ?ya27 ?ra27
    case ya27 => (intro w hSw; (try dsimp only at hSw); go_simp; (try with_reducible rfl))
    (try simp only [Act.put, jA, jB, jC])
    refine wpAnyH_ready (rs := [28]) (by kernel_rfl) (by simp) ?_
    refine (AllReadyH.cons rfl (fun K hK => ?_) AllReadyH.nil)
    go_simp
    refine hK.out _ _ (kx_set HK.out (fun _ h => h.2.2.2.2.2.2.2) _ hHeld) (fun hHeld2 => ?_)
    clear hK K hHeld
    have hHeld := hHeld2
    clear hHeld2
    (try simp only [Act.put, jA, jB, jC])
    refine wpAnyH_done (by kernel_rfl) ?_ _
    go_wp2
    refine bodyPost_ret (by simp [results, Tryz.results125, go_sem]; try rfl) rfl ?_
    have e := HB.out.after Z2.out
    refine ⟨some ⟨k, 0, none⟩, l.length, rfl, ?_, ((HKK.out.rx (HKK.out.ne_box e) HLO.out).set rfl _).set rfl _, ((Z2.out.mono (Nat.le_of_lt hg)).setCell (Nat.le_refl _) _).setCell (Nat.le_refl _) _⟩
    rw [len_put]
    exact (e.setM _).setPc _
set_option maxHeartbeats 2000000 in
theorem storeBottom_any (lo g : Nat) (f : Fr) (W D J S : Int) (A : Option Addr) (c : Nat) (l : List Int) (w : World) (hB : Bp w g f W D J S (.slice A l.length c)) (hA : Rx lo g w A l) (hlo : lo ≤ w.heap.size) (hs : l.length ≤ 500) :
    Calls Tryz.prog 126 #[.pointer (some ⟨g, 0, none⟩)] w (Lv lo w g (ed f 1 f.val) W D J S (put l (ow W D J S f.who 1) ((f.x + 1) % 18446744073709551616))) := by
  have HB := Lib.hid hB
  have HA := Lib.hid hA
  have HS := Lib.hid hs
  clear hB hA hs
  obtain ⟨o, p, q, v, x, y, s⟩ := f
  have e := HB.out
  obtain ⟨a0, a1, a2, a3, a4, a5, a6, a7, a8, a9, a10, a11⟩ := e.cells
  have fz := e.free
  have hg := e.lt
  have zr := Below.refl w.heap.size w
  have HK := Lib.hid (show ∀ x', Kx g 11 w x' → (fun w' => w'.cell? ⟨g, 2, none⟩ = some (.int .i64 q) ∧ w'.cell? ⟨g, 4, none⟩ = some (.int .u64 x) ∧ w'.cell? ⟨g, 7, none⟩ = some (.int .i64 W) ∧ w'.cell? ⟨g, 8, none⟩ = some (.int .i64 D) ∧ w'.cell? ⟨g, 9, none⟩ = some (.int .i64 J) ∧ w'.cell? ⟨g, 10, none⟩ = some (.int .i64 S) ∧ Kx g 11 w w') x' from fun x' hx =>
    ⟨(hx.cells 2 (by decide)).trans a2, (hx.cells 4 (by decide)).trans a4, (hx.cells 7 (by decide)).trans a7, (hx.cells 8 (by decide)).trans a8, (hx.cells 9 (by decide)).trans a9, (hx.cells 10 (by decide)).trans a10, hx⟩)
  have hHeld0 := HK.out _ (Kx.refl g 11 w)
  have hT : IntKind.u64.wrap (x + 1) = (x + 1) % 18446744073709551616 := IntKind.wrap_u64 _
  clear e
  show Calls _ _ _ _ (Lv lo w g (ed ⟨o, p, q, v, x, y, s⟩ 1 v) W D J S (put l (ow W D J S q 1) ((x + 1) % 18446744073709551616)))
  generalize (x + 1) % 18446744073709551616 = T at hT ⊢
  go_enter Tryz.func126, Tryz.ntmps126
  go_wp2_with fail
  refine wp_region_held_drew (S := fun w' => w'.cell? ⟨g, 2, none⟩ = some (.int .i64 q) ∧ w'.cell? ⟨g, 4, none⟩ = some (.int .u64 x) ∧ w'.cell? ⟨g, 7, none⟩ = some (.int .i64 W) ∧ w'.cell? ⟨g, 8, none⟩ = some (.int .i64 D) ∧ w'.cell? ⟨g, 9, none⟩ = some (.int .i64 J) ∧ w'.cell? ⟨g, 10, none⟩ = some (.int .i64 S) ∧ Kx g 11 w w') (by kernel_rfl) (kx_drew HK.out (fun _ h => h.2.2.2.2.2.2) hHeld0) (fun hHeld => ?_)
  refine tkH 0 (v := ?vb1) rfl ?yb1 ?rb1
  case yb1 => (intro w hSw; (try dsimp only at hSw); go_simp; (try with_reducible rfl))
  (try simp only [Act.put, jA, jB, jC])
  refine tkH 1 (v := ?vb2) rfl ?yb2 ?rb2
  case yb2 => (intro w hSw; (try dsimp only at hSw); go_simp; (try with_reducible rfl))
  (try simp only [Act.put, jA, jB, jC])
  refine tkH 2 (v := ?vb3) rfl ?yb3 ?rb3
  case yb3 => (intro w hSw; (try dsimp only at hSw); go_simp; (try with_reducible rfl))
  (try simp only [Act.put, jA, jB, jC])
  refine tkH 3 (v := ?vb4) rfl ?yb4 ?rb4
  case yb4 => (intro w hSw; (try dsimp only at hSw); go_simp; (try with_reducible rfl))
  (try simp only [Act.put, jA, jB, jC])
  refine tkH 5 (v := ?vb5) rfl ?yb5 ?rb5
  case yb5 => (intro w hSw; (try dsimp only at hSw); go_simp; (try with_reducible rfl))
  (try simp only [Act.put, jA, jB, jC])
  refine tkH 6 (v := ?vb6) rfl ?yb6 ?rb6
  case yb6 => (intro w hSw; (try dsimp only at hSw); go_simp; (try with_reducible rfl))
  (try simp only [Act.put, jA, jB, jC])
  refine tkH 7 (v := ?vb7) rfl ?yb7 ?rb7
  case yb7 => (intro w hSw; (try dsimp only at hSw); go_simp; (try with_reducible rfl))
  (try simp only [Act.put, jA, jB, jC])
  refine tkH 8 (v := ?vb8) rfl ?yb8 ?rb8
  case yb8 => (intro w hSw; (try dsimp only at hSw); go_simp; (try with_reducible rfl))
  (try simp only [Act.put, jA, jB, jC])
  refine tkH 9 (v := ?vb9) rfl ?yb9 ?rb9
  case yb9 => (intro w hSw; (try dsimp only at hSw); go_simp; (try with_reducible rfl))
  (try simp only [Act.put, jA, jB, jC])
  refine tkH 10 (v := ?vb10) rfl ?yb10 ?rb10
  case yb10 => (intro w hSw; (try dsimp only at hSw); go_simp; (try with_reducible rfl))
  (try simp only [Act.put, jA, jB, jC])
  refine tkH 11 (v := ?vb11) rfl ?yb11 ?rb11
  case yb11 => (intro w hSw; (try dsimp only at hSw); go_simp; (try with_reducible rfl))
  (try simp only [Act.put, jA, jB, jC])
  refine tkH 12 (v := ?vb12) rfl ?yb12 ?rb12
  case yb12 => (intro w hSw; (try dsimp only at hSw); go_simp; (try with_reducible rfl))
  (try simp only [Act.put, jA, jB, jC])
  refine tkH 13 (v := ?vb13) rfl ?yb13 ?rb13
  case yb13 => (intro w hSw; (try dsimp only at hSw); go_simp; (try with_reducible rfl))
  (try simp only [Act.put, jA, jB, jC])
  refine tkH 15 (v := ?vb14) rfl ?yb14 ?rb14
  case yb14 => (intro w hSw; (try dsimp only at hSw); go_simp; (try with_reducible rfl))
  (try simp only [Act.put, jA, jB, jC])
  refine tkH 16 (v := ?vb15) rfl ?yb15 ?rb15
  case yb15 => (intro w hSw; (try dsimp only at hSw); go_simp; (try with_reducible rfl))
  (try simp only [Act.put, jA, jB, jC])
  refine tkH 17 (v := ?vb16) rfl ?yb16 ?rb16
  case yb16 => (intro w hSw; (try dsimp only at hSw); go_simp; (try with_reducible rfl))
  (try simp only [Act.put, jA, jB, jC])
  refine tkH 18 (v := ?vb17) rfl ?yb17 ?rb17
  case yb17 => (intro w hSw; (try dsimp only at hSw); go_simp; (try with_reducible rfl))
  (try simp only [Act.put, jA, jB, jC])
  refine tkH 19 (v := ?vb18) rfl ?yb18 ?rb18
  case yb18 => (intro w hSw; (try dsimp only at hSw); go_simp; (try with_reducible rfl))
  (try simp only [Act.put, jA, jB, jC])
  refine tkH 20 (v := ?vb19) rfl ?yb19 ?rb19
  case yb19 => (intro w hSw; (try dsimp only at hSw); go_simp; (try with_reducible rfl))
  (try simp only [Act.put, jA, jB, jC])
  refine wpAnyH_ready (rs := [4, 14]) (by kernel_rfl) (by simp) ?_
  refine (AllReadyH.cons rfl (fun K hK => ?_) (AllReadyH.cons rfl (fun K hK => ?_) AllReadyH.nil))
  · go_simp
    refine hK.out _ _ (hHeld) (fun hHeld2 => ?_)
    clear hK K hHeld
    have hHeld := hHeld2
    clear hHeld2
    (try simp only [Act.put, jA, jB, jC])
    refine wpAnyH_ready (rs := [14]) (by kernel_rfl) (by simp) ?_
    refine (AllReadyH.cons rfl (fun K hK => ?_) AllReadyH.nil)
    go_simp
    refine (bottom_any W D J S q _).mono ?_
    rintro e w1 ⟨rfl, hb⟩
    go_wp2_with fail
    have z1 := keep_call (w2 := w) hb zr.drew
    have Z1 := Lib.hid z1
    have e := HB.out.after z1; obtain ⟨b0, b1, b2, b3, b4, b5, b6, b7, b8, b9, b10, b11⟩ := e.cells; have fz := e.free; clear e
    refine hK.out _ _ (kx_call HK.out (fun _ h => h.2.2.2.2.2.2) hg hb hHeld) (fun hHeld2 => ?_)
    clear hK K hHeld
    have hHeld := hHeld2
    clear hHeld2
    (try simp only [Act.put, jA, jB, jC])
    refine wpAnyH_ready (rs := [21]) (by kernel_rfl) (by simp) ?_
    refine (AllReadyH.cons rfl (fun K hK => ?_) AllReadyH.nil)
    go_simp
    refine (store_new A l.length c l _ T _ (HA.out.after Z1.out).rd rfl HS.out).mono ?_
    rintro e w2 ⟨k, rfl, hk0, hk, hb2⟩
    go_wp2_with fail
    have HLO := Lib.hid (Nat.le_trans hlo (Nat.le_trans Z1.out.size hk0))
    have HKK := Lib.hid hk
    have z2 := keep_call (w2 := w) hb2 Z1.out
    have Z2 := Lib.hid z2
    have e := HB.out.after z2; obtain ⟨b0, b1, b2, b3, b4, b5, b6, b7, b8, b9, b10, b11⟩ := e.cells; have fz := e.free; clear e
    clear hk hk0
    refine hK.out _ _ (kx_call HK.out (fun _ h => h.2.2.2.2.2.2) hg hb2 hHeld) (fun hHeld2 => ?_)
    clear hK K hHeld
    have hHeld := hHeld2
    clear hHeld2
    (try simp only [Act.put, jA, jB, jC])
    refine tkH 22 (v := ?vb20) rfl ?yb20 ?rb20
    case yb20 => (intro w hSw; (try dsimp only at hSw); go_simp; (try with_reducible rfl))
    (try simp only [Act.put, jA, jB, jC])
    refine tkH 23 (v := ?vb21) rfl ?yb21 ?rb21
    case yb21 => (intro w hSw; (try dsimp only at hSw); go_simp; (try with_reducible rfl))
    (try simp only [Act.put, jA, jB, jC])
    refine wpAnyH_ready (rs := [24]) (by kernel_rfl) (by simp) ?_
    refine (AllReadyH.cons rfl (fun K hK => ?_) AllReadyH.nil)
    go_simp
    refine hK.out _ _ (kx_set HK.out (fun _ h => h.2.2.2.2.2.2) _ hHeld) (fun hHeld2 => ?_)
    clear hK K hHeld
    have hHeld := hHeld2
    clear hHeld2
    (try simp only [Act.put, jA, jB, jC])
    refine wpAnyH_done (by kernel_rfl) ?_ _
    go_wp2_with fail
    have e := HB.out.after Z2.out
    have e2 : Bp (w2.setCell ⟨g, 11, none⟩ (.slice (some ⟨k, 0, none⟩) l.length l.length)) g ⟨o, p, q, v, x, y, s⟩ W D J S (.slice (some ⟨k, 0, none⟩) (put l (ow W D J S q 1) T).length l.length) := by rw [len_put]; exact e.setM _
    refine (pend_any lo g ⟨o, p, q, v, x, y, s⟩ W D J S 1 _ _ (put l (ow W D J S q 1) T) _ e2 ((HKK.out.rx (HKK.out.ne_box e) HLO.out).set rfl _)).mono ?_
    rintro _ w5 ⟨A', c', rfl, hb, ha, hbe⟩
    go_wp2
    refine bodyPost_ret (by simp [results, Tryz.results126, go_sem]; try rfl) rfl ?_
    exact ⟨A', c', rfl, hb, ha, ((Z2.out.mono (Nat.le_of_lt hg)).setCell (Nat.le_refl _) _).trans hbe⟩
  · go_simp
    refine (bottom_any W D J S q _).mono ?_
    rintro e w1 ⟨rfl, hb⟩
    go_wp2_with fail
    have z1 := keep_call (w2 := w) hb zr.drew
    have Z1 := Lib.hid z1
    have e := HB.out.after z1; obtain ⟨b0, b1, b2, b3, b4, b5, b6, b7, b8, b9, b10, b11⟩ := e.cells; have fz := e.free; clear e
    refine hK.out _ _ (kx_call HK.out (fun _ h => h.2.2.2.2.2.2) hg hb hHeld) (fun hHeld2 => ?_)
    clear hK K hHeld
    have hHeld := hHeld2
    clear hHeld2
    (try simp only [Act.put, jA, jB, jC])
    refine wpAnyH_ready (rs := [4]) (by kernel_rfl) (by simp) ?_
    refine (AllReadyH.cons rfl (fun K hK => ?_) AllReadyH.nil)
    go_simp
    refine hK.out _ _ (hHeld) (fun hHeld2 => ?_)
    clear hK K hHeld
    have hHeld := hHeld2
    clear hHeld2
    (try simp only [Act.put, jA, jB, jC])
    refine wpAnyH_ready (rs := [21]) (by kernel_rfl) (by simp) ?_
    refine (AllReadyH.cons rfl (fun K hK => ?_) AllReadyH.nil)
    go_simp
    refine (store_new A l.length c l _ T _ (HA.out.after Z1.out).rd rfl HS.out).mono ?_
    rintro e w2 ⟨k, rfl, hk0, hk, hb2⟩
    go_wp2_with fail
    have HLO := Lib.hid (Nat.le_trans hlo (Nat.le_trans Z1.out.size hk0))
    have HKK := Lib.hid hk
    have z2 := keep_call (w2 := w) hb2 Z1.out
    have Z2 := Lib.hid z2
    have e := HB.out.after z2; obtain ⟨b0, b1, b2, b3, b4, b5, b6, b7, b8, b9, b10, b11⟩ := e.cells; have fz := e.free; clear e
    clear hk hk0
    refine hK.out _ _ (kx_call HK.out (fun _ h => h.2.2.2.2.2.2) hg hb2 hHeld) (fun hHeld2 => ?_)
    clear hK K hHeld
    have hHeld := hHeld2
    clear hHeld2
    (try simp only [Act.put, jA, jB, jC])
    refine tkH 22 (v := ?vb22) rfl ?yb22 ?rb22
    case yb22 => (intro w hSw; (try dsimp only at hSw); go_simp; (try with_reducible rfl))
    (try simp only [Act.put, jA, jB, jC])
    refine tkH 23 (v := ?vb23) rfl ?yb23 ?rb23
    case yb23 => (intro w hSw; (try dsimp only at hSw); go_simp; (try with_reducible rfl))
    (try simp only [Act.put, jA, jB, jC])
    refine wpAnyH_ready (rs := [24]) (by kernel_rfl) (by simp) ?_
    refine (AllReadyH.cons rfl (fun K hK => ?_) AllReadyH.nil)
    go_simp
    refine hK.out _ _ (kx_set HK.out (fun _ h => h.2.2.2.2.2.2) _ hHeld) (fun hHeld2 => ?_)
    clear hK K hHeld
    have hHeld := hHeld2
    clear hHeld2
    (try simp only [Act.put, jA, jB, jC])
    refine wpAnyH_done (by kernel_rfl) ?_ _
    go_wp2_with fail
    have e := HB.out.after Z2.out
    have e2 : Bp (w2.setCell ⟨g, 11, none⟩ (.slice (some ⟨k, 0, none⟩) l.length l.length)) g ⟨o, p, q, v, x, y, s⟩ W D J S (.slice (some ⟨k, 0, none⟩) (put l (ow W D J S q 1) T).length l.length) := by rw [len_put]; exact e.setM _
    refine (pend_any lo g ⟨o, p, q, v, x, y, s⟩ W D J S 1 _ _ (put l (ow W D J S q 1) T) _ e2 ((HKK.out.rx (HKK.out.ne_box e) HLO.out).set rfl _)).mono ?_
    rintro _ w5 ⟨A', c', rfl, hb, ha, hbe⟩
    go_wp2
    refine bodyPost_ret (by simp [results, Tryz.results126, go_sem]; try rfl) rfl ?_
    exact ⟨A', c', rfl, hb, ha, ((Z2.out.mono (Nat.le_of_lt hg)).setCell (Nat.le_refl _) _).trans hbe⟩
end Go.Proofs.YtlpkccpijloidaaGreat
