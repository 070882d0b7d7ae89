/- The walk of DeqOrder. -/
import Derived.Test.YtelelhjgejnpcaaCuL
import Derived.Deep.QuietTactic
import Derived.BigQuiet
namespace Go.Proofs.Ytelelhjgejnpcaa
open Go.RowKit Go.Deep
theorem order_in {W D J S : Int} {M : List Int} {u : Int} {L : List Int} (hk : okm W D J S M = true) (hu : UM M) (hv : U u) (hi : Vi J M 0 L) (hl : (L.length : Int) < J) :
    ∃ M5, itN (enqS W D J S) 9 (M, fbg 3 0 u) = (M5, ⟨3, 0, 0, u, 0, 0, 1⟩) ∧ okm W D J S M5 = true ∧ UM M5 ∧ M5.length = M.length ∧ Vi J M5 0 (L ++ [u]) := by
  obtain ⟨M5, h1, h2, h3⟩ := enq_alone (w := 0) (v := u) hk hi
  have eo : on L J (fbg 3 0 u) = (L ++ [u], ⟨3, 0, 0, u, 0, 0, 1⟩) := by
    rw [show on L J (fbg 3 0 u) = onPut L J (fbg 3 0 u) by simp [on, fbg], onPut, if_neg (by omega)]; rfl
  rw [eo] at h1 h3
  have h4 := (enqN_U (W := W) (D := D) (J := J) (S := S) (s := (M, fbg 3 0 u)) hu ⟨hv, U0, U0⟩ 9).1
  have h5 := enqN_len W D J S 9 (M, fbg 3 0 u)
  rw [h1] at h4 h5
  exact ⟨M5, h1, h2, h4, h5, h3⟩
theorem order_full {W D J S : Int} {M : List Int} {u : Int} {L : List Int} (hk : okm W D J S M = true) (hu : UM M) (hv : U u) (hi : Vi J M 0 L) (hl : (L.length : Int) = J) :
    ∃ M5, itN (enqS W D J S) 9 (M, fbg 3 0 u) = (M5, ⟨3, 0, 0, u, 0, 0, 2⟩) ∧ okm W D J S M5 = true ∧ UM M5 ∧ M5.length = M.length ∧ Vi J M5 0 L := by
  obtain ⟨M5, h1, h2, h3⟩ := enq_alone (w := 0) (v := u) hk hi
  have eo : on L J (fbg 3 0 u) = (L, ⟨3, 0, 0, u, 0, 0, 2⟩) := by
    rw [show on L J (fbg 3 0 u) = onPut L J (fbg 3 0 u) by simp [on, fbg], onPut, if_pos (by omega)]; rfl
  rw [eo] at h1 h3
  have h4 := (enqN_U (W := W) (D := D) (J := J) (S := S) (s := (M, fbg 3 0 u)) hu ⟨hv, U0, U0⟩ 9).1
  have h5 := enqN_len W D J S 9 (M, fbg 3 0 u)
  rw [h1] at h4 h5
  exact ⟨M5, h1, h2, h4, h5, h3⟩
theorem order_out {W D J S : Int} {M : List Int} {u h : Int} {L : List Int} (hk : okm W D J S M = true) (hu : UM M) (hi : Vi J M h (u :: L)) (hh : h < 4611686018427387903) :
    ∃ M5 h', itN (outS W D J S) 9 (M, fbg 4 0 0) = (M5, ⟨4, 0, 0, u, 0, 0, 1⟩) ∧ okm W D J S M5 = true ∧ UM M5 ∧ M5.length = M.length ∧ Vi J M5 h' L ∧ h' ≤ h + 1 := by
  obtain ⟨M5, h', h1, h2, h3, h6⟩ := out_alone (w := 0) (v := 0) hk hi hh
  have eo : on (u :: L) J (fbg 4 0 0) = (L, ⟨4, 0, 0, u, 0, 0, 1⟩) := by
    rw [show on (u :: L) J (fbg 4 0 0) = onFirst (u :: L) (fbg 4 0 0) by simp [on, fbg]]; rfl
  rw [eo] at h1 h3
  have h4 := (outN_U (W := W) (D := D) (J := J) (S := S) (s := (M, fbg 4 0 0)) hu ⟨U0, U0, U0⟩ 9).1
  have h5 := outN_len W D J S 9 (M, fbg 4 0 0)
  rw [h1] at h4 h5
  exact ⟨M5, h', h1, h2, h4, h5, h3, h6⟩
theorem order_nil {W D J S : Int} {M : List Int} {h : Int} (hk : okm W D J S M = true) (hi : Vi J M h []) (hh : h < 4611686018427387903) :
    ∃ M5, itN (outS W D J S) 9 (M, fbg 4 0 0) = (M5, ⟨4, 0, 0, 0, 0, 0, 3⟩) := by
  obtain ⟨M5, h', h1, _⟩ := out_alone (w := 0) (v := 0) hk hi hh
  have eo : on [] J (fbg 4 0 0) = ([], ⟨4, 0, 0, 0, 0, 0, 3⟩) := by
    rw [show on [] J (fbg 4 0 0) = onFirst [] (fbg 4 0 0) by simp [on, fbg]]; rfl
  rw [eo] at h1
  exact ⟨M5, h1⟩
theorem order_no (W D J S : Int) (B : Option Addr) (k e : Nat) (w : World) (hm : may W D J S = false) : Tells 5 #[cf W D J S, .slice B k e] w (.bool true) := by
  have HM := Lib.hid hm
  clear hm
  go_enter Try.func5, Try.ntmps5
  go_wp2_with fail
  refine (awake_any _).mono ?_
  rintro _ w1 ⟨rfl, z⟩
  have BX := Lib.hid ((Bx.mk w W D J S 23).below z)
  have hz0 := (box_below w _).trans (z.mono (by simp))
  have Z := Lib.hid hz0
  clear z hz0
  obtain ⟨gx, x_0, x_1, x_2, x_3⟩ := BX.out
  go_wp2_with fail
  refine (Tells.of (may_any W D J S _) (v' := .bool false) (by rw [HM.out])).mono ?_
  rintro _ w2 ⟨rfl, z⟩
  clear gx x_0 x_1 x_2 x_3
  replace Z := Lib.hid (Z.out.trans (z.mono Z.out.size))
  replace BX := Lib.hid (BX.out.below z)
  clear z
  go_wp2
  go_ret
  exact ⟨rfl, Z.out⟩
theorem order_big (W D J S : Int) (B : Option Addr) (k e : Nat) (w : World) (hm : may W D J S = true) (hk : 40 < k) : Tells 5 #[cf W D J S, .slice B k e] w (.bool true) := by
  have HM := Lib.hid hm
  clear hm
  have hd : decide ((40 : Int) < (k : Int)) = true := decide_eq_true (by omega)
  go_enter Try.func5, Try.ntmps5
  go_wp2_with fail
  refine (awake_any _).mono ?_
  rintro _ w1 ⟨rfl, z⟩
  have BX := Lib.hid ((Bx.mk w W D J S 23).below z)
  have hz0 := (box_below w _).trans (z.mono (by simp))
  have Z := Lib.hid hz0
  clear z hz0
  obtain ⟨gx, x_0, x_1, x_2, x_3⟩ := BX.out
  go_wp2_with fail
  refine (Tells.of (may_any W D J S _) (v' := .bool true) (by rw [HM.out])).mono ?_
  rintro _ w2 ⟨rfl, z⟩
  clear gx x_0 x_1 x_2 x_3
  replace Z := Lib.hid (Z.out.trans (z.mono Z.out.size))
  replace BX := Lib.hid (BX.out.below z)
  clear z
  go_wp2
  go_ret
  exact ⟨rfl, Z.out⟩
set_option maxRecDepth 100000 in
set_option maxHeartbeats 2000000 in
theorem order_main (W D J S : Int) (B : Option Addr) (k e : Nat) (w : World) (l : List Int) (hl : Rd w B l) (hlk : l.length = k) (hul : UM l) (hm : may W D J S = true) (hk : k ≤ 40) : Tells 5 #[cf W D J S, .slice B k e] w (.bool true) := by
  obtain ⟨hW, hD, hJ, hS⟩ := may_lim hm
  have hlim := sz_lim W D J S
  obtain ⟨n, hN⟩ := Int.eq_ofNat_of_zero_le hlim.1
  have hN2 : n ≤ 190 := by omega
  have hs : n ≤ 500 := by omega
  have hk0 : okm W D J S (List.replicate n 0) = true := by unfold okm; rw [hm]; simp [hN]
  have hd : decide ((40 : Int) < (k : Int)) = false := decide_eq_false (by omega)
  have HVN := Lib.hid (show Vi J (List.replicate n 0) 0 (l.take 0) from by simpa using Vi.new hm n)
  have HM := Lib.hid hm
  have HNN := Lib.hid hN
  have HN2 := Lib.hid hN2
  have HK0 := Lib.hid hk0
  have HJ := Lib.hid hJ
  have HS := Lib.hid hs
  have HLK := Lib.hid hlk
  have HUL := Lib.hid hul
  have LB0 := Lib.hid hl
  have HK40 := Lib.hid hk
  clear hW hD hS hlim hN hm hk0 hN2 hs hlk hul hl hJ hk
  go_enter Try.func5, Try.ntmps5
  go_wp2_with fail
  refine (awake_any _).mono ?_
  rintro _ w1 ⟨rfl, z⟩
  have BX := Lib.hid ((Bx.mk w W D J S 23).below z)
  have hz0 := (box_below w _).trans (z.mono (by simp))
  have Z := Lib.hid hz0
  have LB := Lib.hid (LB0.out.below hz0)
  clear z hz0 LB0
  obtain ⟨gx, x_0, x_1, x_2, x_3⟩ := BX.out
  go_wp2_with fail
  refine (Tells.of (may_any W D J S _) (v' := .bool true) (by rw [HM.out])).mono ?_
  rintro _ w2 ⟨rfl, z⟩
  clear gx x_0 x_1 x_2 x_3
  replace Z := Lib.hid (Z.out.trans (z.mono Z.out.size))
  replace BX := Lib.hid (BX.out.below z)
  replace LB := Lib.hid (LB.out.below z)
  clear z
  obtain ⟨gx, x_0, x_1, x_2, x_3⟩ := BX.out
  go_wp2_with fail
  refine (new_at W D J S n _ HNN.out HN2.out).mono ?_
  rintro _ w3 ⟨A3, c3, rfl, hr3, z⟩
  clear gx x_0 x_1 x_2 x_3
  replace Z := Lib.hid (Z.out.trans (z.mono Z.out.size))
  replace BX := Lib.hid (BX.out.below z)
  replace LB := Lib.hid (LB.out.below z)
  have LM := Lib.hid hr3
  clear hr3 z hd
  have HZ3 := Lib.hid Z.out.size
  go_wp2
  go_loopw [8, 6, 7] (fun i s cn wr => ∃ (j : Nat) (A : Option Addr) (c : Nat) (M : List Int) (C : Int), i = .int .i64 j ∧ s = .slice A n c ∧ cn = .int .i64 C ∧ j ≤ k ∧ Hid (C = ((min j J.toNat : Nat) : Int)) ∧ Hid (Rd wr A M) ∧ Hid (M.length = n) ∧ Hid (UM M) ∧ Hid (okm W D J S M = true) ∧ Hid (Vi J M 0 (l.take (min j J.toNat))) ∧ Hid (Below w3.heap.size w3 wr)) (fun i _ _ _ => k - (intOf i).toNat)
  case atStart =>
    exact ⟨0, A3, c3, List.replicate n 0, 0, rfl, rfl, rfl, by omega, Lib.hid (by simp), LM, Lib.hid (by simp), Lib.hid (fun u hu => by rw [List.eq_of_mem_replicate hu]; exact U0), HK0, Lib.hid (by simpa using HVN.out), Lib.hid (Below.refl _ _)⟩
  case round =>
    clear LM HVN
    obtain ⟨j, A, c, M, C, rfl, rfl, rfl, hj, HC, LM, HL, HUM, HOK, HVI, KZ⟩ := hrel
    obtain ⟨wq, hwq⟩ : ∃ wq, wq = wr := ⟨_, rfl⟩
    subst hwq
    replace BX := Lib.hid (BX.out.below KZ.out)
    replace Z := Lib.hid (Z.out.trans (KZ.out.mono HZ3.out))
    replace LB := Lib.hid (LB.out.below KZ.out)
    by_cases hlt : j < k
    · have hjl : j < l.length := by rw [HLK.out]; exact hlt
      obtain ⟨bd, hBd, bl, bc⟩ := LB.out (by omega)
      subst hBd
      have uc := bc j _ (List.getElem?_eq_getElem hjl)
      have huu : U l[j] := HUL.out _ (List.getElem_mem hjl)
      have htk : l.take (j + 1) = l.take j ++ [l[j]] := by rw [List.take_add_one, List.getElem?_eq_getElem hjl]; rfl
      have HTK := Lib.hid htk
      generalize l[j] = u at uc huu HTK
      have HUU := Lib.hid huu
      have HBL := Lib.hid bl
      have hjk : (j : Int) < (k : Int) := by omega
      have htl : (l.take (min j J.toNat)).length = min j J.toNat := by rw [List.length_take]; omega
      have HTL := Lib.hid htl
      clear bc bl huu htk htl hjl
      have hj40 : (j : Int) < 40 := by have := HK40.out; omega
      by_cases hjJ : (j : Int) < J
      · obtain ⟨M5, hend, hok5, hum5, hl5, hvi5⟩ := order_in (u := u) HOK.out HUM.out HUU.out HVI.out (by rw [HTL.out]; omega)
        have HVI5 := Lib.hid (show Vi J M5 0 (l.take (min (j + 1) J.toNat)) by rw [show min (j + 1) J.toNat = j + 1 by omega, HTK.out]; rw [show min j J.toNat = j by omega] at hvi5; exact hvi5)
        have hw1 : IntKind.i64.wrap (C + 1) = C + 1 := by have := HC.out; have := HK40.out; rw [IntKind.wrap_i64]; omega
        have HC5 := Lib.hid (show C + 1 = ((min (j + 1) J.toNat : Nat) : Int) by have := HC.out; omega)
        have HEND := Lib.hid hend
        have HOK5 := Lib.hid hok5
        have HUM5 := Lib.hid hum5
        have HL5 := Lib.hid (hl5.trans HL.out)
        clear hend hok5 hum5 hl5 hvi5
        obtain ⟨gx, x_0, x_1, x_2, x_3⟩ := BX.out
        go_wp2_with fail
        go_cut [9, 10] from 32 to 62 (fun x t wz => Hid (Cu wq n M5 ⟨3, 0, 0, u, 0, 0, 1⟩ x t wz))
        case first =>
          have HKc := Lib.hid (show ∀ x', Below wq.heap.size wq x' → (fun w' => w'.cell? ⟨w.heap.size, 0, none⟩ = some (.int .i64 W) ∧ w'.cell? ⟨w.heap.size, 1, none⟩ = some (.int .i64 D) ∧ w'.cell? ⟨w.heap.size, 2, none⟩ = some (.int .i64 J) ∧ w'.cell? ⟨w.heap.size, 3, none⟩ = some (.int .i64 S) ∧ w'.cell? (bd.add j) = some (.int .u64 u) ∧ Below wq.heap.size wq w') x' from fun x' hx => by
            obtain ⟨_, e0, e1, e2, e3⟩ := BX.out.below hx
            exact ⟨e0, e1, e2, e3, (hx.cell (p := bd.add j) (by rw [block_add]; exact HBL.out)).trans uc, hx⟩)
          have hHeld0 := HKc.out _ (Below.refl _ _)
          have ZC := Lib.hid (Below.refl wq.heap.size wq).drew
          clear gx x_0 x_1 x_2 x_3
          refine wp_region_held_drew (S := fun w' => w'.cell? ⟨w.heap.size, 0, none⟩ = some (.int .i64 W) ∧ w'.cell? ⟨w.heap.size, 1, none⟩ = some (.int .i64 D) ∧ w'.cell? ⟨w.heap.size, 2, none⟩ = some (.int .i64 J) ∧ w'.cell? ⟨w.heap.size, 3, none⟩ = some (.int .i64 S) ∧ w'.cell? (bd.add j) = some (.int .u64 u) ∧ Below wq.heap.size wq w') (by kernel_rfl) (hd_drew HKc.out (fun _ h => h.2.2.2.2.2) hHeld0) (fun hHeld => ?_)
          refine wpAnyH_take (i := 0) (oi := { dst := some 39, op := Go.Op.load 23 (Go.Operand.tmp 2), type := 23, pos := "law.go:83", after := #[], guard := none }) (v := ?vqb1) rfl (by kernel_rfl) (by kernel_rfl) (by kernel_rfl) (fun _ _ _ h => h) (Or.inl ⟨by rfl, ?yqb1⟩) (by assumption) ?rqb1
          case yqb1 => (intro w hSw; (try dsimp only at hSw); go_simp; (try with_reducible rfl))
          (try simp only [Act.put, List.setIfInBounds_toArray, List.set_cons_zero, List.set_cons_succ])
          refine wpAnyH_take (i := 1) (oi := { dst := some 40, op := Go.Op.move (Go.Operand.tmp 6), type := 25, pos := "law.go:83", after := #[], guard := none }) (v := ?vqb2) rfl (by kernel_rfl) (by kernel_rfl) (by kernel_rfl) (fun _ _ _ h => h) (Or.inl ⟨by rfl, ?yqb2⟩) (by assumption) ?rqb2
          case yqb2 => (intro w hSw; (try dsimp only at hSw); go_simp; (try with_reducible rfl))
          (try simp only [Act.put, List.setIfInBounds_toArray, List.set_cons_zero, List.set_cons_succ])
          refine wpAnyH_take (i := 2) (oi := { dst := some 41, op := Go.Op.move (Go.Operand.tmp 1), type := 24, pos := "law.go:83", after := #[], guard := none }) (v := ?vqb3) rfl (by kernel_rfl) (by kernel_rfl) (by kernel_rfl) (fun _ _ _ h => h) (Or.inl ⟨by rfl, ?yqb3⟩) (by assumption) ?rqb3
          case yqb3 => (intro w hSw; (try dsimp only at hSw); go_simp; (try with_reducible rfl))
          (try simp only [Act.put, List.setIfInBounds_toArray, List.set_cons_zero, List.set_cons_succ])
          refine wpAnyH_take (i := 3) (oi := { dst := some 42, op := Go.Op.move (Go.Operand.tmp 8), type := 3, pos := "law.go:83", after := #[], guard := none }) (v := ?vqb4) rfl (by kernel_rfl) (by kernel_rfl) (by kernel_rfl) (fun _ _ _ h => h) (Or.inl ⟨by rfl, ?yqb4⟩) (by assumption) ?rqb4
          case yqb4 => (intro w hSw; (try dsimp only at hSw); go_simp; (try with_reducible rfl))
          (try simp only [Act.put, List.setIfInBounds_toArray, List.set_cons_zero, List.set_cons_succ])
          refine wpAnyH_take (i := 4) (oi := { dst := some 43, op := Go.Op.indexAddr 24 (Go.Operand.tmp 41) (Go.Operand.tmp 42), type := 0, pos := "law.go:83", after := #[{ on := 2, ground := Go.Ground.data }, { on := 3, ground := Go.Ground.data }], guard := none }) (v := ?vqb5) rfl (by kernel_rfl) (by kernel_rfl) (by kernel_rfl) (fun _ _ _ h => h) (Or.inl ⟨by rfl, ?yqb5⟩) (by assumption) ?rqb5
          case yqb5 => (intro w hSw; (try dsimp only at hSw); go_simp; (try with_reducible rfl))
          (try simp only [Act.put, List.setIfInBounds_toArray, List.set_cons_zero, List.set_cons_succ])
          refine wpAnyH_take (i := 5) (oi := { dst := some 44, op := Go.Op.load 26 (Go.Operand.tmp 43), type := 26, pos := "law.go:83", after := #[{ on := 4, ground := Go.Ground.data }], guard := none }) (v := ?vqb6) rfl (by kernel_rfl) (by kernel_rfl) (by kernel_rfl) (fun _ _ _ h => h) (Or.inl ⟨by rfl, ?yqb6⟩) (by assumption) ?rqb6
          case yqb6 => (intro w hSw; (try dsimp only at hSw); go_simp; (try with_reducible rfl))
          (try simp only [Act.put, List.setIfInBounds_toArray, List.set_cons_zero, List.set_cons_succ])
          refine wpAnyH_ready (rs := [6, 11]) (by kernel_rfl) (by simp) ?_
          refine (AllReadyH.cons (o := { dst := some 45, op := Go.Op.call { callee := Go.Callee.value (Go.Operand.func 16), args := #[Go.Operand.const (Go.Value.int Go.IntKind.i64 3), Go.Operand.const (Go.Value.int Go.IntKind.i64 0), Go.Operand.tmp 44], argTypes := #[3, 3, 26] }, type := 28, pos := "law.go:83", after := #[{ on := 5, ground := Go.Ground.data }], guard := none }) rfl (fun K hK => ?_) (AllReadyH.cons (o := { dst := some 10, op := Go.Op.alloc 28, type := 0, pos := "law.go:83", after := #[], guard := none }) rfl (fun K hK => ?_) AllReadyH.nil))
          · go_simp
            refine (begin_any 3 0 u _).mono ?_
            rintro e wb ⟨rfl, zb⟩
            go_wp2_with fail
            replace ZC := Lib.hid (keep_call zb ZC.out)
            clear zb
            refine hK.out _ _ (HKc.out _ ZC.out) (fun hHeld2 => ?_)
            clear hK K hHeld
            have hHeld := hHeld2
            clear hHeld2
            (try simp only [Act.put, List.setIfInBounds_toArray, List.set_cons_zero, List.set_cons_succ])
            refine wpAnyH_ready (rs := [7, 11]) (by kernel_rfl) (by simp) ?_
            refine (AllReadyH.cons (o := { dst := some 46, op := Go.Op.call { callee := Go.Callee.value (Go.Operand.func 18), args := #[Go.Operand.tmp 39, Go.Operand.tmp 40, Go.Operand.tmp 45], argTypes := #[23, 25, 28] }, type := 30, pos := "law.go:83", after := #[{ on := 0, ground := Go.Ground.data }, { on := 1, ground := Go.Ground.data }, { on := 6, ground := Go.Ground.data }, { on := 6, ground := Go.Ground.chain }], guard := none }) rfl (fun K hK => ?_) (AllReadyH.cons (o := { dst := some 10, op := Go.Op.alloc 28, type := 0, pos := "law.go:83", after := #[], guard := none }) rfl (fun K hK => ?_) AllReadyH.nil))
            · go_simp
              refine (one_enq (LM.out.below ZC.out) HL.out HS.out HUM.out ⟨HUU.out, U0, U0⟩ rfl HEND.out).mono ?_
              rintro e wo ⟨A9, c9, rfl, hn9, zo⟩
              go_wp2_with fail
              have HN9 := Lib.hid hn9
              replace ZC := Lib.hid (keep_call zo ZC.out)
              clear hn9 zo
              refine hK.out _ _ (HKc.out _ ZC.out) (fun hHeld2 => ?_)
              clear hK K hHeld
              have hHeld := hHeld2
              clear hHeld2
              (try simp only [Act.put, List.setIfInBounds_toArray, List.set_cons_zero, List.set_cons_succ])
              refine wpAnyH_take (i := 8) (oi := { dst := some 38, op := Go.Op.move (Go.Operand.tmp 46), type := 30, pos := "law.go:83", after := #[{ on := 7, ground := Go.Ground.data }], guard := none }) (v := ?vqb7) rfl (by kernel_rfl) (by kernel_rfl) (by kernel_rfl) (fun _ _ _ h => h) (Or.inl ⟨by rfl, ?yqb7⟩) (by assumption) ?rqb7
              case yqb7 => (intro w hSw; (try dsimp only at hSw); go_simp; (try with_reducible rfl))
              (try simp only [Act.put, List.setIfInBounds_toArray, List.set_cons_zero, List.set_cons_succ])
              refine wpAnyH_take (i := 9) (oi := { dst := some 47, op := Go.Op.extract (Go.Operand.tmp 38) 0, type := 25, pos := "law.go:83", after := #[{ on := 8, ground := Go.Ground.data }], guard := none }) (v := ?vqb8) rfl (by kernel_rfl) (by kernel_rfl) (by kernel_rfl) (fun _ _ _ h => h) (Or.inl ⟨by rfl, ?yqb8⟩) (by assumption) ?rqb8
              case yqb8 => (intro w hSw; (try dsimp only at hSw); go_simp; (try with_reducible rfl))
              (try simp only [Act.put, List.setIfInBounds_toArray, List.set_cons_zero, List.set_cons_succ])
              refine wpAnyH_take (i := 10) (oi := { dst := some 48, op := Go.Op.extract (Go.Operand.tmp 38) 1, type := 28, pos := "law.go:83", after := #[{ on := 8, ground := Go.Ground.data }, { on := 12, ground := Go.Ground.gcOnly Go.Departure.lateStores }], guard := none }) (v := ?vqb9) rfl (by kernel_rfl) (by kernel_rfl) (by kernel_rfl) (fun _ _ _ h => h) (Or.inl ⟨by rfl, ?yqb9⟩) (by assumption) ?rqb9
              case yqb9 => (intro w hSw; (try dsimp only at hSw); go_simp; (try with_reducible rfl))
              (try simp only [Act.put, List.setIfInBounds_toArray, List.set_cons_zero, List.set_cons_succ])
              refine wpAnyH_ready (rs := [11]) (by kernel_rfl) (by simp) ?_
              refine (AllReadyH.cons (o := { dst := some 10, op := Go.Op.alloc 28, type := 0, pos := "law.go:83", after := #[], guard := none }) rfl (fun K hK => ?_) AllReadyH.nil)
              go_simp
              have HGS := Lib.hid (show wq.heap.size ≤ wo.heap.size from ZC.out.size)
              have ZO := ZC
              have EO := Lib.hid (show Bf (wo.alloc (.cells #[.int .i64 0, .int .i64 0, .int .i64 0, .int .u64 0, .int .u64 0, .int .u64 0, .int .i64 0] 28)) wo.heap.size f0 from Bf.new wo f0)
              replace ZC := Lib.hid (ZO.out.alloc ZO.out.size (.cells #[.int .i64 0, .int .i64 0, .int .i64 0, .int .u64 0, .int .u64 0, .int .u64 0, .int .i64 0] 28))
              refine hK.out _ _ (HKc.out _ ZC.out) (fun hHeld2 => ?_)
              clear hK K hHeld
              have hHeld := hHeld2
              clear hHeld2
              (try simp only [Act.put, List.setIfInBounds_toArray, List.set_cons_zero, List.set_cons_succ])
              refine wpAnyH_take (i := 12) (oi := { dst := some 9, op := Go.Op.assign (Go.Operand.tmp 47), type := 25, pos := "law.go:83", after := #[{ on := 9, ground := Go.Ground.data }, { on := 7, ground := Go.Ground.chain }, { on := 0, ground := Go.Ground.phase }, { on := 1, ground := Go.Ground.phase }, { on := 2, ground := Go.Ground.phase }, { on := 3, ground := Go.Ground.phase }, { on := 4, ground := Go.Ground.phase }, { on := 5, ground := Go.Ground.phase }, { on := 6, ground := Go.Ground.phase }, { on := 7, ground := Go.Ground.phase }, { on := 8, ground := Go.Ground.phase }, { on := 9, ground := Go.Ground.phase }, { on := 10, ground := Go.Ground.textOnly Go.Departure.lateStores }, { on := 11, ground := Go.Ground.phase }], guard := none }) (v := ?vqb10) rfl (by kernel_rfl) (by kernel_rfl) (by kernel_rfl) (fun _ _ _ h => h) (Or.inl ⟨by rfl, ?yqb10⟩) (by assumption) ?rqb10
              case yqb10 => (intro w hSw; (try dsimp only at hSw); go_simp; (try with_reducible rfl))
              (try simp only [Act.put, List.setIfInBounds_toArray, List.set_cons_zero, List.set_cons_succ])
              refine wpAnyH_ready (rs := [13]) (by kernel_rfl) (by simp) ?_
              refine (AllReadyH.cons (o := { dst := none, op := Go.Op.store 28 (Go.Operand.tmp 10) (Go.Operand.tmp 48), type := 0, pos := "law.go:83", after := #[{ on := 11, ground := Go.Ground.data }, { on := 10, ground := Go.Ground.data }, { on := 12, ground := Go.Ground.chain }, { on := 0, ground := Go.Ground.phase }, { on := 1, ground := Go.Ground.phase }, { on := 2, ground := Go.Ground.phase }, { on := 3, ground := Go.Ground.phase }, { on := 4, ground := Go.Ground.phase }, { on := 5, ground := Go.Ground.phase }, { on := 6, ground := Go.Ground.phase }, { on := 7, ground := Go.Ground.phase }, { on := 8, ground := Go.Ground.phase }, { on := 9, ground := Go.Ground.phase }, { on := 10, ground := Go.Ground.phase }, { on := 11, ground := Go.Ground.phase }, { on := 12, ground := Go.Ground.phase }], guard := none }) rfl (fun K hK => ?_) AllReadyH.nil)
              go_simp
              refine hK.out _ _ (HKc.out _ (ZO.out.alloc ZO.out.size _)) (fun hHeld2 => ?_)
              clear hK K hHeld
              have hHeld := hHeld2
              clear hHeld2
              (try simp only [Act.put, List.setIfInBounds_toArray, List.set_cons_zero, List.set_cons_succ])
              refine wpAnyH_done (by kernel_rfl) ?_ _
              go_wp2_with fail
              go_meet
              exact Lib.hid (Cu.last ⟨3, 0, 0, u, 0, 0, 1⟩ HN9.out ZO.out)
            · go_simp
              have HGS := Lib.hid (show wq.heap.size ≤ wb.heap.size from ZC.out.size)
              have ZO := ZC
              have EO := Lib.hid (show Bf (wb.alloc (.cells #[.int .i64 0, .int .i64 0, .int .i64 0, .int .u64 0, .int .u64 0, .int .u64 0, .int .i64 0] 28)) wb.heap.size f0 from Bf.new wb f0)
              replace ZC := Lib.hid (ZO.out.alloc ZO.out.size (.cells #[.int .i64 0, .int .i64 0, .int .i64 0, .int .u64 0, .int .u64 0, .int .u64 0, .int .i64 0] 28))
              refine hK.out _ _ (HKc.out _ ZC.out) (fun hHeld2 => ?_)
              clear hK K hHeld
              have hHeld := hHeld2
              clear hHeld2
              (try simp only [Act.put, List.setIfInBounds_toArray, List.set_cons_zero, List.set_cons_succ])
              refine wpAnyH_ready (rs := [7]) (by kernel_rfl) (by simp) ?_
              refine (AllReadyH.cons (o := { dst := some 46, op := Go.Op.call { callee := Go.Callee.value (Go.Operand.func 18), args := #[Go.Operand.tmp 39, Go.Operand.tmp 40, Go.Operand.tmp 45], argTypes := #[23, 25, 28] }, type := 30, pos := "law.go:83", after := #[{ on := 0, ground := Go.Ground.data }, { on := 1, ground := Go.Ground.data }, { on := 6, ground := Go.Ground.data }, { on := 6, ground := Go.Ground.chain }], guard := none }) rfl (fun K hK => ?_) AllReadyH.nil)
              go_simp
              refine (one_enq (LM.out.below ZC.out) HL.out HS.out HUM.out ⟨HUU.out, U0, U0⟩ rfl HEND.out).mono ?_
              rintro e wo ⟨A9, c9, rfl, hn9, zo⟩
              go_wp2_with fail
              have HN9 := Lib.hid hn9
              replace ZC := Lib.hid (keep_call zo ZC.out)
              have HLT := Lib.hid EO.out.lt
              replace EO := Lib.hid (EO.out.after zo)
              obtain ⟨d0, d1, d2, d3, d4, d5, d6⟩ := EO.out.cells
              have fz := EO.out.free
              have ld := EO.out.lt
              clear hn9 zo
              refine hK.out _ _ (HKc.out _ ZC.out) (fun hHeld2 => ?_)
              clear hK K hHeld
              have hHeld := hHeld2
              clear hHeld2
              (try simp only [Act.put, List.setIfInBounds_toArray, List.set_cons_zero, List.set_cons_succ])
              refine wpAnyH_take (i := 8) (oi := { dst := some 38, op := Go.Op.move (Go.Operand.tmp 46), type := 30, pos := "law.go:83", after := #[{ on := 7, ground := Go.Ground.data }], guard := none }) (v := ?vqb11) rfl (by kernel_rfl) (by kernel_rfl) (by kernel_rfl) (fun _ _ _ h => h) (Or.inl ⟨by rfl, ?yqb11⟩) (by assumption) ?rqb11
              case yqb11 => (intro w hSw; (try dsimp only at hSw); go_simp; (try with_reducible rfl))
              (try simp only [Act.put, List.setIfInBounds_toArray, List.set_cons_zero, List.set_cons_succ])
              refine wpAnyH_take (i := 9) (oi := { dst := some 47, op := Go.Op.extract (Go.Operand.tmp 38) 0, type := 25, pos := "law.go:83", after := #[{ on := 8, ground := Go.Ground.data }], guard := none }) (v := ?vqb12) rfl (by kernel_rfl) (by kernel_rfl) (by kernel_rfl) (fun _ _ _ h => h) (Or.inl ⟨by rfl, ?yqb12⟩) (by assumption) ?rqb12
              case yqb12 => (intro w hSw; (try dsimp only at hSw); go_simp; (try with_reducible rfl))
              (try simp only [Act.put, List.setIfInBounds_toArray, List.set_cons_zero, List.set_cons_succ])
              refine wpAnyH_take (i := 10) (oi := { dst := some 48, op := Go.Op.extract (Go.Operand.tmp 38) 1, type := 28, pos := "law.go:83", after := #[{ on := 8, ground := Go.Ground.data }, { on := 12, ground := Go.Ground.gcOnly Go.Departure.lateStores }], guard := none }) (v := ?vqb13) rfl (by kernel_rfl) (by kernel_rfl) (by kernel_rfl) (fun _ _ _ h => h) (Or.inl ⟨by rfl, ?yqb13⟩) (by assumption) ?rqb13
              case yqb13 => (intro w hSw; (try dsimp only at hSw); go_simp; (try with_reducible rfl))
              (try simp only [Act.put, List.setIfInBounds_toArray, List.set_cons_zero, List.set_cons_succ])
              refine wpAnyH_take (i := 12) (oi := { dst := some 9, op := Go.Op.assign (Go.Operand.tmp 47), type := 25, pos := "law.go:83", after := #[{ on := 9, ground := Go.Ground.data }, { on := 7, ground := Go.Ground.chain }, { on := 0, ground := Go.Ground.phase }, { on := 1, ground := Go.Ground.phase }, { on := 2, ground := Go.Ground.phase }, { on := 3, ground := Go.Ground.phase }, { on := 4, ground := Go.Ground.phase }, { on := 5, ground := Go.Ground.phase }, { on := 6, ground := Go.Ground.phase }, { on := 7, ground := Go.Ground.phase }, { on := 8, ground := Go.Ground.phase }, { on := 9, ground := Go.Ground.phase }, { on := 10, ground := Go.Ground.textOnly Go.Departure.lateStores }, { on := 11, ground := Go.Ground.phase }], guard := none }) (v := ?vqb14) rfl (by kernel_rfl) (by kernel_rfl) (by kernel_rfl) (fun _ _ _ h => h) (Or.inl ⟨by rfl, ?yqb14⟩) (by assumption) ?rqb14
              case yqb14 => (intro w hSw; (try dsimp only at hSw); go_simp; (try with_reducible rfl))
              (try simp only [Act.put, List.setIfInBounds_toArray, List.set_cons_zero, List.set_cons_succ])
              refine wpAnyH_ready (rs := [13]) (by kernel_rfl) (by simp) ?_
              refine (AllReadyH.cons (o := { dst := none, op := Go.Op.store 28 (Go.Operand.tmp 10) (Go.Operand.tmp 48), type := 0, pos := "law.go:83", after := #[{ on := 11, ground := Go.Ground.data }, { on := 10, ground := Go.Ground.data }, { on := 12, ground := Go.Ground.chain }, { on := 0, ground := Go.Ground.phase }, { on := 1, ground := Go.Ground.phase }, { on := 2, ground := Go.Ground.phase }, { on := 3, ground := Go.Ground.phase }, { on := 4, ground := Go.Ground.phase }, { on := 5, ground := Go.Ground.phase }, { on := 6, ground := Go.Ground.phase }, { on := 7, ground := Go.Ground.phase }, { on := 8, ground := Go.Ground.phase }, { on := 9, ground := Go.Ground.phase }, { on := 10, ground := Go.Ground.phase }, { on := 11, ground := Go.Ground.phase }, { on := 12, ground := Go.Ground.phase }], guard := none }) rfl (fun K hK => ?_) AllReadyH.nil)
              go_simp
              refine hK.out _ _ (hd_set7g HKc.out HGS.out _ _ _ _ _ _ _ ZC.out) (fun hHeld2 => ?_)
              clear hK K hHeld
              have hHeld := hHeld2
              clear hHeld2
              (try simp only [Act.put, List.setIfInBounds_toArray, List.set_cons_zero, List.set_cons_succ])
              refine wpAnyH_done (by kernel_rfl) ?_ _
              go_wp2_with fail
              go_meet
              exact Lib.hid (Cu.box ⟨3, 0, 0, u, 0, 0, 1⟩ EO.out HGS.out HN9.out HLT.out ZC.out)
          · go_simp
            have HGS := Lib.hid (show wq.heap.size ≤ wq.heap.size from ZC.out.size)
            have ZO := ZC
            have EO := Lib.hid (show Bf (wq.drew.alloc (.cells #[.int .i64 0, .int .i64 0, .int .i64 0, .int .u64 0, .int .u64 0, .int .u64 0, .int .i64 0] 28)) wq.heap.size f0 from Bf.new wq.drew f0)
            replace ZC := Lib.hid (ZO.out.alloc ZO.out.size (.cells #[.int .i64 0, .int .i64 0, .int .i64 0, .int .u64 0, .int .u64 0, .int .u64 0, .int .i64 0] 28))
            refine hK.out _ _ (HKc.out _ ZC.out) (fun hHeld2 => ?_)
            clear hK K hHeld
            have hHeld := hHeld2
            clear hHeld2
            (try simp only [Act.put, List.setIfInBounds_toArray, List.set_cons_zero, List.set_cons_succ])
            refine wpAnyH_ready (rs := [6]) (by kernel_rfl) (by simp) ?_
            refine (AllReadyH.cons (o := { dst := some 45, op := Go.Op.call { callee := Go.Callee.value (Go.Operand.func 16), args := #[Go.Operand.const (Go.Value.int Go.IntKind.i64 3), Go.Operand.const (Go.Value.int Go.IntKind.i64 0), Go.Operand.tmp 44], argTypes := #[3, 3, 26] }, type := 28, pos := "law.go:83", after := #[{ on := 5, ground := Go.Ground.data }], guard := none }) rfl (fun K hK => ?_) AllReadyH.nil)
            go_simp
            refine (begin_any 3 0 u _).mono ?_
            rintro e wb ⟨rfl, zb⟩
            go_wp2_with fail
            replace ZC := Lib.hid (keep_call zb ZC.out)
            replace EO := Lib.hid (EO.out.after zb)
            clear zb
            refine hK.out _ _ (HKc.out _ ZC.out) (fun hHeld2 => ?_)
            clear hK K hHeld
            have hHeld := hHeld2
            clear hHeld2
            (try simp only [Act.put, List.setIfInBounds_toArray, List.set_cons_zero, List.set_cons_succ])
            refine wpAnyH_ready (rs := [7]) (by kernel_rfl) (by simp) ?_
            refine (AllReadyH.cons (o := { dst := some 46, op := Go.Op.call { callee := Go.Callee.value (Go.Operand.func 18), args := #[Go.Operand.tmp 39, Go.Operand.tmp 40, Go.Operand.tmp 45], argTypes := #[23, 25, 28] }, type := 30, pos := "law.go:83", after := #[{ on := 0, ground := Go.Ground.data }, { on := 1, ground := Go.Ground.data }, { on := 6, ground := Go.Ground.data }, { on := 6, ground := Go.Ground.chain }], guard := none }) rfl (fun K hK => ?_) AllReadyH.nil)
            go_simp
            refine (one_enq (LM.out.below ZC.out) HL.out HS.out HUM.out ⟨HUU.out, U0, U0⟩ rfl HEND.out).mono ?_
            rintro e wo ⟨A9, c9, rfl, hn9, zo⟩
            go_wp2_with fail
            have HN9 := Lib.hid hn9
            replace ZC := Lib.hid (keep_call zo ZC.out)
            have HLT := Lib.hid EO.out.lt
            replace EO := Lib.hid (EO.out.after zo)
            obtain ⟨d0, d1, d2, d3, d4, d5, d6⟩ := EO.out.cells
            have fz := EO.out.free
            have ld := EO.out.lt
            clear hn9 zo
            refine hK.out _ _ (HKc.out _ ZC.out) (fun hHeld2 => ?_)
            clear hK K hHeld
            have hHeld := hHeld2
            clear hHeld2
            (try simp only [Act.put, List.setIfInBounds_toArray, List.set_cons_zero, List.set_cons_succ])
            refine wpAnyH_take (i := 8) (oi := { dst := some 38, op := Go.Op.move (Go.Operand.tmp 46), type := 30, pos := "law.go:83", after := #[{ on := 7, ground := Go.Ground.data }], guard := none }) (v := ?vqb15) rfl (by kernel_rfl) (by kernel_rfl) (by kernel_rfl) (fun _ _ _ h => h) (Or.inl ⟨by rfl, ?yqb15⟩) (by assumption) ?rqb15
            case yqb15 => (intro w hSw; (try dsimp only at hSw); go_simp; (try with_reducible rfl))
            (try simp only [Act.put, List.setIfInBounds_toArray, List.set_cons_zero, List.set_cons_succ])
            refine wpAnyH_take (i := 9) (oi := { dst := some 47, op := Go.Op.extract (Go.Operand.tmp 38) 0, type := 25, pos := "law.go:83", after := #[{ on := 8, ground := Go.Ground.data }], guard := none }) (v := ?vqb16) rfl (by kernel_rfl) (by kernel_rfl) (by kernel_rfl) (fun _ _ _ h => h) (Or.inl ⟨by rfl, ?yqb16⟩) (by assumption) ?rqb16
            case yqb16 => (intro w hSw; (try dsimp only at hSw); go_simp; (try with_reducible rfl))
            (try simp only [Act.put, List.setIfInBounds_toArray, List.set_cons_zero, List.set_cons_succ])
            refine wpAnyH_take (i := 10) (oi := { dst := some 48, op := Go.Op.extract (Go.Operand.tmp 38) 1, type := 28, pos := "law.go:83", after := #[{ on := 8, ground := Go.Ground.data }, { on := 12, ground := Go.Ground.gcOnly Go.Departure.lateStores }], guard := none }) (v := ?vqb17) rfl (by kernel_rfl) (by kernel_rfl) (by kernel_rfl) (fun _ _ _ h => h) (Or.inl ⟨by rfl, ?yqb17⟩) (by assumption) ?rqb17
            case yqb17 => (intro w hSw; (try dsimp only at hSw); go_simp; (try with_reducible rfl))
            (try simp only [Act.put, List.setIfInBounds_toArray, List.set_cons_zero, List.set_cons_succ])
            refine wpAnyH_take (i := 12) (oi := { dst := some 9, op := Go.Op.assign (Go.Operand.tmp 47), type := 25, pos := "law.go:83", after := #[{ on := 9, ground := Go.Ground.data }, { on := 7, ground := Go.Ground.chain }, { on := 0, ground := Go.Ground.phase }, { on := 1, ground := Go.Ground.phase }, { on := 2, ground := Go.Ground.phase }, { on := 3, ground := Go.Ground.phase }, { on := 4, ground := Go.Ground.phase }, { on := 5, ground := Go.Ground.phase }, { on := 6, ground := Go.Ground.phase }, { on := 7, ground := Go.Ground.phase }, { on := 8, ground := Go.Ground.phase }, { on := 9, ground := Go.Ground.phase }, { on := 10, ground := Go.Ground.textOnly Go.Departure.lateStores }, { on := 11, ground := Go.Ground.phase }], guard := none }) (v := ?vqb18) rfl (by kernel_rfl) (by kernel_rfl) (by kernel_rfl) (fun _ _ _ h => h) (Or.inl ⟨by rfl, ?yqb18⟩) (by assumption) ?rqb18
            case yqb18 => (intro w hSw; (try dsimp only at hSw); go_simp; (try with_reducible rfl))
            (try simp only [Act.put, List.setIfInBounds_toArray, List.set_cons_zero, List.set_cons_succ])
            refine wpAnyH_ready (rs := [13]) (by kernel_rfl) (by simp) ?_
            refine (AllReadyH.cons (o := { dst := none, op := Go.Op.store 28 (Go.Operand.tmp 10) (Go.Operand.tmp 48), type := 0, pos := "law.go:83", after := #[{ on := 11, ground := Go.Ground.data }, { on := 10, ground := Go.Ground.data }, { on := 12, ground := Go.Ground.chain }, { on := 0, ground := Go.Ground.phase }, { on := 1, ground := Go.Ground.phase }, { on := 2, ground := Go.Ground.phase }, { on := 3, ground := Go.Ground.phase }, { on := 4, ground := Go.Ground.phase }, { on := 5, ground := Go.Ground.phase }, { on := 6, ground := Go.Ground.phase }, { on := 7, ground := Go.Ground.phase }, { on := 8, ground := Go.Ground.phase }, { on := 9, ground := Go.Ground.phase }, { on := 10, ground := Go.Ground.phase }, { on := 11, ground := Go.Ground.phase }, { on := 12, ground := Go.Ground.phase }], guard := none }) rfl (fun K hK => ?_) AllReadyH.nil)
            go_simp
            refine hK.out _ _ (hd_set7g HKc.out HGS.out _ _ _ _ _ _ _ ZC.out) (fun hHeld2 => ?_)
            clear hK K hHeld
            have hHeld := hHeld2
            clear hHeld2
            (try simp only [Act.put, List.setIfInBounds_toArray, List.set_cons_zero, List.set_cons_succ])
            refine wpAnyH_done (by kernel_rfl) ?_ _
            go_wp2_with fail
            go_meet
            exact Lib.hid (Cu.box ⟨3, 0, 0, u, 0, 0, 1⟩ EO.out HGS.out HN9.out HLT.out ZC.out)
        case rest =>
          obtain ⟨g1, A1, c1, rfl, rfl, hB, hR, hz⟩ := hcut.out
          replace BX := Lib.hid (BX.out.below hz)
          replace LB := Lib.hid (LB.out.below hz)
          replace LM := Lib.hid (LM.out.below hz)
          replace Z := Lib.hid (Z.out.trans (hz.mono Z.out.size))
          have BG := Lib.hid hB
          have LN := Lib.hid hR
          replace KZ := Lib.hid (KZ.out.trans (hz.mono KZ.out.size))
          clear hB hR hz hcut
          obtain ⟨gx, x_0, x_1, x_2, x_3⟩ := BX.out
          obtain ⟨b0, b1, b2, b3, b4, b5, b6⟩ := BG.out.cells
          have lb := BG.out.lt
          simp only at b0 b1 b2 b3 b4 b5 b6
          go_wp2
          go_roundw
          case rel => exact ⟨j + 1, A1, c1, M5, C + 1, by go_num, rfl, rfl, by omega, HC5, LN, HL5, HUM5, HOK5, HVI5, KZ⟩
          case measure => simp [intOf]; omega
      · obtain ⟨M5, hend, hok5, hum5, hl5, hvi5⟩ := order_full (u := u) HOK.out HUM.out HUU.out HVI.out (by rw [HTL.out]; have := HJ.out; omega)
        have HVI5 := Lib.hid (show Vi J M5 0 (l.take (min (j + 1) J.toNat)) by rw [show min (j + 1) J.toNat = min j J.toNat by omega]; exact hvi5)
        have HC5 := Lib.hid (show C = ((min (j + 1) J.toNat : Nat) : Int) by have := HC.out; omega)
        have HEND := Lib.hid hend
        have HOK5 := Lib.hid hok5
        have HUM5 := Lib.hid hum5
        have HL5 := Lib.hid (hl5.trans HL.out)
        clear hend hok5 hum5 hl5 hvi5
        obtain ⟨gx, x_0, x_1, x_2, x_3⟩ := BX.out
        go_wp2_with fail
        go_cut [9, 10] from 32 to 62 (fun x t wz => Hid (Cu wq n M5 ⟨3, 0, 0, u, 0, 0, 2⟩ x t wz))
        case first =>
          have HKc := Lib.hid (show ∀ x', Below wq.heap.size wq x' → (fun w' => w'.cell? ⟨w.heap.size, 0, none⟩ = some (.int .i64 W) ∧ w'.cell? ⟨w.heap.size, 1, none⟩ = some (.int .i64 D) ∧ w'.cell? ⟨w.heap.size, 2, none⟩ = some (.int .i64 J) ∧ w'.cell? ⟨w.heap.size, 3, none⟩ = some (.int .i64 S) ∧ w'.cell? (bd.add j) = some (.int .u64 u) ∧ Below wq.heap.size wq w') x' from fun x' hx => by
            obtain ⟨_, e0, e1, e2, e3⟩ := BX.out.below hx
            exact ⟨e0, e1, e2, e3, (hx.cell (p := bd.add j) (by rw [block_add]; exact HBL.out)).trans uc, hx⟩)
          have hHeld0 := HKc.out _ (Below.refl _ _)
          have ZC := Lib.hid (Below.refl wq.heap.size wq).drew
          clear gx x_0 x_1 x_2 x_3
          refine wp_region_held_drew (S := fun w' => w'.cell? ⟨w.heap.size, 0, none⟩ = some (.int .i64 W) ∧ w'.cell? ⟨w.heap.size, 1, none⟩ = some (.int .i64 D) ∧ w'.cell? ⟨w.heap.size, 2, none⟩ = some (.int .i64 J) ∧ w'.cell? ⟨w.heap.size, 3, none⟩ = some (.int .i64 S) ∧ w'.cell? (bd.add j) = some (.int .u64 u) ∧ Below wq.heap.size wq w') (by kernel_rfl) (hd_drew HKc.out (fun _ h => h.2.2.2.2.2) hHeld0) (fun hHeld => ?_)
          refine wpAnyH_take (i := 0) (oi := { dst := some 39, op := Go.Op.load 23 (Go.Operand.tmp 2), type := 23, pos := "law.go:83", after := #[], guard := none }) (v := ?vqc1) rfl (by kernel_rfl) (by kernel_rfl) (by kernel_rfl) (fun _ _ _ h => h) (Or.inl ⟨by rfl, ?yqc1⟩) (by assumption) ?rqc1
          case yqc1 => (intro w hSw; (try dsimp only at hSw); go_simp; (try with_reducible rfl))
          (try simp only [Act.put, List.setIfInBounds_toArray, List.set_cons_zero, List.set_cons_succ])
          refine wpAnyH_take (i := 1) (oi := { dst := some 40, op := Go.Op.move (Go.Operand.tmp 6), type := 25, pos := "law.go:83", after := #[], guard := none }) (v := ?vqc2) rfl (by kernel_rfl) (by kernel_rfl) (by kernel_rfl) (fun _ _ _ h => h) (Or.inl ⟨by rfl, ?yqc2⟩) (by assumption) ?rqc2
          case yqc2 => (intro w hSw; (try dsimp only at hSw); go_simp; (try with_reducible rfl))
          (try simp only [Act.put, List.setIfInBounds_toArray, List.set_cons_zero, List.set_cons_succ])
          refine wpAnyH_take (i := 2) (oi := { dst := some 41, op := Go.Op.move (Go.Operand.tmp 1), type := 24, pos := "law.go:83", after := #[], guard := none }) (v := ?vqc3) rfl (by kernel_rfl) (by kernel_rfl) (by kernel_rfl) (fun _ _ _ h => h) (Or.inl ⟨by rfl, ?yqc3⟩) (by assumption) ?rqc3
          case yqc3 => (intro w hSw; (try dsimp only at hSw); go_simp; (try with_reducible rfl))
          (try simp only [Act.put, List.setIfInBounds_toArray, List.set_cons_zero, List.set_cons_succ])
          refine wpAnyH_take (i := 3) (oi := { dst := some 42, op := Go.Op.move (Go.Operand.tmp 8), type := 3, pos := "law.go:83", after := #[], guard := none }) (v := ?vqc4) rfl (by kernel_rfl) (by kernel_rfl) (by kernel_rfl) (fun _ _ _ h => h) (Or.inl ⟨by rfl, ?yqc4⟩) (by assumption) ?rqc4
          case yqc4 => (intro w hSw; (try dsimp only at hSw); go_simp; (try with_reducible rfl))
          (try simp only [Act.put, List.setIfInBounds_toArray, List.set_cons_zero, List.set_cons_succ])
          refine wpAnyH_take (i := 4) (oi := { dst := some 43, op := Go.Op.indexAddr 24 (Go.Operand.tmp 41) (Go.Operand.tmp 42), type := 0, pos := "law.go:83", after := #[{ on := 2, ground := Go.Ground.data }, { on := 3, ground := Go.Ground.data }], guard := none }) (v := ?vqc5) rfl (by kernel_rfl) (by kernel_rfl) (by kernel_rfl) (fun _ _ _ h => h) (Or.inl ⟨by rfl, ?yqc5⟩) (by assumption) ?rqc5
          case yqc5 => (intro w hSw; (try dsimp only at hSw); go_simp; (try with_reducible rfl))
          (try simp only [Act.put, List.setIfInBounds_toArray, List.set_cons_zero, List.set_cons_succ])
          refine wpAnyH_take (i := 5) (oi := { dst := some 44, op := Go.Op.load 26 (Go.Operand.tmp 43), type := 26, pos := "law.go:83", after := #[{ on := 4, ground := Go.Ground.data }], guard := none }) (v := ?vqc6) rfl (by kernel_rfl) (by kernel_rfl) (by kernel_rfl) (fun _ _ _ h => h) (Or.inl ⟨by rfl, ?yqc6⟩) (by assumption) ?rqc6
          case yqc6 => (intro w hSw; (try dsimp only at hSw); go_simp; (try with_reducible rfl))
          (try simp only [Act.put, List.setIfInBounds_toArray, List.set_cons_zero, List.set_cons_succ])
          refine wpAnyH_ready (rs := [6, 11]) (by kernel_rfl) (by simp) ?_
          refine (AllReadyH.cons (o := { dst := some 45, op := Go.Op.call { callee := Go.Callee.value (Go.Operand.func 16), args := #[Go.Operand.const (Go.Value.int Go.IntKind.i64 3), Go.Operand.const (Go.Value.int Go.IntKind.i64 0), Go.Operand.tmp 44], argTypes := #[3, 3, 26] }, type := 28, pos := "law.go:83", after := #[{ on := 5, ground := Go.Ground.data }], guard := none }) rfl (fun K hK => ?_) (AllReadyH.cons (o := { dst := some 10, op := Go.Op.alloc 28, type := 0, pos := "law.go:83", after := #[], guard := none }) rfl (fun K hK => ?_) AllReadyH.nil))
          · go_simp
            refine (begin_any 3 0 u _).mono ?_
            rintro e wb ⟨rfl, zb⟩
            go_wp2_with fail
            replace ZC := Lib.hid (keep_call zb ZC.out)
            clear zb
            refine hK.out _ _ (HKc.out _ ZC.out) (fun hHeld2 => ?_)
            clear hK K hHeld
            have hHeld := hHeld2
            clear hHeld2
            (try simp only [Act.put, List.setIfInBounds_toArray, List.set_cons_zero, List.set_cons_succ])
            refine wpAnyH_ready (rs := [7, 11]) (by kernel_rfl) (by simp) ?_
            refine (AllReadyH.cons (o := { dst := some 46, op := Go.Op.call { callee := Go.Callee.value (Go.Operand.func 18), args := #[Go.Operand.tmp 39, Go.Operand.tmp 40, Go.Operand.tmp 45], argTypes := #[23, 25, 28] }, type := 30, pos := "law.go:83", after := #[{ on := 0, ground := Go.Ground.data }, { on := 1, ground := Go.Ground.data }, { on := 6, ground := Go.Ground.data }, { on := 6, ground := Go.Ground.chain }], guard := none }) rfl (fun K hK => ?_) (AllReadyH.cons (o := { dst := some 10, op := Go.Op.alloc 28, type := 0, pos := "law.go:83", after := #[], guard := none }) rfl (fun K hK => ?_) AllReadyH.nil))
            · go_simp
              refine (one_enq (LM.out.below ZC.out) HL.out HS.out HUM.out ⟨HUU.out, U0, U0⟩ rfl HEND.out).mono ?_
              rintro e wo ⟨A9, c9, rfl, hn9, zo⟩
              go_wp2_with fail
              have HN9 := Lib.hid hn9
              replace ZC := Lib.hid (keep_call zo ZC.out)
              clear hn9 zo
              refine hK.out _ _ (HKc.out _ ZC.out) (fun hHeld2 => ?_)
              clear hK K hHeld
              have hHeld := hHeld2
              clear hHeld2
              (try simp only [Act.put, List.setIfInBounds_toArray, List.set_cons_zero, List.set_cons_succ])
              refine wpAnyH_take (i := 8) (oi := { dst := some 38, op := Go.Op.move (Go.Operand.tmp 46), type := 30, pos := "law.go:83", after := #[{ on := 7, ground := Go.Ground.data }], guard := none }) (v := ?vqc7) rfl (by kernel_rfl) (by kernel_rfl) (by kernel_rfl) (fun _ _ _ h => h) (Or.inl ⟨by rfl, ?yqc7⟩) (by assumption) ?rqc7
              case yqc7 => (intro w hSw; (try dsimp only at hSw); go_simp; (try with_reducible rfl))
              (try simp only [Act.put, List.setIfInBounds_toArray, List.set_cons_zero, List.set_cons_succ])
              refine wpAnyH_take (i := 9) (oi := { dst := some 47, op := Go.Op.extract (Go.Operand.tmp 38) 0, type := 25, pos := "law.go:83", after := #[{ on := 8, ground := Go.Ground.data }], guard := none }) (v := ?vqc8) rfl (by kernel_rfl) (by kernel_rfl) (by kernel_rfl) (fun _ _ _ h => h) (Or.inl ⟨by rfl, ?yqc8⟩) (by assumption) ?rqc8
              case yqc8 => (intro w hSw; (try dsimp only at hSw); go_simp; (try with_reducible rfl))
              (try simp only [Act.put, List.setIfInBounds_toArray, List.set_cons_zero, List.set_cons_succ])
              refine wpAnyH_take (i := 10) (oi := { dst := some 48, op := Go.Op.extract (Go.Operand.tmp 38) 1, type := 28, pos := "law.go:83", after := #[{ on := 8, ground := Go.Ground.data }, { on := 12, ground := Go.Ground.gcOnly Go.Departure.lateStores }], guard := none }) (v := ?vqc9) rfl (by kernel_rfl) (by kernel_rfl) (by kernel_rfl) (fun _ _ _ h => h) (Or.inl ⟨by rfl, ?yqc9⟩) (by assumption) ?rqc9
              case yqc9 => (intro w hSw; (try dsimp only at hSw); go_simp; (try with_reducible rfl))
              (try simp only [Act.put, List.setIfInBounds_toArray, List.set_cons_zero, List.set_cons_succ])
              refine wpAnyH_ready (rs := [11]) (by kernel_rfl) (by simp) ?_
              refine (AllReadyH.cons (o := { dst := some 10, op := Go.Op.alloc 28, type := 0, pos := "law.go:83", after := #[], guard := none }) rfl (fun K hK => ?_) AllReadyH.nil)
              go_simp
              have HGS := Lib.hid (show wq.heap.size ≤ wo.heap.size from ZC.out.size)
              have ZO := ZC
              have EO := Lib.hid (show Bf (wo.alloc (.cells #[.int .i64 0, .int .i64 0, .int .i64 0, .int .u64 0, .int .u64 0, .int .u64 0, .int .i64 0] 28)) wo.heap.size f0 from Bf.new wo f0)
              replace ZC := Lib.hid (ZO.out.alloc ZO.out.size (.cells #[.int .i64 0, .int .i64 0, .int .i64 0, .int .u64 0, .int .u64 0, .int .u64 0, .int .i64 0] 28))
              refine hK.out _ _ (HKc.out _ ZC.out) (fun hHeld2 => ?_)
              clear hK K hHeld
              have hHeld := hHeld2
              clear hHeld2
              (try simp only [Act.put, List.setIfInBounds_toArray, List.set_cons_zero, List.set_cons_succ])
              refine wpAnyH_take (i := 12) (oi := { dst := some 9, op := Go.Op.assign (Go.Operand.tmp 47), type := 25, pos := "law.go:83", after := #[{ on := 9, ground := Go.Ground.data }, { on := 7, ground := Go.Ground.chain }, { on := 0, ground := Go.Ground.phase }, { on := 1, ground := Go.Ground.phase }, { on := 2, ground := Go.Ground.phase }, { on := 3, ground := Go.Ground.phase }, { on := 4, ground := Go.Ground.phase }, { on := 5, ground := Go.Ground.phase }, { on := 6, ground := Go.Ground.phase }, { on := 7, ground := Go.Ground.phase }, { on := 8, ground := Go.Ground.phase }, { on := 9, ground := Go.Ground.phase }, { on := 10, ground := Go.Ground.textOnly Go.Departure.lateStores }, { on := 11, ground := Go.Ground.phase }], guard := none }) (v := ?vqc10) rfl (by kernel_rfl) (by kernel_rfl) (by kernel_rfl) (fun _ _ _ h => h) (Or.inl ⟨by rfl, ?yqc10⟩) (by assumption) ?rqc10
              case yqc10 => (intro w hSw; (try dsimp only at hSw); go_simp; (try with_reducible rfl))
              (try simp only [Act.put, List.setIfInBounds_toArray, List.set_cons_zero, List.set_cons_succ])
              refine wpAnyH_ready (rs := [13]) (by kernel_rfl) (by simp) ?_
              refine (AllReadyH.cons (o := { dst := none, op := Go.Op.store 28 (Go.Operand.tmp 10) (Go.Operand.tmp 48), type := 0, pos := "law.go:83", after := #[{ on := 11, ground := Go.Ground.data }, { on := 10, ground := Go.Ground.data }, { on := 12, ground := Go.Ground.chain }, { on := 0, ground := Go.Ground.phase }, { on := 1, ground := Go.Ground.phase }, { on := 2, ground := Go.Ground.phase }, { on := 3, ground := Go.Ground.phase }, { on := 4, ground := Go.Ground.phase }, { on := 5, ground := Go.Ground.phase }, { on := 6, ground := Go.Ground.phase }, { on := 7, ground := Go.Ground.phase }, { on := 8, ground := Go.Ground.phase }, { on := 9, ground := Go.Ground.phase }, { on := 10, ground := Go.Ground.phase }, { on := 11, ground := Go.Ground.phase }, { on := 12, ground := Go.Ground.phase }], guard := none }) rfl (fun K hK => ?_) AllReadyH.nil)
              go_simp
              refine hK.out _ _ (HKc.out _ (ZO.out.alloc ZO.out.size _)) (fun hHeld2 => ?_)
              clear hK K hHeld
              have hHeld := hHeld2
              clear hHeld2
              (try simp only [Act.put, List.setIfInBounds_toArray, List.set_cons_zero, List.set_cons_succ])
              refine wpAnyH_done (by kernel_rfl) ?_ _
              go_wp2_with fail
              go_meet
              exact Lib.hid (Cu.last ⟨3, 0, 0, u, 0, 0, 2⟩ HN9.out ZO.out)
            · go_simp
              have HGS := Lib.hid (show wq.heap.size ≤ wb.heap.size from ZC.out.size)
              have ZO := ZC
              have EO := Lib.hid (show Bf (wb.alloc (.cells #[.int .i64 0, .int .i64 0, .int .i64 0, .int .u64 0, .int .u64 0, .int .u64 0, .int .i64 0] 28)) wb.heap.size f0 from Bf.new wb f0)
              replace ZC := Lib.hid (ZO.out.alloc ZO.out.size (.cells #[.int .i64 0, .int .i64 0, .int .i64 0, .int .u64 0, .int .u64 0, .int .u64 0, .int .i64 0] 28))
              refine hK.out _ _ (HKc.out _ ZC.out) (fun hHeld2 => ?_)
              clear hK K hHeld
              have hHeld := hHeld2
              clear hHeld2
              (try simp only [Act.put, List.setIfInBounds_toArray, List.set_cons_zero, List.set_cons_succ])
              refine wpAnyH_ready (rs := [7]) (by kernel_rfl) (by simp) ?_
              refine (AllReadyH.cons (o := { dst := some 46, op := Go.Op.call { callee := Go.Callee.value (Go.Operand.func 18), args := #[Go.Operand.tmp 39, Go.Operand.tmp 40, Go.Operand.tmp 45], argTypes := #[23, 25, 28] }, type := 30, pos := "law.go:83", after := #[{ on := 0, ground := Go.Ground.data }, { on := 1, ground := Go.Ground.data }, { on := 6, ground := Go.Ground.data }, { on := 6, ground := Go.Ground.chain }], guard := none }) rfl (fun K hK => ?_) AllReadyH.nil)
              go_simp
              refine (one_enq (LM.out.below ZC.out) HL.out HS.out HUM.out ⟨HUU.out, U0, U0⟩ rfl HEND.out).mono ?_
              rintro e wo ⟨A9, c9, rfl, hn9, zo⟩
              go_wp2_with fail
              have HN9 := Lib.hid hn9
              replace ZC := Lib.hid (keep_call zo ZC.out)
              have HLT := Lib.hid EO.out.lt
              replace EO := Lib.hid (EO.out.after zo)
              obtain ⟨d0, d1, d2, d3, d4, d5, d6⟩ := EO.out.cells
              have fz := EO.out.free
              have ld := EO.out.lt
              clear hn9 zo
              refine hK.out _ _ (HKc.out _ ZC.out) (fun hHeld2 => ?_)
              clear hK K hHeld
              have hHeld := hHeld2
              clear hHeld2
              (try simp only [Act.put, List.setIfInBounds_toArray, List.set_cons_zero, List.set_cons_succ])
              refine wpAnyH_take (i := 8) (oi := { dst := some 38, op := Go.Op.move (Go.Operand.tmp 46), type := 30, pos := "law.go:83", after := #[{ on := 7, ground := Go.Ground.data }], guard := none }) (v := ?vqc11) rfl (by kernel_rfl) (by kernel_rfl) (by kernel_rfl) (fun _ _ _ h => h) (Or.inl ⟨by rfl, ?yqc11⟩) (by assumption) ?rqc11
              case yqc11 => (intro w hSw; (try dsimp only at hSw); go_simp; (try with_reducible rfl))
              (try simp only [Act.put, List.setIfInBounds_toArray, List.set_cons_zero, List.set_cons_succ])
              refine wpAnyH_take (i := 9) (oi := { dst := some 47, op := Go.Op.extract (Go.Operand.tmp 38) 0, type := 25, pos := "law.go:83", after := #[{ on := 8, ground := Go.Ground.data }], guard := none }) (v := ?vqc12) rfl (by kernel_rfl) (by kernel_rfl) (by kernel_rfl) (fun _ _ _ h => h) (Or.inl ⟨by rfl, ?yqc12⟩) (by assumption) ?rqc12
              case yqc12 => (intro w hSw; (try dsimp only at hSw); go_simp; (try with_reducible rfl))
              (try simp only [Act.put, List.setIfInBounds_toArray, List.set_cons_zero, List.set_cons_succ])
              refine wpAnyH_take (i := 10) (oi := { dst := some 48, op := Go.Op.extract (Go.Operand.tmp 38) 1, type := 28, pos := "law.go:83", after := #[{ on := 8, ground := Go.Ground.data }, { on := 12, ground := Go.Ground.gcOnly Go.Departure.lateStores }], guard := none }) (v := ?vqc13) rfl (by kernel_rfl) (by kernel_rfl) (by kernel_rfl) (fun _ _ _ h => h) (Or.inl ⟨by rfl, ?yqc13⟩) (by assumption) ?rqc13
              case yqc13 => (intro w hSw; (try dsimp only at hSw); go_simp; (try with_reducible rfl))
              (try simp only [Act.put, List.setIfInBounds_toArray, List.set_cons_zero, List.set_cons_succ])
              refine wpAnyH_take (i := 12) (oi := { dst := some 9, op := Go.Op.assign (Go.Operand.tmp 47), type := 25, pos := "law.go:83", after := #[{ on := 9, ground := Go.Ground.data }, { on := 7, ground := Go.Ground.chain }, { on := 0, ground := Go.Ground.phase }, { on := 1, ground := Go.Ground.phase }, { on := 2, ground := Go.Ground.phase }, { on := 3, ground := Go.Ground.phase }, { on := 4, ground := Go.Ground.phase }, { on := 5, ground := Go.Ground.phase }, { on := 6, ground := Go.Ground.phase }, { on := 7, ground := Go.Ground.phase }, { on := 8, ground := Go.Ground.phase }, { on := 9, ground := Go.Ground.phase }, { on := 10, ground := Go.Ground.textOnly Go.Departure.lateStores }, { on := 11, ground := Go.Ground.phase }], guard := none }) (v := ?vqc14) rfl (by kernel_rfl) (by kernel_rfl) (by kernel_rfl) (fun _ _ _ h => h) (Or.inl ⟨by rfl, ?yqc14⟩) (by assumption) ?rqc14
              case yqc14 => (intro w hSw; (try dsimp only at hSw); go_simp; (try with_reducible rfl))
              (try simp only [Act.put, List.setIfInBounds_toArray, List.set_cons_zero, List.set_cons_succ])
              refine wpAnyH_ready (rs := [13]) (by kernel_rfl) (by simp) ?_
              refine (AllReadyH.cons (o := { dst := none, op := Go.Op.store 28 (Go.Operand.tmp 10) (Go.Operand.tmp 48), type := 0, pos := "law.go:83", after := #[{ on := 11, ground := Go.Ground.data }, { on := 10, ground := Go.Ground.data }, { on := 12, ground := Go.Ground.chain }, { on := 0, ground := Go.Ground.phase }, { on := 1, ground := Go.Ground.phase }, { on := 2, ground := Go.Ground.phase }, { on := 3, ground := Go.Ground.phase }, { on := 4, ground := Go.Ground.phase }, { on := 5, ground := Go.Ground.phase }, { on := 6, ground := Go.Ground.phase }, { on := 7, ground := Go.Ground.phase }, { on := 8, ground := Go.Ground.phase }, { on := 9, ground := Go.Ground.phase }, { on := 10, ground := Go.Ground.phase }, { on := 11, ground := Go.Ground.phase }, { on := 12, ground := Go.Ground.phase }], guard := none }) rfl (fun K hK => ?_) AllReadyH.nil)
              go_simp
              refine hK.out _ _ (hd_set7g HKc.out HGS.out _ _ _ _ _ _ _ ZC.out) (fun hHeld2 => ?_)
              clear hK K hHeld
              have hHeld := hHeld2
              clear hHeld2
              (try simp only [Act.put, List.setIfInBounds_toArray, List.set_cons_zero, List.set_cons_succ])
              refine wpAnyH_done (by kernel_rfl) ?_ _
              go_wp2_with fail
              go_meet
              exact Lib.hid (Cu.box ⟨3, 0, 0, u, 0, 0, 2⟩ EO.out HGS.out HN9.out HLT.out ZC.out)
          · go_simp
            have HGS := Lib.hid (show wq.heap.size ≤ wq.heap.size from ZC.out.size)
            have ZO := ZC
            have EO := Lib.hid (show Bf (wq.drew.alloc (.cells #[.int .i64 0, .int .i64 0, .int .i64 0, .int .u64 0, .int .u64 0, .int .u64 0, .int .i64 0] 28)) wq.heap.size f0 from Bf.new wq.drew f0)
            replace ZC := Lib.hid (ZO.out.alloc ZO.out.size (.cells #[.int .i64 0, .int .i64 0, .int .i64 0, .int .u64 0, .int .u64 0, .int .u64 0, .int .i64 0] 28))
            refine hK.out _ _ (HKc.out _ ZC.out) (fun hHeld2 => ?_)
            clear hK K hHeld
            have hHeld := hHeld2
            clear hHeld2
            (try simp only [Act.put, List.setIfInBounds_toArray, List.set_cons_zero, List.set_cons_succ])
            refine wpAnyH_ready (rs := [6]) (by kernel_rfl) (by simp) ?_
            refine (AllReadyH.cons (o := { dst := some 45, op := Go.Op.call { callee := Go.Callee.value (Go.Operand.func 16), args := #[Go.Operand.const (Go.Value.int Go.IntKind.i64 3), Go.Operand.const (Go.Value.int Go.IntKind.i64 0), Go.Operand.tmp 44], argTypes := #[3, 3, 26] }, type := 28, pos := "law.go:83", after := #[{ on := 5, ground := Go.Ground.data }], guard := none }) rfl (fun K hK => ?_) AllReadyH.nil)
            go_simp
            refine (begin_any 3 0 u _).mono ?_
            rintro e wb ⟨rfl, zb⟩
            go_wp2_with fail
            replace ZC := Lib.hid (keep_call zb ZC.out)
            replace EO := Lib.hid (EO.out.after zb)
            clear zb
            refine hK.out _ _ (HKc.out _ ZC.out) (fun hHeld2 => ?_)
            clear hK K hHeld
            have hHeld := hHeld2
            clear hHeld2
            (try simp only [Act.put, List.setIfInBounds_toArray, List.set_cons_zero, List.set_cons_succ])
            refine wpAnyH_ready (rs := [7]) (by kernel_rfl) (by simp) ?_
            refine (AllReadyH.cons (o := { dst := some 46, op := Go.Op.call { callee := Go.Callee.value (Go.Operand.func 18), args := #[Go.Operand.tmp 39, Go.Operand.tmp 40, Go.Operand.tmp 45], argTypes := #[23, 25, 28] }, type := 30, pos := "law.go:83", after := #[{ on := 0, ground := Go.Ground.data }, { on := 1, ground := Go.Ground.data }, { on := 6, ground := Go.Ground.data }, { on := 6, ground := Go.Ground.chain }], guard := none }) rfl (fun K hK => ?_) AllReadyH.nil)
            go_simp
            refine (one_enq (LM.out.below ZC.out) HL.out HS.out HUM.out ⟨HUU.out, U0, U0⟩ rfl HEND.out).mono ?_
            rintro e wo ⟨A9, c9, rfl, hn9, zo⟩
            go_wp2_with fail
            have HN9 := Lib.hid hn9
            replace ZC := Lib.hid (keep_call zo ZC.out)
            have HLT := Lib.hid EO.out.lt
            replace EO := Lib.hid (EO.out.after zo)
            obtain ⟨d0, d1, d2, d3, d4, d5, d6⟩ := EO.out.cells
            have fz := EO.out.free
            have ld := EO.out.lt
            clear hn9 zo
            refine hK.out _ _ (HKc.out _ ZC.out) (fun hHeld2 => ?_)
            clear hK K hHeld
            have hHeld := hHeld2
            clear hHeld2
            (try simp only [Act.put, List.setIfInBounds_toArray, List.set_cons_zero, List.set_cons_succ])
            refine wpAnyH_take (i := 8) (oi := { dst := some 38, op := Go.Op.move (Go.Operand.tmp 46), type := 30, pos := "law.go:83", after := #[{ on := 7, ground := Go.Ground.data }], guard := none }) (v := ?vqc15) rfl (by kernel_rfl) (by kernel_rfl) (by kernel_rfl) (fun _ _ _ h => h) (Or.inl ⟨by rfl, ?yqc15⟩) (by assumption) ?rqc15
            case yqc15 => (intro w hSw; (try dsimp only at hSw); go_simp; (try with_reducible rfl))
            (try simp only [Act.put, List.setIfInBounds_toArray, List.set_cons_zero, List.set_cons_succ])
            refine wpAnyH_take (i := 9) (oi := { dst := some 47, op := Go.Op.extract (Go.Operand.tmp 38) 0, type := 25, pos := "law.go:83", after := #[{ on := 8, ground := Go.Ground.data }], guard := none }) (v := ?vqc16) rfl (by kernel_rfl) (by kernel_rfl) (by kernel_rfl) (fun _ _ _ h => h) (Or.inl ⟨by rfl, ?yqc16⟩) (by assumption) ?rqc16
            case yqc16 => (intro w hSw; (try dsimp only at hSw); go_simp; (try with_reducible rfl))
            (try simp only [Act.put, List.setIfInBounds_toArray, List.set_cons_zero, List.set_cons_succ])
            refine wpAnyH_take (i := 10) (oi := { dst := some 48, op := Go.Op.extract (Go.Operand.tmp 38) 1, type := 28, pos := "law.go:83", after := #[{ on := 8, ground := Go.Ground.data }, { on := 12, ground := Go.Ground.gcOnly Go.Departure.lateStores }], guard := none }) (v := ?vqc17) rfl (by kernel_rfl) (by kernel_rfl) (by kernel_rfl) (fun _ _ _ h => h) (Or.inl ⟨by rfl, ?yqc17⟩) (by assumption) ?rqc17
            case yqc17 => (intro w hSw; (try dsimp only at hSw); go_simp; (try with_reducible rfl))
            (try simp only [Act.put, List.setIfInBounds_toArray, List.set_cons_zero, List.set_cons_succ])
            refine wpAnyH_take (i := 12) (oi := { dst := some 9, op := Go.Op.assign (Go.Operand.tmp 47), type := 25, pos := "law.go:83", after := #[{ on := 9, ground := Go.Ground.data }, { on := 7, ground := Go.Ground.chain }, { on := 0, ground := Go.Ground.phase }, { on := 1, ground := Go.Ground.phase }, { on := 2, ground := Go.Ground.phase }, { on := 3, ground := Go.Ground.phase }, { on := 4, ground := Go.Ground.phase }, { on := 5, ground := Go.Ground.phase }, { on := 6, ground := Go.Ground.phase }, { on := 7, ground := Go.Ground.phase }, { on := 8, ground := Go.Ground.phase }, { on := 9, ground := Go.Ground.phase }, { on := 10, ground := Go.Ground.textOnly Go.Departure.lateStores }, { on := 11, ground := Go.Ground.phase }], guard := none }) (v := ?vqc18) rfl (by kernel_rfl) (by kernel_rfl) (by kernel_rfl) (fun _ _ _ h => h) (Or.inl ⟨by rfl, ?yqc18⟩) (by assumption) ?rqc18
            case yqc18 => (intro w hSw; (try dsimp only at hSw); go_simp; (try with_reducible rfl))
            (try simp only [Act.put, List.setIfInBounds_toArray, List.set_cons_zero, List.set_cons_succ])
            refine wpAnyH_ready (rs := [13]) (by kernel_rfl) (by simp) ?_
            refine (AllReadyH.cons (o := { dst := none, op := Go.Op.store 28 (Go.Operand.tmp 10) (Go.Operand.tmp 48), type := 0, pos := "law.go:83", after := #[{ on := 11, ground := Go.Ground.data }, { on := 10, ground := Go.Ground.data }, { on := 12, ground := Go.Ground.chain }, { on := 0, ground := Go.Ground.phase }, { on := 1, ground := Go.Ground.phase }, { on := 2, ground := Go.Ground.phase }, { on := 3, ground := Go.Ground.phase }, { on := 4, ground := Go.Ground.phase }, { on := 5, ground := Go.Ground.phase }, { on := 6, ground := Go.Ground.phase }, { on := 7, ground := Go.Ground.phase }, { on := 8, ground := Go.Ground.phase }, { on := 9, ground := Go.Ground.phase }, { on := 10, ground := Go.Ground.phase }, { on := 11, ground := Go.Ground.phase }, { on := 12, ground := Go.Ground.phase }], guard := none }) rfl (fun K hK => ?_) AllReadyH.nil)
            go_simp
            refine hK.out _ _ (hd_set7g HKc.out HGS.out _ _ _ _ _ _ _ ZC.out) (fun hHeld2 => ?_)
            clear hK K hHeld
            have hHeld := hHeld2
            clear hHeld2
            (try simp only [Act.put, List.setIfInBounds_toArray, List.set_cons_zero, List.set_cons_succ])
            refine wpAnyH_done (by kernel_rfl) ?_ _
            go_wp2_with fail
            go_meet
            exact Lib.hid (Cu.box ⟨3, 0, 0, u, 0, 0, 2⟩ EO.out HGS.out HN9.out HLT.out ZC.out)
        case rest =>
          obtain ⟨g1, A1, c1, rfl, rfl, hB, hR, hz⟩ := hcut.out
          replace BX := Lib.hid (BX.out.below hz)
          replace LB := Lib.hid (LB.out.below hz)
          replace LM := Lib.hid (LM.out.below hz)
          replace Z := Lib.hid (Z.out.trans (hz.mono Z.out.size))
          have BG := Lib.hid hB
          have LN := Lib.hid hR
          replace KZ := Lib.hid (KZ.out.trans (hz.mono KZ.out.size))
          clear hB hR hz hcut
          obtain ⟨gx, x_0, x_1, x_2, x_3⟩ := BX.out
          obtain ⟨b0, b1, b2, b3, b4, b5, b6⟩ := BG.out.cells
          have lb := BG.out.lt
          simp only at b0 b1 b2 b3 b4 b5 b6
          go_wp2
          go_roundw
          case rel => exact ⟨j + 1, A1, c1, M5, C, by go_num, rfl, rfl, by omega, HC5, LN, HL5, HUM5, HOK5, HVI5, KZ⟩
          case measure => simp [intOf]; omega
    · obtain rfl : j = k := by omega
      have HQ := Lib.hid (show ((min j J.toNat : Nat) : Int) = C from HC.out.symm)
      obtain ⟨q, hq⟩ : ∃ q, min j J.toNat = q := ⟨_, rfl⟩
      rw [hq] at HVI HQ
      have HQJ := Lib.hid (show q ≤ 16 ∧ q ≤ j by have := HJ.out; omega)
      have HZQ := Lib.hid Z.out.size
      clear hlt hj hq KZ
      obtain ⟨gx, x_0, x_1, x_2, x_3⟩ := BX.out
      go_wp2
      clear gx x_0 x_1 x_2 x_3
      go_loopw [11, 6] (fun i s wr => ∃ (t : Nat) (A : Option Addr) (c : Nat) (M : List Int) (h : Int), i = .int .i64 t ∧ s = .slice A n c ∧ t ≤ q ∧ Hid (h ≤ t) ∧ Hid (Rd wr A M) ∧ Hid (M.length = n) ∧ Hid (UM M) ∧ Hid (okm W D J S M = true) ∧ Hid (Vi J M h ((l.take q).drop t)) ∧ Hid (Below wq.heap.size wq wr)) (fun i _ _ => q - (intOf i).toNat)
      case atStart =>
        exact ⟨0, A, c, M, 0, rfl, rfl, by omega, Lib.hid (by omega), LM, HL, HUM, HOK, Lib.hid (by simpa using HVI.out), Lib.hid (Below.refl _ _)⟩
      case round =>
        clear LM HL HUM HOK HVI
        obtain ⟨t, A, c, M, h, rfl, rfl, ht, HH, LM, HL, HUM, HOK, HVI, KZ⟩ := hrel
        obtain ⟨wv, hwv⟩ : ∃ wv, wv = wr := ⟨_, rfl⟩
        subst hwv
        replace BX := Lib.hid (BX.out.below KZ.out)
        replace Z := Lib.hid (Z.out.trans (KZ.out.mono HZQ.out))
        replace LB := Lib.hid (LB.out.below KZ.out)
        by_cases htq : t < q
        · have htl : t < l.length := by rw [HLK.out]; have := HQJ.out; omega
          obtain ⟨bd, hBd, bl, bc⟩ := LB.out (by omega)
          subst hBd
          have uc := bc t _ (List.getElem?_eq_getElem htl)
          have hdr : (l.take q).drop t = l[t] :: (l.take q).drop (t + 1) := by
            have h2 : t < (l.take q).length := by rw [List.length_take]; omega
            rw [List.drop_eq_getElem_cons h2, List.getElem_take]
          have hvi := HVI.out
          rw [hdr] at hvi
          clear hdr
          generalize l[t] = u at uc hvi
          obtain ⟨M5, h5, hend, hok5, hum5, hl5, hvi5, hh5⟩ := order_out HOK.out HUM.out hvi (by have := HH.out; have := HQJ.out; omega)
          have HEND := Lib.hid hend
          have HOK5 := Lib.hid hok5
          have HUM5 := Lib.hid hum5
          have HL5 := Lib.hid (hl5.trans HL.out)
          have HVI5 := Lib.hid hvi5
          have HH5 := Lib.hid (show h5 ≤ ((t + 1 : Nat) : Int) by have := HH.out; omega)
          have HBL := Lib.hid bl
          have HUC := Lib.hid uc
          have htC : (t : Int) < C := by have := HQ.out; omega
          have htj : (t : Int) < (j : Int) := by have := HQJ.out; omega
          have ht40 : (t : Int) < 16 := by have := HQJ.out; omega
          clear hend hok5 hum5 hl5 hvi5 hh5 bc bl hvi uc htl
          obtain ⟨gx, x_0, x_1, x_2, x_3⟩ := BX.out
          go_wp2_with fail
          go_cut [12, 13] from 63 to 87 (fun x t wz => Hid (Cu wv n M5 ⟨4, 0, 0, u, 0, 0, 1⟩ x t wz))
          case first =>
            have HKc := Lib.hid (show ∀ x', Below wv.heap.size wv x' → (fun w' => w'.cell? ⟨w.heap.size, 0, none⟩ = some (.int .i64 W) ∧ w'.cell? ⟨w.heap.size, 1, none⟩ = some (.int .i64 D) ∧ w'.cell? ⟨w.heap.size, 2, none⟩ = some (.int .i64 J) ∧ w'.cell? ⟨w.heap.size, 3, none⟩ = some (.int .i64 S) ∧ Below wv.heap.size wv w') x' from fun x' hx => by
              obtain ⟨_, e0, e1, e2, e3⟩ := BX.out.below hx
              exact ⟨e0, e1, e2, e3, hx⟩)
            have hHeld0 := HKc.out _ (Below.refl _ _)
            have ZC := Lib.hid (Below.refl wv.heap.size wv).drew
            clear gx x_0 x_1 x_2 x_3
            refine wp_region_held_drew (S := fun w' => w'.cell? ⟨w.heap.size, 0, none⟩ = some (.int .i64 W) ∧ w'.cell? ⟨w.heap.size, 1, none⟩ = some (.int .i64 D) ∧ w'.cell? ⟨w.heap.size, 2, none⟩ = some (.int .i64 J) ∧ w'.cell? ⟨w.heap.size, 3, none⟩ = some (.int .i64 S) ∧ Below wv.heap.size wv w') (by kernel_rfl) (hd_drew HKc.out (fun _ h => h.2.2.2.2) hHeld0) (fun hHeld => ?_)
            refine wpAnyH_take (i := 0) (oi := { dst := some 69, op := Go.Op.load 23 (Go.Operand.tmp 2), type := 23, pos := "law.go:93", after := #[], guard := none }) (v := ?vqd1) rfl (by kernel_rfl) (by kernel_rfl) (by kernel_rfl) (fun _ _ _ h => h) (Or.inl ⟨by rfl, ?yqd1⟩) (by assumption) ?rqd1
            case yqd1 => (intro w hSw; (try dsimp only at hSw); go_simp; (try with_reducible rfl))
            (try simp only [Act.put, List.setIfInBounds_toArray, List.set_cons_zero, List.set_cons_succ])
            refine wpAnyH_take (i := 1) (oi := { dst := some 70, op := Go.Op.move (Go.Operand.tmp 6), type := 25, pos := "law.go:93", after := #[], guard := none }) (v := ?vqd2) rfl (by kernel_rfl) (by kernel_rfl) (by kernel_rfl) (fun _ _ _ h => h) (Or.inl ⟨by rfl, ?yqd2⟩) (by assumption) ?rqd2
            case yqd2 => (intro w hSw; (try dsimp only at hSw); go_simp; (try with_reducible rfl))
            (try simp only [Act.put, List.setIfInBounds_toArray, List.set_cons_zero, List.set_cons_succ])
            refine wpAnyH_ready (rs := [2, 7]) (by kernel_rfl) (by simp) ?_
            refine (AllReadyH.cons (o := { dst := some 71, op := Go.Op.call { callee := Go.Callee.value (Go.Operand.func 16), args := #[Go.Operand.const (Go.Value.int Go.IntKind.i64 4), Go.Operand.const (Go.Value.int Go.IntKind.i64 0), Go.Operand.const (Go.Value.int Go.IntKind.u64 0)], argTypes := #[3, 3, 26] }, type := 28, pos := "law.go:93", after := #[], guard := none }) rfl (fun K hK => ?_) (AllReadyH.cons (o := { dst := some 13, op := Go.Op.alloc 28, type := 0, pos := "law.go:93", after := #[], guard := none }) rfl (fun K hK => ?_) AllReadyH.nil))
            · go_simp
              refine (begin_any 4 0 0 _).mono ?_
              rintro e wb ⟨rfl, zb⟩
              go_wp2_with fail
              replace ZC := Lib.hid (keep_call zb ZC.out)
              clear zb
              refine hK.out _ _ (HKc.out _ ZC.out) (fun hHeld2 => ?_)
              clear hK K hHeld
              have hHeld := hHeld2
              clear hHeld2
              (try simp only [Act.put, List.setIfInBounds_toArray, List.set_cons_zero, List.set_cons_succ])
              refine wpAnyH_ready (rs := [3, 7]) (by kernel_rfl) (by simp) ?_
              refine (AllReadyH.cons (o := { dst := some 72, op := Go.Op.call { callee := Go.Callee.value (Go.Operand.func 18), args := #[Go.Operand.tmp 69, Go.Operand.tmp 70, Go.Operand.tmp 71], argTypes := #[23, 25, 28] }, type := 30, pos := "law.go:93", after := #[{ on := 0, ground := Go.Ground.data }, { on := 1, ground := Go.Ground.data }, { on := 2, ground := Go.Ground.data }, { on := 2, ground := Go.Ground.chain }], guard := none }) rfl (fun K hK => ?_) (AllReadyH.cons (o := { dst := some 13, op := Go.Op.alloc 28, type := 0, pos := "law.go:93", after := #[], guard := none }) rfl (fun K hK => ?_) AllReadyH.nil))
              · go_simp
                refine (one_out (LM.out.below ZC.out) HL.out HS.out HUM.out ⟨U0, U0, U0⟩ rfl HEND.out).mono ?_
                rintro e wo ⟨A9, c9, rfl, hn9, zo⟩
                go_wp2_with fail
                have HN9 := Lib.hid hn9
                replace ZC := Lib.hid (keep_call zo ZC.out)
                clear hn9 zo
                refine hK.out _ _ (HKc.out _ ZC.out) (fun hHeld2 => ?_)
                clear hK K hHeld
                have hHeld := hHeld2
                clear hHeld2
                (try simp only [Act.put, List.setIfInBounds_toArray, List.set_cons_zero, List.set_cons_succ])
                refine wpAnyH_take (i := 4) (oi := { dst := some 68, op := Go.Op.move (Go.Operand.tmp 72), type := 30, pos := "law.go:93", after := #[{ on := 3, ground := Go.Ground.data }], guard := none }) (v := ?vqd3) rfl (by kernel_rfl) (by kernel_rfl) (by kernel_rfl) (fun _ _ _ h => h) (Or.inl ⟨by rfl, ?yqd3⟩) (by assumption) ?rqd3
                case yqd3 => (intro w hSw; (try dsimp only at hSw); go_simp; (try with_reducible rfl))
                (try simp only [Act.put, List.setIfInBounds_toArray, List.set_cons_zero, List.set_cons_succ])
                refine wpAnyH_take (i := 5) (oi := { dst := some 73, op := Go.Op.extract (Go.Operand.tmp 68) 0, type := 25, pos := "law.go:93", after := #[{ on := 4, ground := Go.Ground.data }], guard := none }) (v := ?vqd4) rfl (by kernel_rfl) (by kernel_rfl) (by kernel_rfl) (fun _ _ _ h => h) (Or.inl ⟨by rfl, ?yqd4⟩) (by assumption) ?rqd4
                case yqd4 => (intro w hSw; (try dsimp only at hSw); go_simp; (try with_reducible rfl))
                (try simp only [Act.put, List.setIfInBounds_toArray, List.set_cons_zero, List.set_cons_succ])
                refine wpAnyH_take (i := 6) (oi := { dst := some 74, op := Go.Op.extract (Go.Operand.tmp 68) 1, type := 28, pos := "law.go:93", after := #[{ on := 4, ground := Go.Ground.data }, { on := 8, ground := Go.Ground.gcOnly Go.Departure.lateStores }], guard := none }) (v := ?vqd5) rfl (by kernel_rfl) (by kernel_rfl) (by kernel_rfl) (fun _ _ _ h => h) (Or.inl ⟨by rfl, ?yqd5⟩) (by assumption) ?rqd5
                case yqd5 => (intro w hSw; (try dsimp only at hSw); go_simp; (try with_reducible rfl))
                (try simp only [Act.put, List.setIfInBounds_toArray, List.set_cons_zero, List.set_cons_succ])
                refine wpAnyH_ready (rs := [7]) (by kernel_rfl) (by simp) ?_
                refine (AllReadyH.cons (o := { dst := some 13, op := Go.Op.alloc 28, type := 0, pos := "law.go:93", after := #[], guard := none }) rfl (fun K hK => ?_) AllReadyH.nil)
                go_simp
                have HGS := Lib.hid (show wv.heap.size ≤ wo.heap.size from ZC.out.size)
                have ZO := ZC
                have EO := Lib.hid (show Bf (wo.alloc (.cells #[.int .i64 0, .int .i64 0, .int .i64 0, .int .u64 0, .int .u64 0, .int .u64 0, .int .i64 0] 28)) wo.heap.size f0 from Bf.new wo f0)
                replace ZC := Lib.hid (ZO.out.alloc ZO.out.size (.cells #[.int .i64 0, .int .i64 0, .int .i64 0, .int .u64 0, .int .u64 0, .int .u64 0, .int .i64 0] 28))
                refine hK.out _ _ (HKc.out _ ZC.out) (fun hHeld2 => ?_)
                clear hK K hHeld
                have hHeld := hHeld2
                clear hHeld2
                (try simp only [Act.put, List.setIfInBounds_toArray, List.set_cons_zero, List.set_cons_succ])
                refine wpAnyH_take (i := 8) (oi := { dst := some 12, op := Go.Op.assign (Go.Operand.tmp 73), type := 25, pos := "law.go:93", after := #[{ on := 5, ground := Go.Ground.data }, { on := 3, ground := Go.Ground.chain }, { on := 0, ground := Go.Ground.phase }, { on := 1, ground := Go.Ground.phase }, { on := 2, ground := Go.Ground.phase }, { on := 3, ground := Go.Ground.phase }, { on := 4, ground := Go.Ground.phase }, { on := 5, ground := Go.Ground.phase }, { on := 6, ground := Go.Ground.textOnly Go.Departure.lateStores }, { on := 7, ground := Go.Ground.phase }], guard := none }) (v := ?vqd6) rfl (by kernel_rfl) (by kernel_rfl) (by kernel_rfl) (fun _ _ _ h => h) (Or.inl ⟨by rfl, ?yqd6⟩) (by assumption) ?rqd6
                case yqd6 => (intro w hSw; (try dsimp only at hSw); go_simp; (try with_reducible rfl))
                (try simp only [Act.put, List.setIfInBounds_toArray, List.set_cons_zero, List.set_cons_succ])
                refine wpAnyH_ready (rs := [9]) (by kernel_rfl) (by simp) ?_
                refine (AllReadyH.cons (o := { dst := none, op := Go.Op.store 28 (Go.Operand.tmp 13) (Go.Operand.tmp 74), type := 0, pos := "law.go:93", after := #[{ on := 7, ground := Go.Ground.data }, { on := 6, ground := Go.Ground.data }, { on := 8, ground := Go.Ground.chain }, { on := 0, ground := Go.Ground.phase }, { on := 1, ground := Go.Ground.phase }, { on := 2, ground := Go.Ground.phase }, { on := 3, ground := Go.Ground.phase }, { on := 4, ground := Go.Ground.phase }, { on := 5, ground := Go.Ground.phase }, { on := 6, ground := Go.Ground.phase }, { on := 7, ground := Go.Ground.phase }, { on := 8, ground := Go.Ground.phase }], guard := none }) rfl (fun K hK => ?_) AllReadyH.nil)
                go_simp
                refine hK.out _ _ (HKc.out _ (ZO.out.alloc ZO.out.size _)) (fun hHeld2 => ?_)
                clear hK K hHeld
                have hHeld := hHeld2
                clear hHeld2
                (try simp only [Act.put, List.setIfInBounds_toArray, List.set_cons_zero, List.set_cons_succ])
                refine wpAnyH_done (by kernel_rfl) ?_ _
                go_wp2_with fail
                go_meet
                exact Lib.hid (Cu.last ⟨4, 0, 0, u, 0, 0, 1⟩ HN9.out ZO.out)
              · go_simp
                have HGS := Lib.hid (show wv.heap.size ≤ wb.heap.size from ZC.out.size)
                have ZO := ZC
                have EO := Lib.hid (show Bf (wb.alloc (.cells #[.int .i64 0, .int .i64 0, .int .i64 0, .int .u64 0, .int .u64 0, .int .u64 0, .int .i64 0] 28)) wb.heap.size f0 from Bf.new wb f0)
                replace ZC := Lib.hid (ZO.out.alloc ZO.out.size (.cells #[.int .i64 0, .int .i64 0, .int .i64 0, .int .u64 0, .int .u64 0, .int .u64 0, .int .i64 0] 28))
                refine hK.out _ _ (HKc.out _ ZC.out) (fun hHeld2 => ?_)
                clear hK K hHeld
                have hHeld := hHeld2
                clear hHeld2
                (try simp only [Act.put, List.setIfInBounds_toArray, List.set_cons_zero, List.set_cons_succ])
                refine wpAnyH_ready (rs := [3]) (by kernel_rfl) (by simp) ?_
                refine (AllReadyH.cons (o := { dst := some 72, op := Go.Op.call { callee := Go.Callee.value (Go.Operand.func 18), args := #[Go.Operand.tmp 69, Go.Operand.tmp 70, Go.Operand.tmp 71], argTypes := #[23, 25, 28] }, type := 30, pos := "law.go:93", after := #[{ on := 0, ground := Go.Ground.data }, { on := 1, ground := Go.Ground.data }, { on := 2, ground := Go.Ground.data }, { on := 2, ground := Go.Ground.chain }], guard := none }) rfl (fun K hK => ?_) AllReadyH.nil)
                go_simp
                refine (one_out (LM.out.below ZC.out) HL.out HS.out HUM.out ⟨U0, U0, U0⟩ rfl HEND.out).mono ?_
                rintro e wo ⟨A9, c9, rfl, hn9, zo⟩
                go_wp2_with fail
                have HN9 := Lib.hid hn9
                replace ZC := Lib.hid (keep_call zo ZC.out)
                have HLT := Lib.hid EO.out.lt
                replace EO := Lib.hid (EO.out.after zo)
                obtain ⟨d0, d1, d2, d3, d4, d5, d6⟩ := EO.out.cells
                have fz := EO.out.free
                have ld := EO.out.lt
                clear hn9 zo
                refine hK.out _ _ (HKc.out _ ZC.out) (fun hHeld2 => ?_)
                clear hK K hHeld
                have hHeld := hHeld2
                clear hHeld2
                (try simp only [Act.put, List.setIfInBounds_toArray, List.set_cons_zero, List.set_cons_succ])
                refine wpAnyH_take (i := 4) (oi := { dst := some 68, op := Go.Op.move (Go.Operand.tmp 72), type := 30, pos := "law.go:93", after := #[{ on := 3, ground := Go.Ground.data }], guard := none }) (v := ?vqd7) rfl (by kernel_rfl) (by kernel_rfl) (by kernel_rfl) (fun _ _ _ h => h) (Or.inl ⟨by rfl, ?yqd7⟩) (by assumption) ?rqd7
                case yqd7 => (intro w hSw; (try dsimp only at hSw); go_simp; (try with_reducible rfl))
                (try simp only [Act.put, List.setIfInBounds_toArray, List.set_cons_zero, List.set_cons_succ])
                refine wpAnyH_take (i := 5) (oi := { dst := some 73, op := Go.Op.extract (Go.Operand.tmp 68) 0, type := 25, pos := "law.go:93", after := #[{ on := 4, ground := Go.Ground.data }], guard := none }) (v := ?vqd8) rfl (by kernel_rfl) (by kernel_rfl) (by kernel_rfl) (fun _ _ _ h => h) (Or.inl ⟨by rfl, ?yqd8⟩) (by assumption) ?rqd8
                case yqd8 => (intro w hSw; (try dsimp only at hSw); go_simp; (try with_reducible rfl))
                (try simp only [Act.put, List.setIfInBounds_toArray, List.set_cons_zero, List.set_cons_succ])
                refine wpAnyH_take (i := 6) (oi := { dst := some 74, op := Go.Op.extract (Go.Operand.tmp 68) 1, type := 28, pos := "law.go:93", after := #[{ on := 4, ground := Go.Ground.data }, { on := 8, ground := Go.Ground.gcOnly Go.Departure.lateStores }], guard := none }) (v := ?vqd9) rfl (by kernel_rfl) (by kernel_rfl) (by kernel_rfl) (fun _ _ _ h => h) (Or.inl ⟨by rfl, ?yqd9⟩) (by assumption) ?rqd9
                case yqd9 => (intro w hSw; (try dsimp only at hSw); go_simp; (try with_reducible rfl))
                (try simp only [Act.put, List.setIfInBounds_toArray, List.set_cons_zero, List.set_cons_succ])
                refine wpAnyH_take (i := 8) (oi := { dst := some 12, op := Go.Op.assign (Go.Operand.tmp 73), type := 25, pos := "law.go:93", after := #[{ on := 5, ground := Go.Ground.data }, { on := 3, ground := Go.Ground.chain }, { on := 0, ground := Go.Ground.phase }, { on := 1, ground := Go.Ground.phase }, { on := 2, ground := Go.Ground.phase }, { on := 3, ground := Go.Ground.phase }, { on := 4, ground := Go.Ground.phase }, { on := 5, ground := Go.Ground.phase }, { on := 6, ground := Go.Ground.textOnly Go.Departure.lateStores }, { on := 7, ground := Go.Ground.phase }], guard := none }) (v := ?vqd10) rfl (by kernel_rfl) (by kernel_rfl) (by kernel_rfl) (fun _ _ _ h => h) (Or.inl ⟨by rfl, ?yqd10⟩) (by assumption) ?rqd10
                case yqd10 => (intro w hSw; (try dsimp only at hSw); go_simp; (try with_reducible rfl))
                (try simp only [Act.put, List.setIfInBounds_toArray, List.set_cons_zero, List.set_cons_succ])
                refine wpAnyH_ready (rs := [9]) (by kernel_rfl) (by simp) ?_
                refine (AllReadyH.cons (o := { dst := none, op := Go.Op.store 28 (Go.Operand.tmp 13) (Go.Operand.tmp 74), type := 0, pos := "law.go:93", after := #[{ on := 7, ground := Go.Ground.data }, { on := 6, ground := Go.Ground.data }, { on := 8, ground := Go.Ground.chain }, { on := 0, ground := Go.Ground.phase }, { on := 1, ground := Go.Ground.phase }, { on := 2, ground := Go.Ground.phase }, { on := 3, ground := Go.Ground.phase }, { on := 4, ground := Go.Ground.phase }, { on := 5, ground := Go.Ground.phase }, { on := 6, ground := Go.Ground.phase }, { on := 7, ground := Go.Ground.phase }, { on := 8, ground := Go.Ground.phase }], guard := none }) rfl (fun K hK => ?_) AllReadyH.nil)
                go_simp
                refine hK.out _ _ (hd_set7g HKc.out HGS.out _ _ _ _ _ _ _ ZC.out) (fun hHeld2 => ?_)
                clear hK K hHeld
                have hHeld := hHeld2
                clear hHeld2
                (try simp only [Act.put, List.setIfInBounds_toArray, List.set_cons_zero, List.set_cons_succ])
                refine wpAnyH_done (by kernel_rfl) ?_ _
                go_wp2_with fail
                go_meet
                exact Lib.hid (Cu.box ⟨4, 0, 0, u, 0, 0, 1⟩ EO.out HGS.out HN9.out HLT.out ZC.out)
            · go_simp
              have HGS := Lib.hid (show wv.heap.size ≤ wv.heap.size from ZC.out.size)
              have ZO := ZC
              have EO := Lib.hid (show Bf (wv.drew.alloc (.cells #[.int .i64 0, .int .i64 0, .int .i64 0, .int .u64 0, .int .u64 0, .int .u64 0, .int .i64 0] 28)) wv.heap.size f0 from Bf.new wv.drew f0)
              replace ZC := Lib.hid (ZO.out.alloc ZO.out.size (.cells #[.int .i64 0, .int .i64 0, .int .i64 0, .int .u64 0, .int .u64 0, .int .u64 0, .int .i64 0] 28))
              refine hK.out _ _ (HKc.out _ ZC.out) (fun hHeld2 => ?_)
              clear hK K hHeld
              have hHeld := hHeld2
              clear hHeld2
              (try simp only [Act.put, List.setIfInBounds_toArray, List.set_cons_zero, List.set_cons_succ])
              refine wpAnyH_ready (rs := [2]) (by kernel_rfl) (by simp) ?_
              refine (AllReadyH.cons (o := { dst := some 71, op := Go.Op.call { callee := Go.Callee.value (Go.Operand.func 16), args := #[Go.Operand.const (Go.Value.int Go.IntKind.i64 4), Go.Operand.const (Go.Value.int Go.IntKind.i64 0), Go.Operand.const (Go.Value.int Go.IntKind.u64 0)], argTypes := #[3, 3, 26] }, type := 28, pos := "law.go:93", after := #[], guard := none }) rfl (fun K hK => ?_) AllReadyH.nil)
              go_simp
              refine (begin_any 4 0 0 _).mono ?_
              rintro e wb ⟨rfl, zb⟩
              go_wp2_with fail
              replace ZC := Lib.hid (keep_call zb ZC.out)
              replace EO := Lib.hid (EO.out.after zb)
              clear zb
              refine hK.out _ _ (HKc.out _ ZC.out) (fun hHeld2 => ?_)
              clear hK K hHeld
              have hHeld := hHeld2
              clear hHeld2
              (try simp only [Act.put, List.setIfInBounds_toArray, List.set_cons_zero, List.set_cons_succ])
              refine wpAnyH_ready (rs := [3]) (by kernel_rfl) (by simp) ?_
              refine (AllReadyH.cons (o := { dst := some 72, op := Go.Op.call { callee := Go.Callee.value (Go.Operand.func 18), args := #[Go.Operand.tmp 69, Go.Operand.tmp 70, Go.Operand.tmp 71], argTypes := #[23, 25, 28] }, type := 30, pos := "law.go:93", after := #[{ on := 0, ground := Go.Ground.data }, { on := 1, ground := Go.Ground.data }, { on := 2, ground := Go.Ground.data }, { on := 2, ground := Go.Ground.chain }], guard := none }) rfl (fun K hK => ?_) AllReadyH.nil)
              go_simp
              refine (one_out (LM.out.below ZC.out) HL.out HS.out HUM.out ⟨U0, U0, U0⟩ rfl HEND.out).mono ?_
              rintro e wo ⟨A9, c9, rfl, hn9, zo⟩
              go_wp2_with fail
              have HN9 := Lib.hid hn9
              replace ZC := Lib.hid (keep_call zo ZC.out)
              have HLT := Lib.hid EO.out.lt
              replace EO := Lib.hid (EO.out.after zo)
              obtain ⟨d0, d1, d2, d3, d4, d5, d6⟩ := EO.out.cells
              have fz := EO.out.free
              have ld := EO.out.lt
              clear hn9 zo
              refine hK.out _ _ (HKc.out _ ZC.out) (fun hHeld2 => ?_)
              clear hK K hHeld
              have hHeld := hHeld2
              clear hHeld2
              (try simp only [Act.put, List.setIfInBounds_toArray, List.set_cons_zero, List.set_cons_succ])
              refine wpAnyH_take (i := 4) (oi := { dst := some 68, op := Go.Op.move (Go.Operand.tmp 72), type := 30, pos := "law.go:93", after := #[{ on := 3, ground := Go.Ground.data }], guard := none }) (v := ?vqd11) rfl (by kernel_rfl) (by kernel_rfl) (by kernel_rfl) (fun _ _ _ h => h) (Or.inl ⟨by rfl, ?yqd11⟩) (by assumption) ?rqd11
              case yqd11 => (intro w hSw; (try dsimp only at hSw); go_simp; (try with_reducible rfl))
              (try simp only [Act.put, List.setIfInBounds_toArray, List.set_cons_zero, List.set_cons_succ])
              refine wpAnyH_take (i := 5) (oi := { dst := some 73, op := Go.Op.extract (Go.Operand.tmp 68) 0, type := 25, pos := "law.go:93", after := #[{ on := 4, ground := Go.Ground.data }], guard := none }) (v := ?vqd12) rfl (by kernel_rfl) (by kernel_rfl) (by kernel_rfl) (fun _ _ _ h => h) (Or.inl ⟨by rfl, ?yqd12⟩) (by assumption) ?rqd12
              case yqd12 => (intro w hSw; (try dsimp only at hSw); go_simp; (try with_reducible rfl))
              (try simp only [Act.put, List.setIfInBounds_toArray, List.set_cons_zero, List.set_cons_succ])
              refine wpAnyH_take (i := 6) (oi := { dst := some 74, op := Go.Op.extract (Go.Operand.tmp 68) 1, type := 28, pos := "law.go:93", after := #[{ on := 4, ground := Go.Ground.data }, { on := 8, ground := Go.Ground.gcOnly Go.Departure.lateStores }], guard := none }) (v := ?vqd13) rfl (by kernel_rfl) (by kernel_rfl) (by kernel_rfl) (fun _ _ _ h => h) (Or.inl ⟨by rfl, ?yqd13⟩) (by assumption) ?rqd13
              case yqd13 => (intro w hSw; (try dsimp only at hSw); go_simp; (try with_reducible rfl))
              (try simp only [Act.put, List.setIfInBounds_toArray, List.set_cons_zero, List.set_cons_succ])
              refine wpAnyH_take (i := 8) (oi := { dst := some 12, op := Go.Op.assign (Go.Operand.tmp 73), type := 25, pos := "law.go:93", after := #[{ on := 5, ground := Go.Ground.data }, { on := 3, ground := Go.Ground.chain }, { on := 0, ground := Go.Ground.phase }, { on := 1, ground := Go.Ground.phase }, { on := 2, ground := Go.Ground.phase }, { on := 3, ground := Go.Ground.phase }, { on := 4, ground := Go.Ground.phase }, { on := 5, ground := Go.Ground.phase }, { on := 6, ground := Go.Ground.textOnly Go.Departure.lateStores }, { on := 7, ground := Go.Ground.phase }], guard := none }) (v := ?vqd14) rfl (by kernel_rfl) (by kernel_rfl) (by kernel_rfl) (fun _ _ _ h => h) (Or.inl ⟨by rfl, ?yqd14⟩) (by assumption) ?rqd14
              case yqd14 => (intro w hSw; (try dsimp only at hSw); go_simp; (try with_reducible rfl))
              (try simp only [Act.put, List.setIfInBounds_toArray, List.set_cons_zero, List.set_cons_succ])
              refine wpAnyH_ready (rs := [9]) (by kernel_rfl) (by simp) ?_
              refine (AllReadyH.cons (o := { dst := none, op := Go.Op.store 28 (Go.Operand.tmp 13) (Go.Operand.tmp 74), type := 0, pos := "law.go:93", after := #[{ on := 7, ground := Go.Ground.data }, { on := 6, ground := Go.Ground.data }, { on := 8, ground := Go.Ground.chain }, { on := 0, ground := Go.Ground.phase }, { on := 1, ground := Go.Ground.phase }, { on := 2, ground := Go.Ground.phase }, { on := 3, ground := Go.Ground.phase }, { on := 4, ground := Go.Ground.phase }, { on := 5, ground := Go.Ground.phase }, { on := 6, ground := Go.Ground.phase }, { on := 7, ground := Go.Ground.phase }, { on := 8, ground := Go.Ground.phase }], guard := none }) rfl (fun K hK => ?_) AllReadyH.nil)
              go_simp
              refine hK.out _ _ (hd_set7g HKc.out HGS.out _ _ _ _ _ _ _ ZC.out) (fun hHeld2 => ?_)
              clear hK K hHeld
              have hHeld := hHeld2
              clear hHeld2
              (try simp only [Act.put, List.setIfInBounds_toArray, List.set_cons_zero, List.set_cons_succ])
              refine wpAnyH_done (by kernel_rfl) ?_ _
              go_wp2_with fail
              go_meet
              exact Lib.hid (Cu.box ⟨4, 0, 0, u, 0, 0, 1⟩ EO.out HGS.out HN9.out HLT.out ZC.out)
          case rest =>
            obtain ⟨g1, A1, c1, rfl, rfl, hB, hR, hz⟩ := hcut.out
            replace BX := Lib.hid (BX.out.below hz)
            replace LB := Lib.hid (LB.out.below hz)
            replace LM := Lib.hid (LM.out.below hz)
            replace Z := Lib.hid (Z.out.trans (hz.mono Z.out.size))
            have BG := Lib.hid hB
            have LN := Lib.hid hR
            have uc := (hz.cell (p := bd.add t) (by rw [block_add]; exact HBL.out)).trans HUC.out
            replace KZ := Lib.hid (KZ.out.trans (hz.mono KZ.out.size))
            clear hB hR hz hcut
            obtain ⟨gx, x_0, x_1, x_2, x_3⟩ := BX.out
            obtain ⟨b0, b1, b2, b3, b4, b5, b6⟩ := BG.out.cells
            have lb := BG.out.lt
            simp only at b0 b1 b2 b3 b4 b5 b6
            have huu : (u != u) = false := by simp
            go_wp2_with fail
            go_quiet (fail)
            go_wp2
            go_roundw
            case rel => exact ⟨t + 1, A1, c1, M5, h5, by go_num, rfl, by omega, HH5, Lib.hid (LN.out.below (below_drewN _ _)), HL5, HUM5, HOK5, HVI5, Lib.hid (KZ.out.trans ((below_drewN _ _).mono KZ.out.size))⟩
            case measure => simp [intOf]; omega
        · obtain rfl : t = q := by omega
          have hvi := HVI.out
          rw [show (l.take t).drop t = [] by apply List.drop_eq_nil_of_le; rw [List.length_take]; omega] at hvi
          obtain ⟨M5, hend⟩ := order_nil HOK.out hvi (by have := HH.out; have := HQJ.out; omega)
          have HEND := Lib.hid hend
          have HLEN := Lib.hid (show ilen W D J S M = 0 by have h := (ilst_of HOK.out hvi).2; simpa using h)
          have htC : ¬ (t : Int) < C := by have := HQ.out; omega
          clear hend hvi ht htq
          obtain ⟨gx, x_0, x_1, x_2, x_3⟩ := BX.out
          go_wp2_with fail
          go_cut [14, 15] from 88 to 94 (fun x t wz => Hid (Cu wv n M5 ⟨4, 0, 0, 0, 0, 0, 3⟩ x t wz))
          case first =>
            have HKc := Lib.hid (show ∀ x', Below wv.heap.size wv x' → (fun w' => w'.cell? ⟨w.heap.size, 0, none⟩ = some (.int .i64 W) ∧ w'.cell? ⟨w.heap.size, 1, none⟩ = some (.int .i64 D) ∧ w'.cell? ⟨w.heap.size, 2, none⟩ = some (.int .i64 J) ∧ w'.cell? ⟨w.heap.size, 3, none⟩ = some (.int .i64 S) ∧ Below wv.heap.size wv w') x' from fun x' hx => by
              obtain ⟨_, e0, e1, e2, e3⟩ := BX.out.below hx
              exact ⟨e0, e1, e2, e3, hx⟩)
            have hHeld0 := HKc.out _ (Below.refl _ _)
            have ZC := Lib.hid (Below.refl wv.heap.size wv).drew
            clear gx x_0 x_1 x_2 x_3
            refine wp_region_held_drew (S := fun w' => w'.cell? ⟨w.heap.size, 0, none⟩ = some (.int .i64 W) ∧ w'.cell? ⟨w.heap.size, 1, none⟩ = some (.int .i64 D) ∧ w'.cell? ⟨w.heap.size, 2, none⟩ = some (.int .i64 J) ∧ w'.cell? ⟨w.heap.size, 3, none⟩ = some (.int .i64 S) ∧ Below wv.heap.size wv w') (by kernel_rfl) (hd_drew HKc.out (fun _ h => h.2.2.2.2) hHeld0) (fun hHeld => ?_)
            refine wpAnyH_take (i := 0) (oi := { dst := some 89, op := Go.Op.load 23 (Go.Operand.tmp 2), type := 23, pos := "law.go:99", after := #[], guard := none }) (v := ?vqe1) rfl (by kernel_rfl) (by kernel_rfl) (by kernel_rfl) (fun _ _ _ h => h) (Or.inl ⟨by rfl, ?yqe1⟩) (by assumption) ?rqe1
            case yqe1 => (intro w hSw; (try dsimp only at hSw); go_simp; (try with_reducible rfl))
            (try simp only [Act.put, List.setIfInBounds_toArray, List.set_cons_zero, List.set_cons_succ])
            refine wpAnyH_take (i := 1) (oi := { dst := some 90, op := Go.Op.move (Go.Operand.tmp 6), type := 25, pos := "law.go:99", after := #[], guard := none }) (v := ?vqe2) rfl (by kernel_rfl) (by kernel_rfl) (by kernel_rfl) (fun _ _ _ h => h) (Or.inl ⟨by rfl, ?yqe2⟩) (by assumption) ?rqe2
            case yqe2 => (intro w hSw; (try dsimp only at hSw); go_simp; (try with_reducible rfl))
            (try simp only [Act.put, List.setIfInBounds_toArray, List.set_cons_zero, List.set_cons_succ])
            refine wpAnyH_ready (rs := [2, 7]) (by kernel_rfl) (by simp) ?_
            refine (AllReadyH.cons (o := { dst := some 91, op := Go.Op.call { callee := Go.Callee.value (Go.Operand.func 16), args := #[Go.Operand.const (Go.Value.int Go.IntKind.i64 4), Go.Operand.const (Go.Value.int Go.IntKind.i64 0), Go.Operand.const (Go.Value.int Go.IntKind.u64 0)], argTypes := #[3, 3, 26] }, type := 28, pos := "law.go:99", after := #[], guard := none }) rfl (fun K hK => ?_) (AllReadyH.cons (o := { dst := some 15, op := Go.Op.alloc 28, type := 0, pos := "law.go:99", after := #[], guard := none }) rfl (fun K hK => ?_) AllReadyH.nil))
            · go_simp
              refine (begin_any 4 0 0 _).mono ?_
              rintro e wb ⟨rfl, zb⟩
              go_wp2_with fail
              replace ZC := Lib.hid (keep_call zb ZC.out)
              clear zb
              refine hK.out _ _ (HKc.out _ ZC.out) (fun hHeld2 => ?_)
              clear hK K hHeld
              have hHeld := hHeld2
              clear hHeld2
              (try simp only [Act.put, List.setIfInBounds_toArray, List.set_cons_zero, List.set_cons_succ])
              refine wpAnyH_ready (rs := [3, 7]) (by kernel_rfl) (by simp) ?_
              refine (AllReadyH.cons (o := { dst := some 92, op := Go.Op.call { callee := Go.Callee.value (Go.Operand.func 18), args := #[Go.Operand.tmp 89, Go.Operand.tmp 90, Go.Operand.tmp 91], argTypes := #[23, 25, 28] }, type := 30, pos := "law.go:99", after := #[{ on := 0, ground := Go.Ground.data }, { on := 1, ground := Go.Ground.data }, { on := 2, ground := Go.Ground.data }, { on := 2, ground := Go.Ground.chain }], guard := none }) rfl (fun K hK => ?_) (AllReadyH.cons (o := { dst := some 15, op := Go.Op.alloc 28, type := 0, pos := "law.go:99", after := #[], guard := none }) rfl (fun K hK => ?_) AllReadyH.nil))
              · go_simp
                refine (one_out (LM.out.below ZC.out) HL.out HS.out HUM.out ⟨U0, U0, U0⟩ rfl HEND.out).mono ?_
                rintro e wo ⟨A9, c9, rfl, hn9, zo⟩
                go_wp2_with fail
                have HN9 := Lib.hid hn9
                replace ZC := Lib.hid (keep_call zo ZC.out)
                clear hn9 zo
                refine hK.out _ _ (HKc.out _ ZC.out) (fun hHeld2 => ?_)
                clear hK K hHeld
                have hHeld := hHeld2
                clear hHeld2
                (try simp only [Act.put, List.setIfInBounds_toArray, List.set_cons_zero, List.set_cons_succ])
                refine wpAnyH_take (i := 4) (oi := { dst := some 88, op := Go.Op.move (Go.Operand.tmp 92), type := 30, pos := "law.go:99", after := #[{ on := 3, ground := Go.Ground.data }], guard := none }) (v := ?vqe3) rfl (by kernel_rfl) (by kernel_rfl) (by kernel_rfl) (fun _ _ _ h => h) (Or.inl ⟨by rfl, ?yqe3⟩) (by assumption) ?rqe3
                case yqe3 => (intro w hSw; (try dsimp only at hSw); go_simp; (try with_reducible rfl))
                (try simp only [Act.put, List.setIfInBounds_toArray, List.set_cons_zero, List.set_cons_succ])
                refine wpAnyH_take (i := 5) (oi := { dst := some 93, op := Go.Op.extract (Go.Operand.tmp 88) 0, type := 25, pos := "law.go:99", after := #[{ on := 4, ground := Go.Ground.data }], guard := none }) (v := ?vqe4) rfl (by kernel_rfl) (by kernel_rfl) (by kernel_rfl) (fun _ _ _ h => h) (Or.inl ⟨by rfl, ?yqe4⟩) (by assumption) ?rqe4
                case yqe4 => (intro w hSw; (try dsimp only at hSw); go_simp; (try with_reducible rfl))
                (try simp only [Act.put, List.setIfInBounds_toArray, List.set_cons_zero, List.set_cons_succ])
                refine wpAnyH_take (i := 6) (oi := { dst := some 94, op := Go.Op.extract (Go.Operand.tmp 88) 1, type := 28, pos := "law.go:99", after := #[{ on := 4, ground := Go.Ground.data }, { on := 8, ground := Go.Ground.gcOnly Go.Departure.lateStores }], guard := none }) (v := ?vqe5) rfl (by kernel_rfl) (by kernel_rfl) (by kernel_rfl) (fun _ _ _ h => h) (Or.inl ⟨by rfl, ?yqe5⟩) (by assumption) ?rqe5
                case yqe5 => (intro w hSw; (try dsimp only at hSw); go_simp; (try with_reducible rfl))
                (try simp only [Act.put, List.setIfInBounds_toArray, List.set_cons_zero, List.set_cons_succ])
                refine wpAnyH_ready (rs := [7]) (by kernel_rfl) (by simp) ?_
                refine (AllReadyH.cons (o := { dst := some 15, op := Go.Op.alloc 28, type := 0, pos := "law.go:99", after := #[], guard := none }) rfl (fun K hK => ?_) AllReadyH.nil)
                go_simp
                have HGS := Lib.hid (show wv.heap.size ≤ wo.heap.size from ZC.out.size)
                have ZO := ZC
                have EO := Lib.hid (show Bf (wo.alloc (.cells #[.int .i64 0, .int .i64 0, .int .i64 0, .int .u64 0, .int .u64 0, .int .u64 0, .int .i64 0] 28)) wo.heap.size f0 from Bf.new wo f0)
                replace ZC := Lib.hid (ZO.out.alloc ZO.out.size (.cells #[.int .i64 0, .int .i64 0, .int .i64 0, .int .u64 0, .int .u64 0, .int .u64 0, .int .i64 0] 28))
                refine hK.out _ _ (HKc.out _ ZC.out) (fun hHeld2 => ?_)
                clear hK K hHeld
                have hHeld := hHeld2
                clear hHeld2
                (try simp only [Act.put, List.setIfInBounds_toArray, List.set_cons_zero, List.set_cons_succ])
                refine wpAnyH_take (i := 8) (oi := { dst := some 14, op := Go.Op.assign (Go.Operand.tmp 93), type := 25, pos := "law.go:99", after := #[{ on := 5, ground := Go.Ground.data }, { on := 3, ground := Go.Ground.chain }, { on := 0, ground := Go.Ground.phase }, { on := 1, ground := Go.Ground.phase }, { on := 2, ground := Go.Ground.phase }, { on := 3, ground := Go.Ground.phase }, { on := 4, ground := Go.Ground.phase }, { on := 5, ground := Go.Ground.phase }, { on := 6, ground := Go.Ground.textOnly Go.Departure.lateStores }, { on := 7, ground := Go.Ground.phase }], guard := none }) (v := ?vqe6) rfl (by kernel_rfl) (by kernel_rfl) (by kernel_rfl) (fun _ _ _ h => h) (Or.inl ⟨by rfl, ?yqe6⟩) (by assumption) ?rqe6
                case yqe6 => (intro w hSw; (try dsimp only at hSw); go_simp; (try with_reducible rfl))
                (try simp only [Act.put, List.setIfInBounds_toArray, List.set_cons_zero, List.set_cons_succ])
                refine wpAnyH_ready (rs := [9]) (by kernel_rfl) (by simp) ?_
                refine (AllReadyH.cons (o := { dst := none, op := Go.Op.store 28 (Go.Operand.tmp 15) (Go.Operand.tmp 94), type := 0, pos := "law.go:99", after := #[{ on := 7, ground := Go.Ground.data }, { on := 6, ground := Go.Ground.data }, { on := 8, ground := Go.Ground.chain }, { on := 0, ground := Go.Ground.phase }, { on := 1, ground := Go.Ground.phase }, { on := 2, ground := Go.Ground.phase }, { on := 3, ground := Go.Ground.phase }, { on := 4, ground := Go.Ground.phase }, { on := 5, ground := Go.Ground.phase }, { on := 6, ground := Go.Ground.phase }, { on := 7, ground := Go.Ground.phase }, { on := 8, ground := Go.Ground.phase }], guard := none }) rfl (fun K hK => ?_) AllReadyH.nil)
                go_simp
                refine hK.out _ _ (HKc.out _ (ZO.out.alloc ZO.out.size _)) (fun hHeld2 => ?_)
                clear hK K hHeld
                have hHeld := hHeld2
                clear hHeld2
                (try simp only [Act.put, List.setIfInBounds_toArray, List.set_cons_zero, List.set_cons_succ])
                refine wpAnyH_done (by kernel_rfl) ?_ _
                go_wp2_with fail
                go_meet
                exact Lib.hid (Cu.last ⟨4, 0, 0, 0, 0, 0, 3⟩ HN9.out ZO.out)
              · go_simp
                have HGS := Lib.hid (show wv.heap.size ≤ wb.heap.size from ZC.out.size)
                have ZO := ZC
                have EO := Lib.hid (show Bf (wb.alloc (.cells #[.int .i64 0, .int .i64 0, .int .i64 0, .int .u64 0, .int .u64 0, .int .u64 0, .int .i64 0] 28)) wb.heap.size f0 from Bf.new wb f0)
                replace ZC := Lib.hid (ZO.out.alloc ZO.out.size (.cells #[.int .i64 0, .int .i64 0, .int .i64 0, .int .u64 0, .int .u64 0, .int .u64 0, .int .i64 0] 28))
                refine hK.out _ _ (HKc.out _ ZC.out) (fun hHeld2 => ?_)
                clear hK K hHeld
                have hHeld := hHeld2
                clear hHeld2
                (try simp only [Act.put, List.setIfInBounds_toArray, List.set_cons_zero, List.set_cons_succ])
                refine wpAnyH_ready (rs := [3]) (by kernel_rfl) (by simp) ?_
                refine (AllReadyH.cons (o := { dst := some 92, op := Go.Op.call { callee := Go.Callee.value (Go.Operand.func 18), args := #[Go.Operand.tmp 89, Go.Operand.tmp 90, Go.Operand.tmp 91], argTypes := #[23, 25, 28] }, type := 30, pos := "law.go:99", after := #[{ on := 0, ground := Go.Ground.data }, { on := 1, ground := Go.Ground.data }, { on := 2, ground := Go.Ground.data }, { on := 2, ground := Go.Ground.chain }], guard := none }) rfl (fun K hK => ?_) AllReadyH.nil)
                go_simp
                refine (one_out (LM.out.below ZC.out) HL.out HS.out HUM.out ⟨U0, U0, U0⟩ rfl HEND.out).mono ?_
                rintro e wo ⟨A9, c9, rfl, hn9, zo⟩
                go_wp2_with fail
                have HN9 := Lib.hid hn9
                replace ZC := Lib.hid (keep_call zo ZC.out)
                have HLT := Lib.hid EO.out.lt
                replace EO := Lib.hid (EO.out.after zo)
                obtain ⟨d0, d1, d2, d3, d4, d5, d6⟩ := EO.out.cells
                have fz := EO.out.free
                have ld := EO.out.lt
                clear hn9 zo
                refine hK.out _ _ (HKc.out _ ZC.out) (fun hHeld2 => ?_)
                clear hK K hHeld
                have hHeld := hHeld2
                clear hHeld2
                (try simp only [Act.put, List.setIfInBounds_toArray, List.set_cons_zero, List.set_cons_succ])
                refine wpAnyH_take (i := 4) (oi := { dst := some 88, op := Go.Op.move (Go.Operand.tmp 92), type := 30, pos := "law.go:99", after := #[{ on := 3, ground := Go.Ground.data }], guard := none }) (v := ?vqe7) rfl (by kernel_rfl) (by kernel_rfl) (by kernel_rfl) (fun _ _ _ h => h) (Or.inl ⟨by rfl, ?yqe7⟩) (by assumption) ?rqe7
                case yqe7 => (intro w hSw; (try dsimp only at hSw); go_simp; (try with_reducible rfl))
                (try simp only [Act.put, List.setIfInBounds_toArray, List.set_cons_zero, List.set_cons_succ])
                refine wpAnyH_take (i := 5) (oi := { dst := some 93, op := Go.Op.extract (Go.Operand.tmp 88) 0, type := 25, pos := "law.go:99", after := #[{ on := 4, ground := Go.Ground.data }], guard := none }) (v := ?vqe8) rfl (by kernel_rfl) (by kernel_rfl) (by kernel_rfl) (fun _ _ _ h => h) (Or.inl ⟨by rfl, ?yqe8⟩) (by assumption) ?rqe8
                case yqe8 => (intro w hSw; (try dsimp only at hSw); go_simp; (try with_reducible rfl))
                (try simp only [Act.put, List.setIfInBounds_toArray, List.set_cons_zero, List.set_cons_succ])
                refine wpAnyH_take (i := 6) (oi := { dst := some 94, op := Go.Op.extract (Go.Operand.tmp 88) 1, type := 28, pos := "law.go:99", after := #[{ on := 4, ground := Go.Ground.data }, { on := 8, ground := Go.Ground.gcOnly Go.Departure.lateStores }], guard := none }) (v := ?vqe9) rfl (by kernel_rfl) (by kernel_rfl) (by kernel_rfl) (fun _ _ _ h => h) (Or.inl ⟨by rfl, ?yqe9⟩) (by assumption) ?rqe9
                case yqe9 => (intro w hSw; (try dsimp only at hSw); go_simp; (try with_reducible rfl))
                (try simp only [Act.put, List.setIfInBounds_toArray, List.set_cons_zero, List.set_cons_succ])
                refine wpAnyH_take (i := 8) (oi := { dst := some 14, op := Go.Op.assign (Go.Operand.tmp 93), type := 25, pos := "law.go:99", after := #[{ on := 5, ground := Go.Ground.data }, { on := 3, ground := Go.Ground.chain }, { on := 0, ground := Go.Ground.phase }, { on := 1, ground := Go.Ground.phase }, { on := 2, ground := Go.Ground.phase }, { on := 3, ground := Go.Ground.phase }, { on := 4, ground := Go.Ground.phase }, { on := 5, ground := Go.Ground.phase }, { on := 6, ground := Go.Ground.textOnly Go.Departure.lateStores }, { on := 7, ground := Go.Ground.phase }], guard := none }) (v := ?vqe10) rfl (by kernel_rfl) (by kernel_rfl) (by kernel_rfl) (fun _ _ _ h => h) (Or.inl ⟨by rfl, ?yqe10⟩) (by assumption) ?rqe10
                case yqe10 => (intro w hSw; (try dsimp only at hSw); go_simp; (try with_reducible rfl))
                (try simp only [Act.put, List.setIfInBounds_toArray, List.set_cons_zero, List.set_cons_succ])
                refine wpAnyH_ready (rs := [9]) (by kernel_rfl) (by simp) ?_
                refine (AllReadyH.cons (o := { dst := none, op := Go.Op.store 28 (Go.Operand.tmp 15) (Go.Operand.tmp 94), type := 0, pos := "law.go:99", after := #[{ on := 7, ground := Go.Ground.data }, { on := 6, ground := Go.Ground.data }, { on := 8, ground := Go.Ground.chain }, { on := 0, ground := Go.Ground.phase }, { on := 1, ground := Go.Ground.phase }, { on := 2, ground := Go.Ground.phase }, { on := 3, ground := Go.Ground.phase }, { on := 4, ground := Go.Ground.phase }, { on := 5, ground := Go.Ground.phase }, { on := 6, ground := Go.Ground.phase }, { on := 7, ground := Go.Ground.phase }, { on := 8, ground := Go.Ground.phase }], guard := none }) rfl (fun K hK => ?_) AllReadyH.nil)
                go_simp
                refine hK.out _ _ (hd_set7g HKc.out HGS.out _ _ _ _ _ _ _ ZC.out) (fun hHeld2 => ?_)
                clear hK K hHeld
                have hHeld := hHeld2
                clear hHeld2
                (try simp only [Act.put, List.setIfInBounds_toArray, List.set_cons_zero, List.set_cons_succ])
                refine wpAnyH_done (by kernel_rfl) ?_ _
                go_wp2_with fail
                go_meet
                exact Lib.hid (Cu.box ⟨4, 0, 0, 0, 0, 0, 3⟩ EO.out HGS.out HN9.out HLT.out ZC.out)
            · go_simp
              have HGS := Lib.hid (show wv.heap.size ≤ wv.heap.size from ZC.out.size)
              have ZO := ZC
              have EO := Lib.hid (show Bf (wv.drew.alloc (.cells #[.int .i64 0, .int .i64 0, .int .i64 0, .int .u64 0, .int .u64 0, .int .u64 0, .int .i64 0] 28)) wv.heap.size f0 from Bf.new wv.drew f0)
              replace ZC := Lib.hid (ZO.out.alloc ZO.out.size (.cells #[.int .i64 0, .int .i64 0, .int .i64 0, .int .u64 0, .int .u64 0, .int .u64 0, .int .i64 0] 28))
              refine hK.out _ _ (HKc.out _ ZC.out) (fun hHeld2 => ?_)
              clear hK K hHeld
              have hHeld := hHeld2
              clear hHeld2
              (try simp only [Act.put, List.setIfInBounds_toArray, List.set_cons_zero, List.set_cons_succ])
              refine wpAnyH_ready (rs := [2]) (by kernel_rfl) (by simp) ?_
              refine (AllReadyH.cons (o := { dst := some 91, op := Go.Op.call { callee := Go.Callee.value (Go.Operand.func 16), args := #[Go.Operand.const (Go.Value.int Go.IntKind.i64 4), Go.Operand.const (Go.Value.int Go.IntKind.i64 0), Go.Operand.const (Go.Value.int Go.IntKind.u64 0)], argTypes := #[3, 3, 26] }, type := 28, pos := "law.go:99", after := #[], guard := none }) rfl (fun K hK => ?_) AllReadyH.nil)
              go_simp
              refine (begin_any 4 0 0 _).mono ?_
              rintro e wb ⟨rfl, zb⟩
              go_wp2_with fail
              replace ZC := Lib.hid (keep_call zb ZC.out)
              replace EO := Lib.hid (EO.out.after zb)
              clear zb
              refine hK.out _ _ (HKc.out _ ZC.out) (fun hHeld2 => ?_)
              clear hK K hHeld
              have hHeld := hHeld2
              clear hHeld2
              (try simp only [Act.put, List.setIfInBounds_toArray, List.set_cons_zero, List.set_cons_succ])
              refine wpAnyH_ready (rs := [3]) (by kernel_rfl) (by simp) ?_
              refine (AllReadyH.cons (o := { dst := some 92, op := Go.Op.call { callee := Go.Callee.value (Go.Operand.func 18), args := #[Go.Operand.tmp 89, Go.Operand.tmp 90, Go.Operand.tmp 91], argTypes := #[23, 25, 28] }, type := 30, pos := "law.go:99", after := #[{ on := 0, ground := Go.Ground.data }, { on := 1, ground := Go.Ground.data }, { on := 2, ground := Go.Ground.data }, { on := 2, ground := Go.Ground.chain }], guard := none }) rfl (fun K hK => ?_) AllReadyH.nil)
              go_simp
              refine (one_out (LM.out.below ZC.out) HL.out HS.out HUM.out ⟨U0, U0, U0⟩ rfl HEND.out).mono ?_
              rintro e wo ⟨A9, c9, rfl, hn9, zo⟩
              go_wp2_with fail
              have HN9 := Lib.hid hn9
              replace ZC := Lib.hid (keep_call zo ZC.out)
              have HLT := Lib.hid EO.out.lt
              replace EO := Lib.hid (EO.out.after zo)
              obtain ⟨d0, d1, d2, d3, d4, d5, d6⟩ := EO.out.cells
              have fz := EO.out.free
              have ld := EO.out.lt
              clear hn9 zo
              refine hK.out _ _ (HKc.out _ ZC.out) (fun hHeld2 => ?_)
              clear hK K hHeld
              have hHeld := hHeld2
              clear hHeld2
              (try simp only [Act.put, List.setIfInBounds_toArray, List.set_cons_zero, List.set_cons_succ])
              refine wpAnyH_take (i := 4) (oi := { dst := some 88, op := Go.Op.move (Go.Operand.tmp 92), type := 30, pos := "law.go:99", after := #[{ on := 3, ground := Go.Ground.data }], guard := none }) (v := ?vqe11) rfl (by kernel_rfl) (by kernel_rfl) (by kernel_rfl) (fun _ _ _ h => h) (Or.inl ⟨by rfl, ?yqe11⟩) (by assumption) ?rqe11
              case yqe11 => (intro w hSw; (try dsimp only at hSw); go_simp; (try with_reducible rfl))
              (try simp only [Act.put, List.setIfInBounds_toArray, List.set_cons_zero, List.set_cons_succ])
              refine wpAnyH_take (i := 5) (oi := { dst := some 93, op := Go.Op.extract (Go.Operand.tmp 88) 0, type := 25, pos := "law.go:99", after := #[{ on := 4, ground := Go.Ground.data }], guard := none }) (v := ?vqe12) rfl (by kernel_rfl) (by kernel_rfl) (by kernel_rfl) (fun _ _ _ h => h) (Or.inl ⟨by rfl, ?yqe12⟩) (by assumption) ?rqe12
              case yqe12 => (intro w hSw; (try dsimp only at hSw); go_simp; (try with_reducible rfl))
              (try simp only [Act.put, List.setIfInBounds_toArray, List.set_cons_zero, List.set_cons_succ])
              refine wpAnyH_take (i := 6) (oi := { dst := some 94, op := Go.Op.extract (Go.Operand.tmp 88) 1, type := 28, pos := "law.go:99", after := #[{ on := 4, ground := Go.Ground.data }, { on := 8, ground := Go.Ground.gcOnly Go.Departure.lateStores }], guard := none }) (v := ?vqe13) rfl (by kernel_rfl) (by kernel_rfl) (by kernel_rfl) (fun _ _ _ h => h) (Or.inl ⟨by rfl, ?yqe13⟩) (by assumption) ?rqe13
              case yqe13 => (intro w hSw; (try dsimp only at hSw); go_simp; (try with_reducible rfl))
              (try simp only [Act.put, List.setIfInBounds_toArray, List.set_cons_zero, List.set_cons_succ])
              refine wpAnyH_take (i := 8) (oi := { dst := some 14, op := Go.Op.assign (Go.Operand.tmp 93), type := 25, pos := "law.go:99", after := #[{ on := 5, ground := Go.Ground.data }, { on := 3, ground := Go.Ground.chain }, { on := 0, ground := Go.Ground.phase }, { on := 1, ground := Go.Ground.phase }, { on := 2, ground := Go.Ground.phase }, { on := 3, ground := Go.Ground.phase }, { on := 4, ground := Go.Ground.phase }, { on := 5, ground := Go.Ground.phase }, { on := 6, ground := Go.Ground.textOnly Go.Departure.lateStores }, { on := 7, ground := Go.Ground.phase }], guard := none }) (v := ?vqe14) rfl (by kernel_rfl) (by kernel_rfl) (by kernel_rfl) (fun _ _ _ h => h) (Or.inl ⟨by rfl, ?yqe14⟩) (by assumption) ?rqe14
              case yqe14 => (intro w hSw; (try dsimp only at hSw); go_simp; (try with_reducible rfl))
              (try simp only [Act.put, List.setIfInBounds_toArray, List.set_cons_zero, List.set_cons_succ])
              refine wpAnyH_ready (rs := [9]) (by kernel_rfl) (by simp) ?_
              refine (AllReadyH.cons (o := { dst := none, op := Go.Op.store 28 (Go.Operand.tmp 15) (Go.Operand.tmp 94), type := 0, pos := "law.go:99", after := #[{ on := 7, ground := Go.Ground.data }, { on := 6, ground := Go.Ground.data }, { on := 8, ground := Go.Ground.chain }, { on := 0, ground := Go.Ground.phase }, { on := 1, ground := Go.Ground.phase }, { on := 2, ground := Go.Ground.phase }, { on := 3, ground := Go.Ground.phase }, { on := 4, ground := Go.Ground.phase }, { on := 5, ground := Go.Ground.phase }, { on := 6, ground := Go.Ground.phase }, { on := 7, ground := Go.Ground.phase }, { on := 8, ground := Go.Ground.phase }], guard := none }) rfl (fun K hK => ?_) AllReadyH.nil)
              go_simp
              refine hK.out _ _ (hd_set7g HKc.out HGS.out _ _ _ _ _ _ _ ZC.out) (fun hHeld2 => ?_)
              clear hK K hHeld
              have hHeld := hHeld2
              clear hHeld2
              (try simp only [Act.put, List.setIfInBounds_toArray, List.set_cons_zero, List.set_cons_succ])
              refine wpAnyH_done (by kernel_rfl) ?_ _
              go_wp2_with fail
              go_meet
              exact Lib.hid (Cu.box ⟨4, 0, 0, 0, 0, 0, 3⟩ EO.out HGS.out HN9.out HLT.out ZC.out)
          case rest =>
            obtain ⟨g1, A1, c1, rfl, rfl, hB, hR, hz⟩ := hcut.out
            replace BX := Lib.hid (BX.out.below hz)
            replace LB := Lib.hid (LB.out.below hz)
            replace LM := Lib.hid (LM.out.below hz)
            replace Z := Lib.hid (Z.out.trans (hz.mono Z.out.size))
            have BG := Lib.hid hB
            have LN := Lib.hid hR
            clear hB hR hz hcut
            obtain ⟨gx, x_0, x_1, x_2, x_3⟩ := BX.out
            obtain ⟨b0, b1, b2, b3, b4, b5, b6⟩ := BG.out.cells
            have lb := BG.out.lt
            simp only at b0 b1 b2 b3 b4 b5 b6
            go_wp2_with fail
            refine (Tells.of (qlen_any W D J S A n c M _ LM.out HL.out HS.out) (v' := .int .i64 0) (by rw [HLEN.out])).mono ?_
            rintro _ w4 ⟨rfl, z⟩
            clear gx x_0 x_1 x_2 x_3 b0 b1 b2 b3 b4 b5 b6 lb
            replace Z := Lib.hid (Z.out.trans (z.mono Z.out.size))
            replace BX := Lib.hid (BX.out.below z)
            replace LB := Lib.hid (LB.out.below z)
            replace LM := Lib.hid (LM.out.below z)
            replace BG := Lib.hid (BG.out.after z)
            replace LN := Lib.hid (LN.out.below z)
            clear z
            go_wp2
            go_ret
            exact ⟨rfl, Z.out⟩
theorem order_walk (W D J S : Int) (B : Option Addr) (k e : Nat) (w : World) (l : List Int) (hl : Rd w B l) (hlk : l.length = k) (hul : UM l) : Tells 5 #[cf W D J S, .slice B k e] w (.bool true) := by
  cases hm : may W D J S
  · exact order_no W D J S B k e w hm
  · by_cases hk : k ≤ 40
    · exact order_main W D J S B k e w l hl hlk hul hm hk
    · exact order_big W D J S B k e w hm (by omega)
end Go.Proofs.Ytelelhjgejnpcaa
