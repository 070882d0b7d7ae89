/- Contract of Decode. -/
import Derived.Test.YtnabomdadhgeeaaDrC
namespace Go.Proofs.Ytnabomdadhgeeaa
open Go.RowKit Go.Deep
/-- The cells of a new row of n picks. -/
def mc (n : Nat) : Array Value := madeCells #[.int .i64 0, .int .i64 0, .int .u64 0] (n * 3)
theorem make_run (n : Nat) (hn : n ≤ 100000) (w : World) :
    (Instr.makeSlice 26 (.int .i64 0) (.int .i64 (n : Int))).run Try.prog w = .ok (.slice (some ⟨w.heap.size, 0, none⟩) 0 n) (w.alloc (.cells (mc n) 25)) := by
  obtain ⟨i0, hi0, hz'⟩ := Option.map_eq_some_iff.1 Try.info25
  simp only [Prod.mk.injEq] at hz'
  obtain ⟨hz0, hz1, hz2⟩ := hz'
  have h := run_make (P := Try.prog) w 26 25 i0 _ Try.underlying26 hi0 hz0 .i64 .i64 0 (n : Int) (Int.le_refl _) (by omega) (by rw [hz2]; omega) (by omega)
  rw [h, hz1]
  rfl
theorem Ow.made (w : World) (n base : Nat) (hn : n ≤ 100000) (hb : base ≤ w.heap.size) : Ow (w.alloc (.cells (mc n) 25)) base (some ⟨w.heap.size, 0, none⟩) 0 n [] :=
  World.ownsRow_made w (mc n) n hb (by simp only [maxLen]; omega) (by unfold mc; rw [size_madeCells])
def lenV : Value → Nat
  | .slice _ n _ => n
  | _ => 0
theorem By.drop {n : Nat} {w : World} {b off : Nat} {l : List Int} (h : By n w (some ⟨b, off, none⟩) l) (i : Nat) : By n w (some ⟨b, off + i, none⟩) (l.drop i) := fun hp => by
  obtain ⟨b', off', e, hlt, hc⟩ := h (by simp at hp; omega)
  cases e
  refine ⟨b, off + i, rfl, hlt, fun j x hx => ?_⟩
  rw [List.getElem?_drop] at hx
  rw [Nat.add_assoc]
  exact hc _ x hx
theorem By.nil (n : Nat) (w : World) (A : Option Addr) : By n w A [] := fun h => by simp at h
set_option maxHeartbeats 1000000 in
theorem dec_any (A : Option Addr) (c n₀ : Nat) (b : List Int) (w : World) (h : By n₀ w A b) (hn : n₀ ≤ w.heap.size) (hs : b.length ≤ 1000) (hc : b.length ≤ c) (hcm : c ≤ maxLen) (hb : Bs b) : Calls Try.prog 12 #[.slice A b.length c] w (RetP w (dec b)) := by
  have H := Lib.hid h
  have HB := Lib.hid hb
  unfold maxLen at hcm
  have hq : (b.length : Int).tdiv 3 = ((b.length / 3 : Nat) : Int) := by rw [Int.tdiv_eq_ediv_of_nonneg (by omega)]; omega
  have hmk := make_run (b.length / 3) (by omega)
  have OM := Lib.hid (Ow.made w (b.length / 3) w.heap.size (by omega) (Nat.le_refl _))
  have BM := Lib.hid ((Below.refl w.heap.size w).alloc (Nat.le_refl _) (.cells (mc (b.length / 3)) 25))
  have hm1 : b.length / 3 ≤ 1000 := by omega
  generalize hm : b.length / 3 = m at *
  have HM := Lib.hid hm
  clear h hb hm
  go_enter Try.func12, Try.ntmps12
  go_wp2
  go_loopw [0, 3] (fun s r wr => ∃ (j n' c' : Nat) (A' R : Option Addr) (d : Nat), n' + 3 * j = b.length ∧ n' ≤ c' ∧ c' ≤ c ∧ s = .slice A' n' c' ∧ r = .slice R j d ∧ By n₀ wr A' (b.drop (3 * j)) ∧ Ow wr w.heap.size R j d (decN b j) ∧ Below w.heap.size w wr) (fun s _ _ => lenV s)
  case atStart => exact ⟨0, b.length, c, A, _, _, by omega, hc, Nat.le_refl _, rfl, rfl, H.out.below (BM.out.mono hn), OM.out, BM.out⟩
  case round =>
    obtain ⟨j, n', c', A', R, d, hj, hn', hc', rfl, rfl, hY, hO, hB⟩ := hrel
    by_cases hlt : 3 ≤ n'
    · have hl : (b.drop (3 * j)).length = n' := by simp; omega
      obtain ⟨g, off, rfl, hgl, c0⟩ := hY.at (i := 0) (by omega)
      obtain ⟨g', off', e, _, c1⟩ := hY.at (i := 1) (by omega)
      cases e
      obtain ⟨g', off', e, _, c2⟩ := hY.at (i := 2) (by omega)
      cases e
      have hx : (b.drop (3 * j))[0] = b[3 * j] ∧ (b.drop (3 * j))[1] = b[3 * j + 1] ∧ (b.drop (3 * j))[2] = b[3 * j + 2] := ⟨by simp, by simp, by simp⟩
      rw [hx.1, Nat.add_zero] at c0
      rw [hx.2.1] at c1
      rw [hx.2.2] at c2
      have x0 := HB.out.at (i := 3 * j) (by omega)
      have x1 := HB.out.at (i := 3 * j + 1) (by omega)
      have x2 := HB.out.at (i := 3 * j + 2) (by omega)
      have hbt : bt b j = (b[3 * j] % 4, b[3 * j + 1], b[3 * j + 2]) := by unfold bt; rw [getD_at (by omega), getD_at (by omega), getD_at (by omega)]
      have hj' : j ≤ 1000 := by omega
      have HJ := Lib.hid hj
      clear hx
      generalize b[3 * j] = y0 at *
      generalize b[3 * j + 1] = y1 at *
      generalize b[3 * j + 2] = y2 at *
      clear hj hl
      have HO : Ow wr.drew w.heap.size R j d (decN b j) := hO
      obtain ⟨R', d', w', hrun, hown, hbel⟩ := app_one HO (y0 % 4, y1, y2) (by omega) hB.size
      have RUN := Lib.hid hrun
      have OWN := Lib.hid hown
      have BW := Lib.hid (hB.drew.trans hbel)
      have BT := Lib.hid hbt
      have YY := Lib.hid (show By n₀ w' (if c' = 3 then some ⟨g, off, none⟩ else some ⟨g, off + 3, none⟩) (b.drop (3 * (j + 1))) by
        split
        · rw [List.drop_eq_nil_of_le (by have := HJ.out; omega)]
          exact By.nil _ _ _
        · have := (hY.below (w' := w') ((((Below.refl n₀ wr).drew).trans (hbel.mono hn)))).drop 3
          rw [List.drop_drop] at this
          exact this)
      have t4 : y0.tmod 4 = y0 % 4 := Int.tmod_eq_emod_of_nonneg x0.1
      have t5 : IntKind.i64.wrap (y0 % 4) = y0 % 4 := by rw [IntKind.wrap_i64]; omega
      have t6 : IntKind.i64.wrap y1 = y1 := by rw [IntKind.wrap_i64]; omega
      have t7 : IntKind.u64.wrap y2 = y2 := by rw [IntKind.wrap_u64]; omega
      have i0 : 0 < n' := by omega
      have i1 : (1 : Int) < (n' : Int) := by omega
      have i2 : (2 : Int) < (n' : Int) := by omega
      clear hO HO hrun hown hbel hbt hB hY hmk
      go_wp2
      go_region_law (refine step_append_run RUN.out ⟨_, _, rfl, rfl, rfl⟩ rfl rfl ?_)
      all_goals
        go_wp2
        go_roundw
        case rel => exact ⟨j + 1, n' - 3, c' - 3, _, R', d', by have := HJ.out; omega, by omega, by omega, rfl, rfl, YY.out, by rw [decN_succ, BT.out]; exact OWN.out, BW.out⟩
        case measure => simp only [lenV]; omega
    · have HO := Lib.hid hO
      have HBl := Lib.hid hB
      have e : (dec b).length = j := by unfold dec; rw [decN_len]; omega
      have e2 : dec b = decN b j := by unfold dec; congr 1; omega
      have E := Lib.hid e
      have E2 := Lib.hid e2
      clear hO hB e e2 hmk
      go_wp2
      go_ret
      refine ⟨R, d, by rw [E.out]; rfl, ?_, HBl.out⟩
      rw [E.out, E2.out]
      exact HO.out
end Go.Proofs.Ytnabomdadhgeeaa
