/- Contracts of the document's own Under and Same, of the chapter's tasks, and of awake. -/
import Derived.Test.YtajbnpjdhmeeiaaFoX
namespace Go.Proofs.Ytajbnpjdhmeeiaa
open Go.RowKit Go.Deep

theorem own_new (w : World) (base : Nat) (k : Int) (hb : base ≤ w.heap.size) : Own (w.alloc (.cells #[.int .i64 k] 3)) base (some ⟨w.heap.size, 0, none⟩) 1 1 [k] :=
  ⟨rfl, .inr ⟨w.heap.size, 1, #[.int .i64 k], rfl, hb, World.alloc_heap_new w _, Nat.le_refl _, by unfold maxLen; omega, rfl, rfl⟩⟩

set_option maxRecDepth 100000 in
set_option maxHeartbeats 2000000 in
theorem runder_in (n₀ : Nat) (A : Option Addr) (c : Nat) (T : List Tsk) (hs : Sm T) (hok : okP T.length (sp T)) (f : Nat) : ∀ (r : Nat), r < T.length → T.length ≤ r + f → ∀ w : World, Tk n₀ w A T → n₀ ≤ w.heap.size →
    Calls Try.prog 27 #[.slice A T.length c, .int .i64 r] w (RetL w (unf T f r)) := by
  induction f with
  | zero => intro r h1 h2; omega
  | succ f ih =>
    intro r hr hf w hT hn₀
    have hN : (unf T (f + 1) r).length ≤ 1000 := by
      rw [unf_fuel hok (f + 1) T.length r hr hf (by omega)]
      have := U1_len hok hr
      unfold U1 at this
      have := hs.1
      omega
    rw [unf, kids_eq hr] at hN ⊢
    have HN := Lib.hid hN
    have HT := Lib.hid hT
    have HS := Lib.hid hs
    have HO := Lib.hid hok
    have IH := Lib.hid ih
    have hs1 := hs.1
    have hkl := hs.at hr
    have O0 := Lib.hid (own_new w w.heap.size r (Nat.le_refl _))
    clear hN hT hs hok ih
    go_enter Try.func27, Try.ntmps27
    go_wp2_with fail
    go_loopw [5, 6] (fun s i wr => ∃ (j : Nat) (R : Option Addr) (d : Nat), j ≤ T[r].2.length ∧ i = .int .i64 j ∧ s = .slice R ((r : Int) :: (T[r].2.take j).flatMap fun k => unf T f k.toNat).length d ∧ Own wr w.heap.size R ((r : Int) :: (T[r].2.take j).flatMap fun k => unf T f k.toNat).length d ((r : Int) :: (T[r].2.take j).flatMap fun k => unf T f k.toNat) ∧ Below w.heap.size w wr) (fun _ i _ => T[r].2.length - (intOf i).toNat)
    case atStart => exact ⟨0, _, 1, Nat.zero_le _, rfl, rfl, O0.out, (Below.refl _ _).alloc (Nat.le_refl _) _⟩
    case round =>
      obtain ⟨j, R, d, hj, rfl, rfl, hO, hB⟩ := hrel
      have HOw := Lib.hid hO
      have HB := Lib.hid hB
      clear hO hB
      obtain ⟨b, off, K, c', rfl, hal, c0, c1, hk⟩ := (HT.out.below (HB.out.mono hn₀)).at hr
      by_cases hlj : j < T[r].2.length
      · obtain ⟨kb, ko, rfl, hkl', kc⟩ := hk.at hlj
        obtain ⟨hd1, hd2⟩ := kid_ok HO.out hr hlj
        obtain ⟨q, hq⟩ : ∃ q : Nat, T[r].2[j] = (q : Int) := ⟨T[r].2[j].toNat, by omega⟩
        have hlen := flat_le (g := fun k => unf T f k.toNat) hlj
        have hsu := flat_succ (g := fun k => unf T f k.toNat) hlj
        rw [hq] at kc hd1 hd2 hlen hsu
        have hqq : (q : Int).toNat = q := by omega
        rw [hqq] at hlen hsu
        have HL := Lib.hid hlen
        have HSU := Lib.hid hsu
        clear hq hlen hqq hsu hk
        generalize hP : ((r : Int) :: (T[r].2.take j).flatMap fun k => unf T f k.toNat) = P at *
        have HP := Lib.hid hP
        clear hP
        go_wp2_with fail
        refine (IH.out q (by omega) (by omega) _ (HT.out.below (HB.out.mono hn₀)) (Nat.le_trans hn₀ HB.out.size)).mono ?_
        rintro _ w2 ⟨R2, d2, rfl, hr2, z2⟩
        have z3 := HB.out.trans (z2.mono HB.out.size)
        have hbd : P.length + (unf T f q).length ≤ 1000000 := by
          have h1 := HL.out
          have h2 := HN.out
          have h3 := congrArg List.length HP.out
          simp only [List.length_cons] at h2 h3
          omega
        obtain ⟨R', d', w3, hrun, hown, hb⟩ := run_app (HOw.out.below z2) d2 (hr2.rd (Nat.le_refl _)) rfl hbd z3.size
        have RUN := Lib.hid hrun
        have OWN := Lib.hid hown
        have B3 := Lib.hid (z3.trans hb)
        clear z2 z3 hrun hown hb hr2 hbd
        go_wp2_with (at_builtin; (with_reducible refine wpList_append_run RUN.out ?_ ?_ ?_ ?_); exact ⟨_, _, rfl, rfl, rfl⟩; rfl; rfl)
        have e : (r : Int) :: (T[r].2.take (j + 1)).flatMap (fun k => unf T f k.toNat) = P ++ unf T f q := by
          rw [HSU.out, ← List.cons_append, HP.out]
        have HE := Lib.hid e
        clear e
        go_roundw
        case rel => exact ⟨j + 1, R', d', by omega, by go_num, by rw [HE.out, List.length_append], by rw [HE.out, List.length_append]; exact OWN.out, B3.out⟩
        case measure => simp [intOf]; omega
      · go_wp2
        go_ret
        obtain rfl : j = T[r].2.length := by omega
        have h1 := HOw.out
        rw [List.take_length] at h1
        refine ⟨R, d, by rw [List.take_length]; rfl, h1.rd.rdB, HB.out⟩
theorem rUnder_any (A : Option Addr) (c n₀ : Nat) (T : List Tsk) (r : Int) (w : World) (hT : Tk n₀ w A T) (hn₀ : n₀ ≤ w.heap.size) (hs : Sm T) : Calls Try.prog 20 #[.slice A T.length c, .int .i64 r] w (RetL w (und T r)) := by
  have HT := Lib.hid hT
  have HS := Lib.hid hs
  have hs1 := hs.1
  clear hT hs
  cases hm : may T
  · have E := Lib.hid (show und T r = [] by unfold und; rw [hm]; simp)
    rw [E.out]
    have HM := Lib.hid hm
    clear hm
    go_enter Try.func20, Try.ntmps20
    go_wp2_with fail
    refine (Tells.of (rmay_any A c n₀ T _ HT.out hn₀ HS.out) (v' := .bool false) (by rw [HM.out])).mono ?_
    rintro _ w1 ⟨rfl, z1⟩
    have Z := Lib.hid z1
    clear z1
    go_wp2
    go_ret
    exact ⟨none, 0, rfl, fun h => by simp at h, Z.out⟩
  · have HM := Lib.hid hm
    by_cases h1 : r < 0
    · have E := Lib.hid (show und T r = [] by unfold und; rw [if_neg (by omega)])
      rw [E.out]
      clear hm
      go_enter Try.func20, Try.ntmps20
      go_wp2_with fail
      refine (Tells.of (rmay_any A c n₀ T _ HT.out hn₀ HS.out) (v' := .bool true) (by rw [HM.out])).mono ?_
      rintro _ w1 ⟨rfl, z1⟩
      have Z := Lib.hid z1
      clear z1
      go_wp2
      go_ret
      exact ⟨none, 0, rfl, fun h => by simp at h, Z.out⟩
    · by_cases h2 : (T.length : Int) ≤ r
      · have E := Lib.hid (show und T r = [] by unfold und; rw [if_neg (by omega)])
        rw [E.out]
        clear hm
        go_enter Try.func20, Try.ntmps20
        go_wp2_with fail
        refine (Tells.of (rmay_any A c n₀ T _ HT.out hn₀ HS.out) (v' := .bool true) (by rw [HM.out])).mono ?_
        rintro _ w1 ⟨rfl, z1⟩
        have Z := Lib.hid z1
        clear z1
        go_wp2
        go_ret
        exact ⟨none, 0, rfl, fun h => by simp at h, Z.out⟩
      · obtain ⟨q, rfl⟩ : ∃ q : Nat, r = q := ⟨r.toNat, by omega⟩
        have E := Lib.hid (show und T q = unf T T.length q by unfold und; rw [if_pos ⟨hm, by omega, by omega⟩, Int.toNat_natCast])
        rw [E.out]
        clear hm
        go_enter Try.func20, Try.ntmps20
        go_wp2_with fail
        refine (Tells.of (rmay_any A c n₀ T _ HT.out hn₀ HS.out) (v' := .bool true) (by rw [HM.out])).mono ?_
        rintro _ w1 ⟨rfl, z1⟩
        have Z := Lib.hid z1
        clear z1
        go_wp2_with fail
        refine (runder_in n₀ A c T HS.out (may_parts HM.out).2.2 T.length q (by omega) (by omega) _ (HT.out.below (Z.out.mono hn₀)) (Nat.le_trans hn₀ Z.out.size)).mono ?_
        rintro _ w2 ⟨R, d, rfl, hr, z2⟩
        have HR := Lib.hid hr
        have Z2 := Lib.hid (Z.out.trans (z2.mono Z.out.size))
        clear hr z2
        go_wp2
        go_ret
        exact ⟨R, d, rfl, HR.out, Z2.out⟩
end Go.Proofs.Ytajbnpjdhmeeiaa
