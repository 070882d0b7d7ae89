/- Contracts of deeds and Once, of the document's own answers, and of Nums. -/
import Derived.Test.YtelelhjgejnpcaaFrC
namespace Go.Proofs.Ytelelhjgejnpcaa
open Go.RowKit Go.Deep
theorem rover_any (f : Fr) (w : World) : Tells 57 #[fv f] w (.bool (f.res != 0)) := by
  obtain ⟨o, c, p, v, x, y, r⟩ := f
  go_enter Try.func57, Try.ntmps57
  go_wp2
  go_ret
  exact ⟨rfl, (Below.refl _ _).alloc (Nat.le_refl _) _⟩
theorem rend_any (f : Fr) (r v : Int) (w : World) : Tells 32 #[fv f, .int .i64 r, .int .u64 v] w (fv (ed f r v)) := by
  obtain ⟨o, c, p, v', x, y, r'⟩ := f
  go_enter Try.func32, Try.ntmps32
  go_wp2
  refine bodyPost_ret (by simp [results, Try.results32, go_sem]; try rfl) rfl ?_
  exact ⟨rfl, ((Below.refl _ _).alloc (Nat.le_refl _) _).alloc (by simp) _⟩
/-- Are two lists the same? -/
theorem nums_any (A B : Option Addr) (n m c d : Nat) (l k : List Int) (w : World) (hA : Rd w A l) (hB : Rd w B k) (hl : l.length = n) (hk : k.length = m) (hn : n ≤ 1001) (hm : m ≤ 1001) :
    Calls Try.prog 15 #[.slice A n c, .slice B m d] w fun e w' => e = .returned (.bool (decide (l = k))) ∧ ∃ q, w' = w.drewN q := by
  by_cases hnm : n = m
  · subst hnm
    have HA := Lib.hid hA
    have HB := Lib.hid hB
    have HL := Lib.hid hl
    have HK := Lib.hid hk
    clear hA hB hl hk hm
    go_enter Try.func15, Try.ntmps15
    go_wp2
    go_loopw [5] (fun i wr => ∃ j q : Nat, i = .int .i64 j ∧ wr = w.drewN q ∧ j ≤ n ∧ Hid (l.take j = k.take j)) (fun i _ => n - (intOf i).toNat)
    case atStart => exact ⟨0, 0, rfl, rfl, by omega, Lib.hid rfl⟩
    case round =>
      obtain ⟨j, q, rfl, rfl, hj, HT⟩ := hrel
      by_cases hlt : j < n
      · have h1 : j < l.length := by rw [HL.out]; exact hlt
        have h2 : j < k.length := by rw [HK.out]; exact hlt
        obtain ⟨a, rfl, al, ac⟩ := HA.out (by omega)
        obtain ⟨b, rfl, bl, bc⟩ := HB.out (by omega)
        have c1 := ac j _ (List.getElem?_eq_getElem h1)
        have c2 := bc j _ (List.getElem?_eq_getElem h2)
        have hjl : (j : Int) < (n : Int) := by omega
        have E1 := Lib.hid (show l.take (j + 1) = l.take j ++ [l[j]] by simp)
        have E2 := Lib.hid (show k.take (j + 1) = k.take j ++ [k[j]] by simp)
        have E3 := Lib.hid (show l = k → l[j] = k[j] from fun e => by simp [e])
        generalize l[j] = u at *
        generalize k[j] = v at *
        clear ac bc al bl h1 h2
        by_cases huv : u = v
        · subst huv
          go_wp2_with fail
          go_quiet (fail)
          go_wp2
          go_roundw
          case rel => exact ⟨j + 1, _, by go_num, rfl, by omega, Lib.hid (by rw [E1.out, E2.out, HT.out])⟩
          case measure => simp [intOf]; omega
        · have hne : (u == v) = false := by simpa using huv
          have E := Lib.hid (show decide (l = k) = false from decide_eq_false (fun e => huv (E3.out e)))
          clear huv
          go_wp2_with fail
          go_quiet (fail)
          go_wp2
          go_ret
          exact ⟨by rw [E.out]; rfl, _, World.drewN_drewN _ _ _⟩
      · obtain rfl : j = n := by omega
        have E := Lib.hid (show decide (l = k) = true by
          have e1 := HT.out
          rw [List.take_of_length_le (by rw [HL.out]; exact Nat.le_refl _), List.take_of_length_le (by rw [HK.out]; exact Nat.le_refl _)] at e1
          exact decide_eq_true e1)
        go_wp2
        go_ret
        exact ⟨by rw [E.out]; rfl, _, rfl⟩
  · have hne : ((n : Int) == (m : Int)) = false := by simp; omega
    have E := Lib.hid (show decide (l = k) = false from decide_eq_false (fun e => hnm (by rw [← hl, ← hk, e])))
    clear hA hB hl hk
    go_enter Try.func15, Try.ntmps15
    go_wp2
    go_ret
    exact ⟨by rw [E.out]; rfl, 0, rfl⟩
end Go.Proofs.Ytelelhjgejnpcaa
