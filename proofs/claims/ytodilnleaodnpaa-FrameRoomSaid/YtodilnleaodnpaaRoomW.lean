/- The walk of FrameRoom: all of it. -/
import Derived.Test.YtodilnleaodnpaaRoomA
import Derived.Test.YtodilnleaodnpaaRoomB
import Derived.Test.YtodilnleaodnpaaRoomC
namespace Go.Proofs.Ytodilnleaodnpaa
open Go.RowKit Go.Deep
theorem beq_no {a b : Int} (h : ¬ a = b) : (a == b) = false := by simpa using h
theorem frameRoom_walk (A : Option Addr) (n c : Nat) (l : List Int) (r i : Int) (f : Fr) (w : World) (hA : Rd w A l) (hn : l.length = n) (hc : n ≤ c) : Tells 6 #[.slice A n c, .int .i64 r, fv f, .int .i64 i] w (.bool true) := by
  by_cases hm : n ≤ 300
  · obtain ⟨o, p, q, v, x, y, s⟩ := f
    by_cases st : s ≠ 0 ∨ o < 0 ∨ 4 < o
    · have e1 : on l r ⟨o, p, q, v, x, y, s⟩ = (l, ⟨o, p, q, v, x, y, s⟩) := on_leave st
      have same : ∀ j u, l[j]? = some u → j < n → l[j]? = some u := fun _ _ h _ => h
      by_cases hr : (n : Int) ≤ r
      · by_cases o2 : o = 2
        · subst o2
          by_cases s1 : s = 1
          · subst s1; exact room_S3l A n c n l l r i p q v x y w hA hn hc hm hn e1 rfl same ⟨hr, hr⟩
          · exact room_S2l A n c n l l r i p q v x y s w hA hn hc hm hn e1 rfl same ⟨hr, hr⟩ (beq_no s1)
        by_cases o4 : o = 4
        · subst o4
          by_cases s1 : s = 1
          · subst s1; exact room_S5l A n c n l l r i p q v x y w hA hn hc hm hn e1 rfl same ⟨hr, hr⟩
          · exact room_S4l A n c n l l r i p q v x y s w hA hn hc hm hn e1 rfl same ⟨hr, hr⟩ (beq_no s1)
        exact room_S1l A n c n l l r i o p q v x y s w hA hn hc hm hn e1 rfl same ⟨hr, hr⟩ (beq_no o2) (beq_no o4)
      · have hr := Int.lt_of_not_ge hr
        by_cases o2 : o = 2
        · subst o2
          by_cases s1 : s = 1
          · subst s1; exact room_S3g A n c n l l r i p q v x y w hA hn hc hm hn e1 rfl same hr
          · exact room_S2g A n c n l l r i p q v x y s w hA hn hc hm hn e1 rfl same hr (beq_no s1)
        by_cases o4 : o = 4
        · subst o4
          by_cases s1 : s = 1
          · subst s1; exact room_S5g A n c n l l r i p q v x y w hA hn hc hm hn e1 rfl same hr
          · exact room_S4g A n c n l l r i p q v x y s w hA hn hc hm hn e1 rfl same hr (beq_no s1)
        exact room_S1g A n c n l l r i o p q v x y s w hA hn hc hm hn e1 rfl same hr (beq_no o2) (beq_no o4)
    · obtain rfl : s = 0 := by omega
      by_cases k0 : o = 0 ∨ o = 3
      · by_cases hr : (l.length : Int) < r
        · have e1 : on l r ⟨o, p, q, v, x, y, 0⟩ = (l ++ [v], ⟨o, 0, q, v, 0, 0, 1⟩) := by
            simp only [on, if_pos k0, onPut, ed]
            rw [if_neg (by decide), if_neg (by omega)]
          exact room_Pl A n c (n + 1) l (l ++ [v]) r i o p q v x y v w hA hn hc hm (by simp [hn]) e1 rfl (fun j u h hj => by rwa [List.getElem?_append_left (by omega)] at h) (by omega) (beq_no (by omega)) (beq_no (by omega))
        · have e1 : on l r ⟨o, p, q, v, x, y, 0⟩ = (l, ⟨o, 0, q, v, 0, 0, 2⟩) := by
            simp only [on, if_pos k0, onPut, ed]
            rw [if_neg (by decide), if_pos (by omega)]
          by_cases hr : (n : Int) ≤ r
          · exact room_Q0l A n c n l l r i o p q v x y v w hA hn hc hm hn e1 rfl (fun _ _ h _ => h) ⟨hr, hr⟩ (beq_no (by omega)) (beq_no (by omega))
          · exact room_Q0g A n c n l l r i o p q v x y v w hA hn hc hm hn e1 rfl (fun _ _ h _ => h) (by omega) (beq_no (by omega)) (beq_no (by omega))
      by_cases k1 : o = 1
      · subst k1
        rcases List.eq_nil_or_concat l with rfl | ⟨t, u, rfl⟩
        · have e1 : on [] r ⟨1, p, q, v, x, y, 0⟩ = ([], ⟨1, 0, q, 0, 0, 0, 3⟩) := by simp [on, onLast, ed]
          by_cases hr : (n : Int) ≤ r
          · exact room_Q1l A n c n [] [] r i 1 p q v x y 0 w hA hn hc hm hn e1 rfl (fun _ _ h _ => h) ⟨hr, hr⟩ rfl rfl
          · exact room_Q1g A n c n [] [] r i 1 p q v x y 0 w hA hn hc hm hn e1 rfl (fun _ _ h _ => h) (by omega) rfl rfl
        · rw [List.concat_eq_append] at *
          have e1 : on (t ++ [u]) r ⟨1, p, q, v, x, y, 0⟩ = (t, ⟨1, 0, q, u, 0, 0, 1⟩) := by simp [on, onLast, ed]
          have hl : t.length + 1 = n := by simpa using hn
          have same : ∀ j k, t[j]? = some k → j < n → (t ++ [u])[j]? = some k := fun j k h _ => by
            rw [List.getElem?_append_left (List.getElem?_eq_some_iff.1 h).1]; exact h
          by_cases hr : (n : Int) ≤ r
          · exact room_Ll A n c t.length (t ++ [u]) t r i 1 p q v x y u w hA hn hc hm rfl e1 hl.symm same ⟨hr, by omega⟩ rfl rfl
          · exact room_Lg A n c t.length (t ++ [u]) t r i 1 p q v x y u w hA hn hc hm rfl e1 hl.symm same (by omega) rfl rfl
      have k2 : o = 2 ∨ o = 4 := by omega
      rcases k2 with rfl | rfl
      · rcases l with _ | ⟨u, t⟩
        · have e1 : on [] r ⟨2, p, q, v, x, y, 0⟩ = ([], ⟨2, 0, q, 0, 0, 0, 3⟩) := by simp [on, onFirst, ed]
          by_cases hr : (n : Int) ≤ r
          · exact room_Q2l A n c n [] [] r i p q v x y 0 w hA hn hc hm hn e1 rfl (fun _ _ h _ => h) ⟨hr, hr⟩
          · exact room_Q2g A n c n [] [] r i p q v x y 0 w hA hn hc hm hn e1 rfl (fun _ _ h _ => h) (by omega)
        · have e1 : on (u :: t) r ⟨2, p, q, v, x, y, 0⟩ = (t, ⟨2, 0, q, u, 0, 0, 1⟩) := by simp [on, onFirst, ed]
          have hl : t.length + 1 = n := by simpa using hn
          by_cases hr : (n : Int) ≤ r
          · exact room_F2l A n c t.length (u :: t) t r i p q v x y u w hA hn hc hm rfl e1 hl.symm (fun j k h => by simpa using h) ⟨hr, by omega⟩
          · exact room_F2g A n c t.length (u :: t) t r i p q v x y u w hA hn hc hm rfl e1 hl.symm (fun j k h => by simpa using h) (by omega)
      · rcases l with _ | ⟨u, t⟩
        · have e1 : on [] r ⟨4, p, q, v, x, y, 0⟩ = ([], ⟨4, 0, q, 0, 0, 0, 3⟩) := by simp [on, onFirst, ed]
          by_cases hr : (n : Int) ≤ r
          · exact room_Q4l A n c n [] [] r i p q v x y 0 w hA hn hc hm hn e1 rfl (fun _ _ h _ => h) ⟨hr, hr⟩
          · exact room_Q4g A n c n [] [] r i p q v x y 0 w hA hn hc hm hn e1 rfl (fun _ _ h _ => h) (by omega)
        · have e1 : on (u :: t) r ⟨4, p, q, v, x, y, 0⟩ = (t, ⟨4, 0, q, u, 0, 0, 1⟩) := by simp [on, onFirst, ed]
          have hl : t.length + 1 = n := by simpa using hn
          by_cases hr : (n : Int) ≤ r
          · exact room_F4l A n c t.length (u :: t) t r i p q v x y u w hA hn hc hm rfl e1 hl.symm (fun j k h => by simpa using h) ⟨hr, by omega⟩
          · exact room_F4g A n c t.length (u :: t) t r i p q v x y u w hA hn hc hm rfl e1 hl.symm (fun j k h => by simpa using h) (by omega)
  · exact room_big A n c r i f w (by omega)
end Go.Proofs.Ytodilnleaodnpaa
