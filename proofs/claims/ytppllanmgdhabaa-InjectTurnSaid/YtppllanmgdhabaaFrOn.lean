/- Contract of Once. -/
import Derived.Test.YtppllanmgdhabaaFrD
import Derived.Test.YtppllanmgdhabaaFrF
import Derived.Test.YtppllanmgdhabaaFrH2
namespace Go.Proofs.Ytppllanmgdhabaa
open Go.RowKit Go.Deep
set_option maxRecDepth 100000 in
theorem put_any (A : Option Addr) (n c : Nat) (l : List Int) (r : Int) (f : Fr) (w : World) (h : Rd w A l) (hn : l.length = n) (hc : n ≤ c) (hs : n ≤ 1000) : Calls Try.prog 78 #[.slice A n c, .int .i64 r, fv f] w (RetO w (onPut l r f).1 (onPut l r f).2) := by
  unfold onPut
  split
  · exact put_full A n c l r f w h hn hs (by rw [← hn]; assumption)
  · exact put_room A n c l r f w h hn hc hs (by rw [← hn]; assumption)
set_option maxRecDepth 100000 in
theorem last_any (A : Option Addr) (n c : Nat) (l : List Int) (r : Int) (f : Fr) (w : World) (h : Rd w A l) (hn : l.length = n) (hc : n ≤ c) (hs : n ≤ 1000) : Calls Try.prog 79 #[.slice A n c, .int .i64 r, fv f] w (RetO w (onLast l f).1 (onLast l f).2) := by
  subst hn
  rcases List.eq_nil_or_concat l with rfl | ⟨t, u, rfl⟩
  · exact last_none A c r f w
  · rw [List.concat_eq_append] at *
    rw [onLast_snoc]
    have := last_some A t.length c t u r f w h rfl (by simpa using hc) (by simpa using hs)
    simpa using this
set_option maxRecDepth 100000 in
theorem first_any (A : Option Addr) (n c : Nat) (l : List Int) (r : Int) (f : Fr) (w : World) (h : Rd w A l) (hn : l.length = n) (hc : n ≤ c) (hs : n ≤ 1000) : Calls Try.prog 80 #[.slice A n c, .int .i64 r, fv f] w (RetO w (onFirst l f).1 (onFirst l f).2) := by
  subst hn
  rcases l with _ | ⟨u, t⟩
  · exact first_none A c r f w
  · exact first_some A t.length c t u r f w h rfl hc hs
set_option maxRecDepth 100000 in
theorem once_any (A : Option Addr) (n c : Nat) (l : List Int) (r : Int) (f : Fr) (w : World) (h : Rd w A l) (hn : l.length = n) (hc : n ≤ c) (hs : n ≤ 1000) : Calls Try.prog 26 #[.slice A n c, .int .i64 r, fv f] w (RetO w (on l r f).1 (on l r f).2) := by
  unfold on
  by_cases h0 : f.res = 0
  · rw [if_neg (by simpa using h0)]
    by_cases o0 : f.op = 0
    · rw [if_pos (.inl o0)]
      exact once_deed A n c 0 78 l _ r f _ w h h0 o0 (by omega) rfl (by simp) (fun w' h' => put_any A n c l r f w' h' hn hc hs)
    by_cases o3 : f.op = 3
    · rw [if_pos (.inr o3)]
      exact once_deed A n c 3 78 l _ r f _ w h h0 o3 (by omega) rfl (by simp) (fun w' h' => put_any A n c l r f w' h' hn hc hs)
    rw [if_neg (by omega)]
    by_cases o1 : f.op = 1
    · rw [if_pos o1]
      exact once_deed A n c 1 79 l _ r f _ w h h0 o1 (by omega) rfl (by simp) (fun w' h' => last_any A n c l r f w' h' hn hc hs)
    rw [if_neg o1]
    by_cases o2 : f.op = 2
    · rw [if_pos (.inl o2)]
      exact once_deed A n c 2 80 l _ r f _ w h h0 o2 (by omega) rfl (by simp) (fun w' h' => first_any A n c l r f w' h' hn hc hs)
    by_cases o4 : f.op = 4
    · rw [if_pos (.inr o4)]
      exact once_deed A n c 4 80 l _ r f _ w h h0 o4 (by omega) rfl (by simp) (fun w' h' => first_any A n c l r f w' h' hn hc hs)
    rw [if_neg (by omega)]
    by_cases o5 : f.op = 5
    · exact once_deed A n c 5 57 l _ r f _ w h h0 o5 (by omega) rfl (by simp) (fun w' h' => leave_any A n c l r f w' h' hn hs)
    by_cases o6 : f.op = 6
    · exact once_deed A n c 6 57 l _ r f _ w h h0 o6 (by omega) rfl (by simp) (fun w' h' => leave_any A n c l r f w' h' hn hs)
    by_cases o7 : f.op = 7
    · exact once_deed A n c 7 57 l _ r f _ w h h0 o7 (by omega) rfl (by simp) (fun w' h' => leave_any A n c l r f w' h' hn hs)
    exact once_leave A n c l r f w h hn hs false (by simp [h0]) (by omega)
  · rw [if_pos (by simpa using h0)]
    exact once_leave A n c l r f w h hn hs true (by simp [h0]) (.inl rfl)
set_option maxRecDepth 100000 in
/-- Once, where what it comes to is known. -/
theorem once_at {A : Option Addr} {n c : Nat} {l : List Int} {r : Int} {f : Fr} {w : World} (l' : List Int) (f' : Fr) (e : on l r f = (l', f')) (h : Rd w A l) (hn : l.length = n) (hc : n ≤ c) (hs : n ≤ 1000) : Calls Try.prog 26 #[.slice A n c, .int .i64 r, fv f] w (RetO w l' f') := by
  have := once_any A n c l r f w h hn hc hs
  rw [e] at this
  exact this
end Go.Proofs.Ytppllanmgdhabaa
