/- Once, on lists, and its contract. -/
import Derived.Test.YtfeccpfkpbminaaFrD
import Derived.Test.YtfeccpfkpbminaaFrF
namespace Go.Proofs.Ytfeccpfkpbminaa
open Go.RowKit Go.Deep
/-- Put in. -/
def onPut (l : List Int) (r : Int) (f : Fr) : List Int × Fr := if r ≤ l.length then (l, ed f 2 f.val) else (l ++ [f.val], ed f 1 f.val)
/-- Take the last one. -/
def onLast (l : List Int) (f : Fr) : List Int × Fr := match l.getLast? with
  | none => ([], ed f 3 0)
  | some u => (l.dropLast, ed f 1 u)
/-- Take the first one. -/
def onFirst (l : List Int) (f : Fr) : List Int × Fr := match l with
  | [] => ([], ed f 3 0)
  | u :: t => (t, ed f 1 u)
/-- What a call does, all at once. -/
def on (l : List Int) (r : Int) (f : Fr) : List Int × Fr :=
  if f.res ≠ 0 then (l, f)
  else if f.op = 0 ∨ f.op = 3 then onPut l r f
  else if f.op = 1 then onLast l f
  else if f.op = 2 ∨ f.op = 4 then onFirst l f
  else (l, f)
theorem onLast_snoc (l : List Int) (u : Int) (f : Fr) : onLast (l ++ [u]) f = (l, ed f 1 u) := by simp [onLast]
theorem put_any (A : Option Addr) (n c : Nat) (l : List Int) (r : Int) (f : Fr) (w : World) (h : Rd w A l) (hn : l.length = n) (hc : n ≤ c) (hs : n ≤ 1000) : Calls Try.prog 58 #[.slice A n c, .int .i64 r, fv f] w (RetO w (onPut l r f).1 (onPut l r f).2) := by
  unfold onPut
  split
  · exact put_full A n c l r f w h hn hs (by rw [← hn]; assumption)
  · exact put_room A n c l r f w h hn hc hs (by rw [← hn]; assumption)
theorem last_any (A : Option Addr) (n c : Nat) (l : List Int) (r : Int) (f : Fr) (w : World) (h : Rd w A l) (hn : l.length = n) (hc : n ≤ c) (hs : n ≤ 1000) : Calls Try.prog 59 #[.slice A n c, .int .i64 r, fv f] w (RetO w (onLast l f).1 (onLast l f).2) := by
  subst hn
  rcases List.eq_nil_or_concat l with rfl | ⟨t, u, rfl⟩
  · exact last_none A c r f w
  · rw [List.concat_eq_append] at *
    rw [onLast_snoc]
    have := last_some A t.length c t u r f w h rfl (by simpa using hc) (by simpa using hs)
    simpa using this
theorem first_any (A : Option Addr) (n c : Nat) (l : List Int) (r : Int) (f : Fr) (w : World) (h : Rd w A l) (hn : l.length = n) (hc : n ≤ c) (hs : n ≤ 1000) : Calls Try.prog 60 #[.slice A n c, .int .i64 r, fv f] w (RetO w (onFirst l f).1 (onFirst l f).2) := by
  subst hn
  rcases l with _ | ⟨u, t⟩
  · exact first_none A c r f w
  · exact first_some A t.length c t u r f w h rfl hc hs
theorem once_any (A : Option Addr) (n c : Nat) (l : List Int) (r : Int) (f : Fr) (w : World) (h : Rd w A l) (hn : l.length = n) (hc : n ≤ c) (hs : n ≤ 1000) : Calls Try.prog 15 #[.slice A n c, .int .i64 r, fv f] w (RetO w (on l r f).1 (on l r f).2) := by
  unfold on
  by_cases h0 : f.res = 0
  · rw [if_neg (by simpa using h0)]
    by_cases o0 : f.op = 0
    · rw [if_pos (.inl o0)]
      exact once_deed A n c 0 58 l _ r f _ w h h0 o0 (by omega) rfl (by simp) (fun w' h' => put_any A n c l r f w' h' hn hc hs)
    by_cases o3 : f.op = 3
    · rw [if_pos (.inr o3)]
      exact once_deed A n c 3 58 l _ r f _ w h h0 o3 (by omega) rfl (by simp) (fun w' h' => put_any A n c l r f w' h' hn hc hs)
    rw [if_neg (by omega)]
    by_cases o1 : f.op = 1
    · rw [if_pos o1]
      exact once_deed A n c 1 59 l _ r f _ w h h0 o1 (by omega) rfl (by simp) (fun w' h' => last_any A n c l r f w' h' hn hc hs)
    rw [if_neg o1]
    by_cases o2 : f.op = 2
    · rw [if_pos (.inl o2)]
      exact once_deed A n c 2 60 l _ r f _ w h h0 o2 (by omega) rfl (by simp) (fun w' h' => first_any A n c l r f w' h' hn hc hs)
    by_cases o4 : f.op = 4
    · rw [if_pos (.inr o4)]
      exact once_deed A n c 4 60 l _ r f _ w h h0 o4 (by omega) rfl (by simp) (fun w' h' => first_any A n c l r f w' h' hn hc hs)
    rw [if_neg (by omega)]
    by_cases o5 : f.op = 5
    · exact once_deed A n c 5 40 l _ r f _ w h h0 o5 (by omega) rfl (by simp) (fun w' h' => leave_any A n c l r f w' h' hn hs)
    by_cases o6 : f.op = 6
    · exact once_deed A n c 6 40 l _ r f _ w h h0 o6 (by omega) rfl (by simp) (fun w' h' => leave_any A n c l r f w' h' hn hs)
    by_cases o7 : f.op = 7
    · exact once_deed A n c 7 40 l _ r f _ w h h0 o7 (by omega) rfl (by simp) (fun w' h' => leave_any A n c l r f w' h' hn hs)
    exact once_leave A n c l r f w h hn hs false (by simp [h0]) (by omega)
  · rw [if_pos (by simpa using h0)]
    exact once_leave A n c l r f w h hn hs true (by simp [h0]) (.inl rfl)
end Go.Proofs.Ytfeccpfkpbminaa
