/- Small laws that several walks of stage 7 use: lists that are known by a letter, calls that go on or not. -/
import Derived.Test.YtjddglandcpfpaaPuH2
import Derived.Test.YtjddglandcpfpaaSameR
import Derived.Test.YtjddglandcpfpaaFrH2
namespace Go.Proofs.Ytjddglandcpfpaa
open Go.RowKit Go.Deep
theorem lst_len {W D J S x : Int} {m l : List Int} (hu : UM m) (h : lst W D J S m x = some l) : l.length ≤ 16 := by
  have h1 := (lst_some hu h).2.len
  have h2 := (may_lim (okw_iff.1 (lst_some hu h).1).1).2.1
  omega
theorem lst_len0 {W D J S x : Int} {m : List Int} (hu : UM m) : ((lst W D J S m x).getD []).length ≤ 16 := by
  cases h : lst W D J S m x with
  | none => simp
  | some l => simpa using lst_len hu h
theorem no_below {W D J S x : Int} {m : List Int} (h : 500 < m.length) : lst W D J S m x = none := by
  refine lst_no (fun hk => ?_)
  obtain ⟨hm, hl, _, _⟩ := okw_iff.1 hk
  obtain ⟨hW, hD, hJ, hS⟩ := may_lim hm
  have := (bg_lim hD hJ (x := W) (by omega)).2
  omega
theorem goes_pc (W D J S : Int) (m : List Int) (f : Fr) (op k : Int) : goes W D J S m { f with pc := k } op k = false := by
  cases h : goes W D J S m { f with pc := k } op k
  · rfl
  · obtain ⟨_, _, _, _, h⟩ := goes_iff.1 h
    simp only at h; omega
theorem goes_more {W D J S : Int} {m : List Int} {f : Fr} {op k : Int} (h : goes W D J S m f op k = true) : goes W D J S m f op (k + 1) = true := by
  obtain ⟨a, b, c, d, e⟩ := goes_iff.1 h
  exact goes_iff.2 ⟨a, b, c, d, by omega⟩
theorem goes_op {W D J S : Int} {m : List Int} {f : Fr} {op k : Int} (h : ¬ f.op = op) : goes W D J S m f op k = false := by
  cases h' : goes W D J S m f op k
  · rfl
  · exact absurd (goes_iff.1 h').2.2.1 h
theorem goes_over {W D J S : Int} {m : List Int} {f : Fr} {op k : Int} (h : f.res ≠ 0) : goes W D J S m f op k = false := by
  cases h' : goes W D J S m f op k
  · rfl
  · exact absurd (goes_iff.1 h').2.1 h
end Go.Proofs.Ytjddglandcpfpaa
