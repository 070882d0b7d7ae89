/- Contract of Step: a push's step, as on lists. -/
import Derived.Test.YtfeccpfkpbminaaPuH
namespace Go.Proofs.Ytfeccpfkpbminaa
open Go.RowKit Go.Deep
theorem ow_ok {W D J S : Int} {m : List Int} {w : Int} (h : okw W D J S m w = true) (k : Int) : ow W D J S w k = bg D J w + k := by
  obtain ⟨a, _, c, d⟩ := okw_iff.1 h
  unfold ow
  rw [a, wi_true.2 ⟨c, by omega⟩]; rfl
theorem sl_ok {W D J S : Int} {m : List Int} {w : Int} (h : okw W D J S m w = true) (x : Int) : sl W D J S w x = sI D J w x := by
  obtain ⟨a, _, c, d⟩ := okw_iff.1 h
  unfold sl sI
  rw [a, wi_true.2 ⟨c, by omega⟩]; rfl
theorem RetS.of {w : World} {l l' : List Int} {f f' : Fr} {P : Program} {F : FuncId} {args : Array Value} (h : Calls P F args w (RetS w l f)) (e : (l, f) = (l', f')) : Calls P F args w (RetS w l' f') := by
  injection e with e1 e2
  rw [← e1, ← e2]; exact h
theorem Lv.of {lo : Nat} {w : World} {g : Nat} {f f' : Fr} {W D J S : Int} {l l' : List Int} {P : Program} {F : FuncId} {args : Array Value} (h : Calls P F args w (Lv lo w g f W D J S l)) (e1 : f = f') (e2 : l = l') : Calls P F args w (Lv lo w g f' W D J S l') := by
  rw [← e1, ← e2]; exact h
theorem step_any (W D J S : Int) (A : Option Addr) (c : Nat) (l : List Int) (f : Fr) (w : World) (h : Rd w A l) (hs : l.length ≤ 500) (hf : UF f) :
    Calls Try.prog 17 #[cf W D J S, .slice A l.length c, fv f] w (RetS w (pushS W D J S l f).1 (pushS W D J S l f).2) := by
  cases hg : goes W D J S l f 0 4
  · have e : pushS W D J S l f = (l, f) := by unfold pushS; rw [hg]; rfl
    rw [e]
    exact step_leave W D J S A c l f w h hs hg
  · obtain ⟨hk, hr, ho, h0, h4⟩ := goes_iff.1 hg
    obtain ⟨hW, hD, hJ, hS⟩ := may_lim (okw_iff.1 hk).1
    have hp : f.pc = 0 ∨ f.pc = 1 ∨ f.pc = 2 ∨ f.pc = 3 := by omega
    unfold pushS
    rw [if_pos hg]
    rcases hp with hp | hp | hp | hp
    · rw [if_pos hp]
      exact step_deed 62 W D J S A c l l f _ w h hs hg (.inl ⟨hp, rfl⟩) (fun lo g A c w hB hA _ => Lv.of (loadBottom_any lo g f W D J S A c l w hB hA hs) (by rw [ow_ok hk]) rfl)
    · rw [if_neg (by omega), if_pos hp]
      by_cases hd : D ≤ (f.x - at0 l (bg D J f.who)) % 18446744073709551616
      · rw [if_pos hd]
        exact step_deed 63 W D J S A c l l f _ w h hs hg (.inr (.inl ⟨hp, rfl⟩)) (fun lo g A c w hB hA _ => loadTop_any lo g f W D J S _ true A c l w hB hA hs hD (by rw [ow_ok hk, Int.add_zero]) (decide_eq_true hd) _ rfl)
      · rw [if_neg hd]
        exact step_deed 63 W D J S A c l l f _ w h hs hg (.inr (.inl ⟨hp, rfl⟩)) (fun lo g A c w hB hA _ => loadTop_any lo g f W D J S _ false A c l w hB hA hs hD (by rw [ow_ok hk, Int.add_zero]) (decide_eq_false hd) _ rfl)
    · rw [if_neg (by omega), if_neg (by omega), if_pos hp]
      exact step_deed 64 W D J S A c l _ f _ w h hs hg (.inr (.inr (.inl ⟨hp, rfl⟩))) (fun lo g A c w hB hA hlo => Lv.of (storeVal_any lo g f W D J S A c l w hB hA hlo hs hf.2.1) rfl (by rw [sl_ok hk]))
    · rw [if_neg (by omega), if_neg (by omega), if_neg (by omega)]
      exact step_deed 65 W D J S A c l _ f _ w h hs hg (.inr (.inr (.inr ⟨hp, rfl⟩))) (fun lo g A c w hB hA hlo => Lv.of (storeBottom_any lo g f W D J S A c l w hB hA hlo hs) rfl (by rw [ow_ok hk]))
end Go.Proofs.Ytfeccpfkpbminaa
