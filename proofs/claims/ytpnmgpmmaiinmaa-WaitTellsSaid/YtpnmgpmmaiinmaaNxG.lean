/- What the contracts of the document's own steps of pops and steals share. -/
import Derived.Test.YtpnmgpmmaiinmaaPuR
import Derived.Test.YtpnmgpmmaiinmaaPuS
import Derived.Test.YtpnmgpmmaiinmaaNxA
import Derived.Test.YtpnmgpmmaiinmaaDqA
import Derived.Test.YtpnmgpmmaiinmaaBaM
import Derived.IntWalk
import Derived.Deep.RegionHeld3
namespace Go.Proofs.Ytpnmgpmmaiinmaa
open Go.RowKit Go.Deep
/-- What the document's own exchange leaves: new cells, and whether it was done. -/
def RetNC (w : World) (n : Nat) (l : List Int) (b : Bool) (e : Ending) (w' : World) : Prop :=
  ∃ A c, e = .returned (.tuple #[.slice A n c, .bool b]) ∧ Rn w.heap.size w' A l ∧ Below w.heap.size w w'
theorem RetN.of {w : World} {n : Nat} {l l' : List Int} {P : Program} {f : FuncId} {args : Array Value} (h : Calls P f args w (RetN w n l)) (e1 : l = l') : Calls P f args w (RetN w n l') := by rw [← e1]; exact h
set_option maxHeartbeats 400000 in
theorem rcasn_yes (ad : Addr) (n c k : Nat) (l : List Int) (u v : Int) (w : World) (h : Rd w (some ad) l) (hn : l.length = n) (hs : n ≤ 500) (hu : w.cell? (ad.add k) = some (.int .u64 u)) (hk : k < n) :
    Calls Try.prog 32 #[.slice (some ad) n c, .int .i64 k, .int .u64 u, .int .u64 v] w (RetNC w n (put l k v) true) := by
  have H := Lib.hid h
  have HN := Lib.hid hn
  clear h hn
  go_enter Try.func32, Try.ntmps32
  go_wp2_with fail
  refine (rstore_new _ n c l _ _ _ H.out HN.out hs).mono ?_
  rintro e w1 ⟨A1, c1, rfl, r1, z1⟩
  have R := Lib.hid r1
  have Z := Lib.hid z1
  clear r1 z1
  go_wp2
  go_ret2
  exact ⟨_, _, rfl, R.out, Z.out⟩
set_option maxHeartbeats 400000 in
theorem rcasn_no (ad : Addr) (n c k : Nat) (l : List Int) (u v x : Int) (w : World) (h : Rd w (some ad) l) (hn : l.length = n) (hs : n ≤ 500) (hu : w.cell? (ad.add k) = some (.int .u64 x)) (hk : k < n) (hx : (x != u) = true) :
    Calls Try.prog 32 #[.slice (some ad) n c, .int .i64 k, .int .u64 u, .int .u64 v] w (RetNC w n l false) := by
  have H := Lib.hid h
  have HN := Lib.hid hn
  clear h hn
  go_enter Try.func32, Try.ntmps32
  go_wp2_with fail
  refine (RetN.of (rstore_new _ n c l _ _ _ H.out HN.out hs) (l' := l) (put_out _ (by omega))).mono ?_
  rintro e w1 ⟨A1, c1, rfl, r1, z1⟩
  have R := Lib.hid r1
  have Z := Lib.hid z1
  clear r1 z1
  go_wp2
  go_ret2
  exact ⟨_, _, rfl, R.out, Z.out⟩
set_option maxHeartbeats 400000 in
theorem rcasn_out (A : Option Addr) (n c : Nat) (l : List Int) (i u v : Int) (w : World) (h : Rd w A l) (hn : l.length = n) (hs : n ≤ 500) (hi : i < 0 ∨ (n : Int) ≤ i) :
    Calls Try.prog 32 #[.slice A n c, .int .i64 i, .int .u64 u, .int .u64 v] w (RetNC w n l false) := by
  have H := Lib.hid h
  have HN := Lib.hid hn
  clear h hn
  rcases hi with hi | hi
  all_goals
    go_enter Try.func32, Try.ntmps32
    go_wp2_with fail
    refine (RetN.of (rstore_new _ n c l _ _ _ H.out HN.out hs) (l' := l) (put_out _ (by omega))).mono ?_
    rintro e w1 ⟨A1, c1, rfl, r1, z1⟩
    have R := Lib.hid r1
    have Z := Lib.hid z1
    clear r1 z1
    go_wp2
    go_ret2
    exact ⟨_, _, rfl, R.out, Z.out⟩
theorem rcasn_any (A : Option Addr) (n c : Nat) (l : List Int) (i u v : Int) (w : World) (h : Rd w A l) (hn : l.length = n) (hs : n ≤ 500) :
    Calls Try.prog 32 #[.slice A n c, .int .i64 i, .int .u64 u, .int .u64 v] w (RetNC w n (if isAt l i u = true then put l i v else l) (isAt l i u)) := by
  by_cases hi : 0 ≤ i ∧ i < n
  · obtain ⟨k, rfl⟩ := Int.eq_ofNat_of_zero_le hi.1
    have hk : k < l.length := by omega
    obtain ⟨ad, rfl, hlt, hc⟩ := h (by omega)
    have hck := hc k _ (List.getElem?_eq_getElem hk)
    by_cases hx : l[k] = u
    · have e : isAt l (k : Int) u = true := by simp [isAt, List.getElem?_eq_getElem hk, hx]
      rw [e, if_pos rfl]
      rw [hx] at hck
      exact rcasn_yes ad n c k l u v w h hn hs hck (by omega)
    · have e : isAt l (k : Int) u = false := by simp [isAt, List.getElem?_eq_getElem hk, hx]
      rw [e, if_neg (by simp)]
      exact rcasn_no ad n c k l u v _ w h hn hs hck (by omega) (by simp [hx])
  · have e : isAt l i u = false := by
      rw [Bool.eq_false_iff]
      intro e
      have := ((isAt_iff l i u).1 e).1
      omega
    rw [e, if_neg (by simp)]
    exact rcasn_out A n c l i u v w h hn hs (by omega)
theorem rcasn_n {A : Option Addr} {n c : Nat} {l : List Int} {i u v : Int} {w : World} (h : Rd w A l) (hn : l.length = n) (hs : n ≤ 500) {b : Bool} {T : List Int} (eb : isAt l i u = b) (eT : (if isAt l i u = true then put l i v else l) = T) :
    Calls Try.prog 32 #[.slice A n c, .int .i64 i, .int .u64 u, .int .u64 v] w (RetNC w n T b) := by
  subst eb eT
  exact rcasn_any A n c l i u v w h hn hs
/-- What the document's own step has at hand: a box for the layout, one for the call, one for the call that goes out. -/
structure Ng (w : World) (W D J S : Int) (f : Fr) (w1 : World) : Prop where
  bx : Bx w1 w.heap.size W D J S
  bf : Bf w1 (w.heap.size + 1) f
  br : Bf w1 (w.heap.size + 1 + 1) f0
  be : Below w.heap.size w w1
section
variable {w : World} {W D J S : Int} {f : Fr} {w1 : World}
theorem Ng.call (h : Ng w W D J S f w1) {w2 : World} (z : Below w1.heap.size w1 w2) : Ng w W D J S f w2 :=
  ⟨h.bx.below z, h.bf.after z, h.br.after z, keep_call z h.be⟩
theorem Ng.drew (h : Ng w W D J S f w1) : Ng w W D J S f w1.drew := h.call (Below.refl _ _).drew
theorem Ng.setPc (h : Ng w W D J S f w1) (z : Int) : Ng w W D J S { f with pc := z } (w1.setCell ⟨w.heap.size + 1, 1, none⟩ (.int .i64 z)) :=
  ⟨h.bx.oth (by omega) _, h.bf.wPc z, h.br.oth (by omega) _, h.be.setCell (by simp only; omega) _⟩
theorem Ng.setVal (h : Ng w W D J S f w1) (z : Int) : Ng w W D J S { f with val := z } (w1.setCell ⟨w.heap.size + 1, 3, none⟩ (.int .u64 z)) :=
  ⟨h.bx.oth (by omega) _, h.bf.wVal z, h.br.oth (by omega) _, h.be.setCell (by simp only; omega) _⟩
theorem Ng.setX (h : Ng w W D J S f w1) (z : Int) : Ng w W D J S { f with x := z } (w1.setCell ⟨w.heap.size + 1, 4, none⟩ (.int .u64 z)) :=
  ⟨h.bx.oth (by omega) _, h.bf.wX z, h.br.oth (by omega) _, h.be.setCell (by simp only; omega) _⟩
theorem Ng.setY (h : Ng w W D J S f w1) (z : Int) : Ng w W D J S { f with y := z } (w1.setCell ⟨w.heap.size + 1, 5, none⟩ (.int .u64 z)) :=
  ⟨h.bx.oth (by omega) _, h.bf.wY z, h.br.oth (by omega) _, h.be.setCell (by simp only; omega) _⟩
theorem Ng.facts (h : Ng w W D J S f w1) : w.heap.size < w1.heap.size ∧ w.heap.size + 1 < w1.heap.size ∧ w.heap.size + 1 + 1 < w1.heap.size := by
  have := h.br.lt
  omega
theorem Ng.back (h : Ng w W D J S f w1) (f' : Fr) : Bf (pf w1 (w.heap.size + 1 + 1) f') (w.heap.size + 1 + 1) f' ∧ Below w.heap.size w (pf w1 (w.heap.size + 1 + 1) f') :=
  ⟨h.br.pf f', below_pf h.be (by omega) f'⟩
theorem Ng.backD (h : Ng w W D J S f w1) (f' : Fr) : Bf (pf w1 (w.heap.size + 1 + 1) f').drew (w.heap.size + 1 + 1) f' ∧ Below w.heap.size w (pf w1 (w.heap.size + 1 + 1) f').drew :=
  ⟨(h.br.pf f').drew, (below_pf h.be (by omega) f').drew⟩
theorem Ng.begin (w : World) (W D J S : Int) (f : Fr) : Ng w W D J S f (bx3 w W D J S f) := by
  obtain ⟨b1, b2, b3, b4, _⟩ := boxes3 w W D J S f
  exact ⟨b1, b2, b3, b4⟩
/-- A list in new memory, behind the call that goes out. -/
theorem Rn.out {lo : Nat} {A : Option Addr} {l : List Int} (h : Rn lo w1 A l) {g : Nat} (hg : g < lo) (f' : Fr) : Rd (Go.Proofs.Ytpnmgpmmaiinmaa.pf w1 g f') A l := (h.pf hg f').rd
end
end Go.Proofs.Ytpnmgpmmaiinmaa
