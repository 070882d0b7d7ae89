/- Two calls in turn: two boxes that are stored into, and all else stays. -/
import Derived.Test.YtpnmgpmmaiinmaaWtE
import Derived.Test.YtpnmgpmmaiinmaaDqT
namespace Go.Proofs.Ytpnmgpmmaiinmaa
open Go.RowKit Go.Deep
/-- All blocks but g and k stay. -/
structure K2 (g k : Nat) (w w' : World) : Prop where
  low : Below g w w'
  others : ∀ b, b < w.heap.size → b ≠ g → b ≠ k → w'.heap[b]? = w.heap[b]?
theorem K2.refl (g k : Nat) (w : World) : K2 g k w w := ⟨Below.refl _ _, fun _ _ _ _ => rfl⟩
theorem K2.size {g k : Nat} {w w' : World} (h : K2 g k w w') : w.heap.size ≤ w'.heap.size := h.low.size
theorem K2.call {g k : Nat} {w w1 w2 : World} (h : K2 g k w w1) (hg : g < w.heap.size) (hb : Below w1.heap.size w1 w2) : K2 g k w w2 :=
  ⟨h.low.trans (hb.mono (Nat.le_trans (Nat.le_of_lt hg) h.size)), fun b h1 h2 h3 => (hb.block b (Nat.lt_of_lt_of_le h1 h.size)).trans (h.others b h1 h2 h3)⟩
theorem K2.setl {g k : Nat} {w w1 : World} (h : K2 g k w w1) (i : Nat) (v : Value) : K2 g k w (w1.setCell ⟨g, i, none⟩ v) :=
  ⟨h.low.setCell (Nat.le_refl _) _, fun b h1 h2 h3 => (Below.heap_setCell w1 ⟨g, i, none⟩ v b h2).trans (h.others b h1 h2 h3)⟩
theorem K2.setr {g k : Nat} {w w1 : World} (h : K2 g k w w1) (hgk : g < k) (i : Nat) (v : Value) : K2 g k w (w1.setCell ⟨k, i, none⟩ v) :=
  ⟨h.low.setCell (Nat.le_of_lt hgk) _, fun b h1 h2 h3 => (Below.heap_setCell w1 ⟨k, i, none⟩ v b h3).trans (h.others b h1 h2 h3)⟩
theorem K2.pfl {g k : Nat} {w w1 : World} (h : K2 g k w w1) (f : Fr) : K2 g k w (pf w1 g f) :=
  ((((((h.setl 0 _).setl 1 _).setl 2 _).setl 3 _).setl 4 _).setl 5 _).setl 6 _
theorem K2.pfr {g k : Nat} {w w1 : World} (h : K2 g k w w1) (hgk : g < k) (f : Fr) : K2 g k w (pf w1 k f) :=
  ((((((h.setr hgk 0 _).setr hgk 1 _).setr hgk 2 _).setr hgk 3 _).setr hgk 4 _).setr hgk 5 _).setr hgk 6 _
theorem Bx.k2 {g k c : Nat} {w w' : World} {W D J S : Int} (h : Bx w c W D J S) (hK : K2 g k w w') (h1 : c ≠ g) (h2 : c ≠ k) : Bx w' c W D J S := by
  have e : w'.heap[c]? = w.heap[c]? := hK.others c h.1 h1 h2
  exact ⟨Nat.lt_of_lt_of_le h.1 hK.size, (World.cell?_of_block e).trans h.2.1, (World.cell?_of_block e).trans h.2.2.1, (World.cell?_of_block e).trans h.2.2.2.1, (World.cell?_of_block e).trans h.2.2.2.2⟩
theorem Bf.apart {w : World} {g k : Nat} {f : Fr} (h : Bf w g f) (hk : g ≠ k) (f' : Fr) : Bf (Go.Proofs.Ytpnmgpmmaiinmaa.pf w k f') g f :=
  ((((((h.oth hk _).oth hk _).oth hk _).oth hk _).oth hk _).oth hk _).oth hk _
/-- The slice at A reads as the numbers l, in a block that is neither g nor k. -/
def Ru (g k : Nat) (w : World) (A : Option Addr) (l : List Int) : Prop :=
  0 < l.length → ∃ ad, A = some ad ∧ ad.block ≠ g ∧ ad.block ≠ k ∧ ad.block < w.heap.size ∧ ∀ j u, l[j]? = some u → w.cell? (ad.add j) = some (.int .u64 u)
theorem Ru.rd {g k : Nat} {w : World} {A : Option Addr} {l : List Int} (h : Ru g k w A l) : Rd w A l := fun hp => by
  obtain ⟨ad, e, _, _, hlt, hc⟩ := h hp
  exact ⟨ad, e, hlt, hc⟩
theorem Ru.after {g k : Nat} {w w' : World} {A : Option Addr} {l : List Int} (h : Ru g k w A l) (hb : Below w.heap.size w w') : Ru g k w' A l := fun hp => by
  obtain ⟨ad, e, h1, h2, hlt, hc⟩ := h hp
  exact ⟨ad, e, h1, h2, Nat.lt_of_lt_of_le hlt hb.size, fun j u hu => (hb.cell (p := ad.add j) (by rw [block_add]; exact hlt)).trans (hc j u hu)⟩
theorem Ru.k2 {g k : Nat} {w w' : World} {A : Option Addr} {l : List Int} (h : Ru g k w A l) (hK : K2 g k w w') : Ru g k w' A l := fun hp => by
  obtain ⟨ad, e, h1, h2, hlt, hc⟩ := h hp
  exact ⟨ad, e, h1, h2, Nat.lt_of_lt_of_le hlt hK.size, fun j u hu => (World.cell?_of_block (by rw [block_add]; exact hK.others _ hlt h1 h2)).trans (hc j u hu)⟩
theorem Rx.ru {g k : Nat} {w : World} {A : Option Addr} {l : List Int} (h : Rx 0 g w A l) (hk : w.heap.size ≤ k) : Ru g k w A l := fun hp => by
  obtain ⟨ad, e, _, hne, hlt, hc⟩ := h hp
  exact ⟨ad, e, hne, by omega, hlt, hc⟩
theorem duo_inv {s1 s2 : List Int → Fr → List Int × Fr} {P : List Int → Prop} {Q : Fr → Prop} (h1 : ∀ m f, P m → Q f → P (s1 m f).1 ∧ Q (s1 m f).2) (h2 : ∀ m f, P m → Q f → P (s2 m f).1 ∧ Q (s2 m f).2) {s : List Int × Fr × Fr} (hm : P s.1) (hf : Q s.2.1) (hg : Q s.2.2) (k : Nat) :
    P (duo s1 s2 k s).1 ∧ Q (duo s1 s2 k s).2.1 ∧ Q (duo s1 s2 k s).2.2 := by
  induction k with
  | zero => exact ⟨hm, hf, hg⟩
  | succ k ih =>
    obtain ⟨a, b, c⟩ := ih
    obtain ⟨a1, b1⟩ := h1 _ _ a b
    obtain ⟨a2, b2⟩ := h2 _ _ a1 c
    exact ⟨a2, b1, b2⟩
end Go.Proofs.Ytpnmgpmmaiinmaa
