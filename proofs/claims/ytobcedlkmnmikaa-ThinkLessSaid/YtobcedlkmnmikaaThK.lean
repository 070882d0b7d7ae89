/- Contracts of think at known outcomes, all facts at the world as it is. -/
import Derived.Test.YtobcedlkmnmikaaThG
namespace Go.Proofs.Ytobcedlkmnmikaa.Fo
open Go.RowKit Go.Deep
set_option maxRecDepth 100000 in
theorem hd_drew {S : World → Prop} {n : Nat} {w0 w : World} (K : ∀ x, Below n w0 x → S x) (G : ∀ x, S x → Below n w0 x) (h : S w) : S w.drew := K _ (G _ h).drew
set_option maxRecDepth 100000 in
theorem Tk.later {w w' : World} {A : Option Addr} {T : List Tsk} (h : Tk w.heap.size w A T) (hb : Below w.heap.size w w') : Tk w'.heap.size w' A T := (h.below hb).mono hb.size
set_option maxRecDepth 100000 in
theorem Ir.later {w w' : World} {A : Option Addr} {l : List Itm} (h : Ir w.heap.size w A l) (hb : Below w.heap.size w w') : Ir w'.heap.size w' A l := (h.below hb).mono hb.size
/-- What hands back a row of items, to be read. -/
def GotS (w : World) (m : Nat) (l : List Itm) (e : Ending) (w' : World) : Prop := ∃ A c, e = .returned (.slice A m c) ∧ Ir w'.heap.size w' A l ∧ m ≤ c ∧ ((A = none ∧ c = 0) ∨ ∃ g, A = some ⟨g, 0, none⟩) ∧ Below w.heap.size w w'
set_option maxRecDepth 100000 in
theorem Iow.room {w : World} {base n c : Nat} {A : Option Addr} {l : List Itm} (h : Iow w base A n c l) : n ≤ c ∧ ((A = none ∧ c = 0) ∨ ∃ g, A = some ⟨g, 0, none⟩) := by
  rcases h.2 with ⟨hv, hx⟩ | ⟨g, cap, cur, hv, hbg, hg, hr⟩
  · injection hv with hA hn hc
    subst hA hn hc
    exact ⟨Nat.le_refl _, .inl ⟨rfl, rfl⟩⟩
  · injection hv with hA _ hc
    subst hA hc
    exact ⟨hr.1, .inr ⟨g, rfl⟩⟩
set_option maxRecDepth 100000 in
theorem RetS.got {w w' : World} {l k : List Itm} {e : Ending} {m : Nat} (h : RetS w l e w') (hk : l = k) (hm : k.length = m) : GotS w m k e w' := by
  subst hk hm
  obtain ⟨A, c, e1, h1, h2⟩ := h
  exact ⟨A, c, e1, h1.ir, h1.room.1, h1.room.2, h2⟩
section
variable {A S : Option Addr} {c cs lt n : Nat} {T : List Tsk} {s : List Itm} {w : World}
set_option maxRecDepth 100000 in
theorem kmay (hT : Tk w.heap.size w A T) (hS : Ir w.heap.size w S s) (hs : Sm T) (hlt : T.length = lt) (hn : s.length = n) (hl : n ≤ 1000) {q : Bool} (hq : mayS T s = q) : Tells 21 #[.slice A lt c, .slice S n cs] w (.bool q) := by
  subst hlt hn hq
  exact tmay_any A S c cs _ T s w hT hS (Nat.le_refl _) hs hl
set_option maxRecDepth 100000 in
theorem knext (hT : Tk w.heap.size w A T) (hS : Ir w.heap.size w S s) (hs : Sm T) (hlt : T.length = lt) (hn : s.length = n) (hl : n ≤ 1000) {a b : Int} (hq : nextS T s = (a, b)) : Tells 17 #[.slice A lt c, .slice S n cs] w (.agg #[.int .i64 a, .int .i64 b]) := by
  subst hlt hn
  have := tnext_any A S c cs _ T s w hT hS (Nat.le_refl _) hs hl
  rw [hq] at this
  exact this
set_option maxRecDepth 100000 in
theorem kleft (hT : Tk w.heap.size w A T) (hS : Ir w.heap.size w S s) (hs : Sm T) (hlt : T.length = lt) (hn : s.length = n) (hl : n ≤ 1000) {q : Int} (hq : leftS T s = q) : Tells 19 #[.slice A lt c, .slice S n cs] w (.int .i64 q) := by
  subst hlt hn hq
  exact tleft_any A S c cs _ T s w hT hS (Nat.le_refl _) hs hl
set_option maxRecDepth 100000 in
theorem kdo (hT : Tk w.heap.size w A T) (hS : Ir w.heap.size w S s) (hs : Sm T) (hlt : T.length = lt) (hn : s.length = n) (hl : n ≤ 1000) {k : List Itm} {m : Nat} (hk : doS T s = k) (hm : k.length = m) : Calls Try.prog 12 #[.slice A lt c, .slice S n cs] w (GotS w m k) := by
  subst hlt hn
  exact (tdo_any A S c cs _ T s w hT hS (Nat.le_refl _) hs hl).mono fun _ _ h => h.got hk hm
set_option maxRecDepth 100000 in
theorem kstart (hT : Tk w.heap.size w A T) (hS : Ir w.heap.size w S s) (hs : Sm T) (hlt : T.length = lt) (hn : s.length = n) (hl : n ≤ 1000) {i : Int} {k : List Itm} {m : Nat} (hk : startS T s i = k) (hm : k.length = m) : Calls Try.prog 14 #[.slice A lt c, .slice S n cs, .int .i64 i] w (GotS w m k) := by
  subst hlt hn
  exact (tstart_any A S c cs _ T s i w hT hS (Nat.le_refl _) hs hl).mono fun _ _ h => h.got hk hm
set_option maxRecDepth 100000 in
theorem ksame {X : Option Addr} {d m : Nat} {k : List Itm} (hS : Ir w.heap.size w S s) (hX : Ir w.heap.size w X k) (hn : s.length = n) (hm : k.length = m) (hl : n ≤ 1000) {q : Bool} (hq : decide (s = k) = q) : Tells 22 #[.slice S n cs, .slice X m d] w (.bool q) := by
  subst hn hm hq
  exact tsame_any S X cs d _ s k w hS hX hl
set_option maxRecDepth 100000 in
theorem kfew (w : World) (hT : Tk w.heap.size w A T) (hl : T.length ≤ maxLen) (hk : ∀ x ∈ T, x.2.length ≤ maxLen) (hlt : T.length = lt) {q : Bool} (hq : few T = q) : Gives 10 #[.slice A lt c] w (.bool q) := by
  subst hlt hq
  exact few_any A c _ T w hT hl hk
set_option maxRecDepth 100000 in
theorem leftN_le {s : List Itm} (hs : Sm T) (hm : may T = true) (h : s.all (okI T) = true) : leftN T s ≤ 1021 * (s.length : Int) := by
  induction s with
  | nil => simp [leftN]
  | cons x s ih =>
    rw [List.all_cons, Bool.and_eq_true] at h
    have h1 := leftI_le hs hm h.1
    have h2 := ih h.2
    simp only [leftN, List.length_cons]; omega
set_option maxRecDepth 100000 in
theorem leftS_le {s : List Itm} (hs : Sm T) (hm : mayS T s = true) : leftS T s ≤ 1021 * (s.length : Int) := by
  unfold leftS
  rw [if_pos hm]
  exact leftN_le hs (mayS_all hm).1 (mayS_all hm).2
end
end Go.Proofs.Ytobcedlkmnmikaa.Fo
