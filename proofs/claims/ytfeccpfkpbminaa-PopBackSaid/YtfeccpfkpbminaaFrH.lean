/- Calls in boxes carried from world to world; contract of awake: the chapter's example. -/
import Derived.Test.YtfeccpfkpbminaaFrG
import Derived.Lib.SmallJoins
namespace Go.Proofs.Ytfeccpfkpbminaa
open Go.RowKit Go.Deep
theorem Bf.new (w : World) (f : Fr) : Bf (w.alloc (.cells #[.int .i64 f.op, .int .i64 f.pc, .int .i64 f.who, .int .u64 f.val, .int .u64 f.x, .int .u64 f.y, .int .i64 f.res] 28)) w.heap.size f := heap_alloc_new _ _
theorem Bf.after {w w' : World} {g : Nat} {f : Fr} (h : Bf w g f) (hb : Below w.heap.size w w') : Bf w' g f := h.below hb h.lt
theorem bel_alloc (w : World) (o : Obj) : Below w.heap.size w (w.alloc o) := (Below.refl _ _).alloc (Nat.le_refl _) _
theorem below_of_drewN {w w' : World} {q : Nat} (h : w' = w.drewN q) : Below w.heap.size w w' := h ▸ below_drewN w q
theorem Rd.alloc {w : World} {A : Option Addr} {l : List Int} (h : Rd w A l) (o : Obj) : Rd (w.alloc o) A l := h.below (bel_alloc w o)
theorem Rd.nil (w : World) (A : Option Addr) : Rd w A [] := fun h => by simp at h
/-- Once, where what it comes to is known. -/
theorem once_at {A : Option Addr} {n c : Nat} {l : List Int} {r : Int} {f : Fr} {w : World} (l' : List Int) (f' : Fr) (e : on l r f = (l', f')) (h : Rd w A l) (hn : l.length = n) (hc : n ≤ c) (hs : n ≤ 1000) : Calls Try.prog 15 #[.slice A n c, .int .i64 r, fv f] w (RetO w l' f') := by
  have := once_any A n c l r f w h hn hc hs
  rw [e] at this
  exact this
/-- A field of a call. -/
theorem field_val (a b c d e g h : Int) (w : World) : (Instr.field 28 (.agg #[.int .i64 a, .int .i64 b, .int .i64 c, .int .u64 d, .int .u64 e, .int .u64 g, .int .i64 h]) 3).run Try.prog w = .ok (.int .u64 d) w := by kernel_rfl
attribute [local go_sem] field_val
theorem rd_one (w : World) (u : Int) : Rd (w.alloc (.cells #[.int .u64 u] 26)) (some ⟨w.heap.size, 0, none⟩) [u] := Bk.rd (l := [u]) (heap_alloc_new _ _)
end Go.Proofs.Ytfeccpfkpbminaa
