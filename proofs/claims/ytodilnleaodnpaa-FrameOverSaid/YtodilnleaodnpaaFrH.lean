/- Calls in boxes carried from world to world; contract of awake: the chapter's example. -/
import Derived.Test.YtodilnleaodnpaaFrG
import Derived.Lib.SmallJoins
namespace Go.Proofs.Ytodilnleaodnpaa
open Go.RowKit Go.Deep

theorem Bf.new (w : World) (f : Fr) : Bf (w.alloc (.cells #[.int .i64 f.op, .int .i64 f.pc, .int .i64 f.who, .int .u64 f.val, .int .u64 f.x, .int .u64 f.y, .int .i64 f.res] 25)) w.heap.size f := heap_alloc_new _ _
theorem Bf.after {w w' : World} {g : Nat} {f : Fr} (h : Bf w g f) (hb : Below w.heap.size w w') : Bf w' g f := h.below hb h.lt
theorem bel_alloc (w : World) (o : Obj) : Below w.heap.size w (w.alloc o) := (Below.refl _ _).alloc (Nat.le_refl _) _
theorem below_of_drewN {w w' : World} {q : Nat} (h : w' = w.drewN q) : Below w.heap.size w w' := h ▸ below_drewN w q
theorem Rd.alloc {w : World} {A : Option Addr} {l : List Int} (h : Rd w A l) (o : Obj) : Rd (w.alloc o) A l := h.below (bel_alloc w o)
theorem Rd.nil (w : World) (A : Option Addr) : Rd w A [] := fun h => by simp at h
/-- Once, where what it comes to is known. -/
theorem once_at {A : Option Addr} {n c : Nat} {l : List Int} {r : Int} {f : Fr} {w : World} (l' : List Int) (f' : Fr) (e : on l r f = (l', f')) (h : Rd w A l) (hn : l.length = n) (hc : n ≤ c) (hs : n ≤ 1000) : Calls Try.prog 10 #[.slice A n c, .int .i64 r, fv f] w (RetO w l' f') := by
  have := once_any A n c l r f w h hn hc hs
  rw [e] at this
  exact this
/-- A field of a call. -/
theorem field_val (a b c d e g h : Int) (w : World) : (Instr.field 25 (.agg #[.int .i64 a, .int .i64 b, .int .i64 c, .int .u64 d, .int .u64 e, .int .u64 g, .int .i64 h]) 3).run Try.prog w = .ok (.int .u64 d) w := by kernel_rfl
attribute [local go_sem] field_val
theorem rd_one (w : World) (u : Int) : Rd (w.alloc (.cells #[.int .u64 u] 23)) (some ⟨w.heap.size, 0, none⟩) [u] := Bk.rd (l := [u]) (heap_alloc_new _ _)
set_option maxHeartbeats 2000000 in
theorem awake_any (w : World) : Tells 9 #[] w (.bool true) := by
  go_enter Try.func9, Try.ntmps9
  go_wp2_with fail
  refine (begin_any 0 0 7 _).mono ?_
  rintro _ w1 ⟨rfl, z⟩
  have L := Lib.hid ((rd_one w 5).below z)
  have Z := Lib.hid (keep_call z (bel_alloc w _))
  clear z
  go_wp2_with fail
  refine (once_at [5, 7] (ed (bg 0 0 7) 1 7) rfl L.out rfl (by decide) (by decide)).mono ?_
  rintro _ w2 ⟨A2, c2, rfl, hc2, n2, z⟩
  replace Z := Lib.hid (Z.out.trans (z.mono Z.out.size))
  replace L := Lib.hid (L.out.below z)
  have LA := Lib.hid n2.rd
  have HLA := Lib.hid hc2
  clear z n2 hc2
  clear L
  go_wp2_with fail
  refine (begin_any 0 0 9 _).mono ?_
  rintro _ w3 ⟨rfl, z⟩
  have BF := Lib.hid ((Bf.new w2 (ed (bg 0 0 7) 1 7)).after z)
  replace z := keep_call z (bel_alloc w2 _)
  replace Z := Lib.hid (Z.out.trans (z.mono Z.out.size))
  replace LA := Lib.hid (LA.out.below z)
  clear z
  go_wp2_with fail
  refine (once_at [5, 7] (ed (bg 0 0 9) 2 9) rfl LA.out rfl HLA.out (by decide)).mono ?_
  rintro _ w4 ⟨A4, c4, rfl, hc4, n4, z⟩
  replace Z := Lib.hid (Z.out.trans (z.mono Z.out.size))
  replace LA := Lib.hid (LA.out.below z)
  replace BF := Lib.hid (BF.out.after z)
  have LB := Lib.hid n4.rd
  have HLB := Lib.hid hc4
  clear z n4 hc4
  go_wp2_with fail
  refine (begin_any 2 0 0 _).mono ?_
  rintro _ w5 ⟨rfl, z⟩
  have BG := Lib.hid ((Bf.new w4 (ed (bg 0 0 9) 2 9)).after z)
  replace z := keep_call z (bel_alloc w4 _)
  replace Z := Lib.hid (Z.out.trans (z.mono Z.out.size))
  replace LA := Lib.hid (LA.out.below z)
  replace BF := Lib.hid (BF.out.after z)
  replace LB := Lib.hid (LB.out.below z)
  clear z
  go_wp2_with fail
  refine (once_at [7] (ed (bg 2 0 0) 1 5) rfl LB.out rfl HLB.out (by decide)).mono ?_
  rintro _ w6 ⟨A6, c6, rfl, hc6, n6, z⟩
  replace Z := Lib.hid (Z.out.trans (z.mono Z.out.size))
  replace LA := Lib.hid (LA.out.below z)
  replace BF := Lib.hid (BF.out.after z)
  replace LB := Lib.hid (LB.out.below z)
  replace BG := Lib.hid (BG.out.after z)
  have LC := Lib.hid n6.rd
  have HLC := Lib.hid hc6
  clear z n6 hc6
  have b1 := Lib.hid ((BF.out.after (bel_alloc w6 (.cells #[.int .i64 2, .int .i64 0, .int .i64 0, .int .u64 5, .int .u64 0, .int .u64 0, .int .i64 1] 25))))
  obtain ⟨a0, a1, a2, a3, a4, a5, a6⟩ := BF.out.cells
  have al := BF.out.lt
  simp only [ed, bg] at a0 a1 a2 a3 a4 a5 a6
  go_wp2_with fail
  refine (Tells.of (over_any (ed (bg 0 0 7) 1 7) _) (v' := .bool true) rfl).mono ?_
  rintro _ w7 ⟨rfl, z⟩
  clear a0 a1 a2 a3 a4 a5 a6 al b1
  have BH := Lib.hid ((Bf.new w6 (ed (bg 2 0 0) 1 5)).after z)
  replace z := keep_call z (bel_alloc w6 _)
  replace Z := Lib.hid (Z.out.trans (z.mono Z.out.size))
  replace LA := Lib.hid (LA.out.below z)
  replace BF := Lib.hid (BF.out.after z)
  replace LB := Lib.hid (LB.out.below z)
  replace BG := Lib.hid (BG.out.after z)
  replace LC := Lib.hid (LC.out.below z)
  clear z
  obtain ⟨a0, a1, a2, a3, a4, a5, a6⟩ := BF.out.cells
  have la := BF.out.lt
  obtain ⟨b0, b1, b2, b3, b4, b5, b6⟩ := BG.out.cells
  have lb := BG.out.lt
  obtain ⟨d0, d1, d2, d3, d4, d5, d6⟩ := BH.out.cells
  have ld := BH.out.lt
  simp only [ed, bg] at a0 a1 a2 a3 a4 a5 a6 la b0 b1 b2 b3 b4 b5 b6 lb d0 d1 d2 d3 d4 d5 d6 ld
  go_wp2_with fail
  refine (Tells.of (end_any (ed (bg 0 0 7) 1 7) 3 3 _) (v' := .agg #[.int .i64 0, .int .i64 0, .int .i64 0, .int .u64 3, .int .u64 0, .int .u64 0, .int .i64 3]) rfl).mono ?_
  rintro _ w8 ⟨rfl, z⟩
  clear a0 a1 a2 a3 a4 a5 a6 la b0 b1 b2 b3 b4 b5 b6 lb d0 d1 d2 d3 d4 d5 d6 ld
  replace Z := Lib.hid (Z.out.trans (z.mono Z.out.size))
  replace LA := Lib.hid (LA.out.below z)
  replace BF := Lib.hid (BF.out.after z)
  replace LB := Lib.hid (LB.out.below z)
  replace BG := Lib.hid (BG.out.after z)
  replace LC := Lib.hid (LC.out.below z)
  replace BH := Lib.hid (BH.out.after z)
  clear z
  go_wp2
  go_ret
  exact ⟨rfl, Z.out⟩
end Go.Proofs.Ytodilnleaodnpaa
