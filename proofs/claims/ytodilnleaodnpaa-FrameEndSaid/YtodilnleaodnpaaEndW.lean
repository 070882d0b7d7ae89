/- The walk of FrameEnd. -/
import Derived.Test.YtodilnleaodnpaaFrI
namespace Go.Proofs.Ytodilnleaodnpaa
open Go.RowKit Go.Deep
set_option maxHeartbeats 2000000 in
theorem frameEnd_walk (f : Fr) (r u : Int) (w : World) : Tells 7 #[fv f, .int .i64 r, .int .u64 u] w (.bool true) := by
  obtain ⟨o, p, q, v', x, y, s⟩ := f
  go_enter Try.func7, Try.ntmps7
  go_wp2_with fail
  refine (awake_any _).mono ?_
  rintro _ w1 ⟨rfl, z⟩
  have BF := Lib.hid ((Bf.new w (⟨o, p, q, v', x, y, s⟩ : Fr)).after z)
  replace z := keep_call z (bel_alloc w _)
  have Z := Lib.hid z
  clear z
  obtain ⟨a0, a1, a2, a3, a4, a5, a6⟩ := BF.out.cells
  have la := BF.out.lt
  simp only at a0 a1 a2 a3 a4 a5 a6 la
  go_wp2_with fail
  refine (Tells.of (end_any ⟨o, p, q, v', x, y, s⟩ r u _) (v' := .agg #[.int .i64 o, .int .i64 0, .int .i64 q, .int .u64 u, .int .u64 0, .int .u64 0, .int .i64 r]) rfl).mono ?_
  rintro _ w2 ⟨rfl, z⟩
  clear a0 a1 a2 a3 a4 a5 a6 la
  replace Z := Lib.hid (Z.out.trans (z.mono Z.out.size))
  replace BF := Lib.hid (BF.out.after z)
  clear z
  obtain ⟨a0, a1, a2, a3, a4, a5, a6⟩ := BF.out.cells
  have la := BF.out.lt
  simp only at a0 a1 a2 a3 a4 a5 a6 la
  go_wp2_with fail
  refine (over_any ⟨o, 0, q, u, 0, 0, r⟩ _).mono ?_
  rintro _ w3 ⟨rfl, z⟩
  clear a0 a1 a2 a3 a4 a5 a6 la
  have BG := Lib.hid ((Bf.new w2 ⟨o, 0, q, u, 0, 0, r⟩).after z)
  replace z := keep_call z (bel_alloc w2 _)
  replace Z := Lib.hid (Z.out.trans (z.mono Z.out.size))
  replace BF := Lib.hid (BF.out.after z)
  clear z
  obtain ⟨a0, a1, a2, a3, a4, a5, a6⟩ := BF.out.cells
  have la := BF.out.lt
  obtain ⟨b0, b1, b2, b3, b4, b5, b6⟩ := BG.out.cells
  have lb := BG.out.lt
  simp only at a0 a1 a2 a3 a4 a5 a6 la b0 b1 b2 b3 b4 b5 b6 lb
  go_wp2
  go_ret
  exact ⟨rfl, Z.out⟩
end Go.Proofs.Ytodilnleaodnpaa
