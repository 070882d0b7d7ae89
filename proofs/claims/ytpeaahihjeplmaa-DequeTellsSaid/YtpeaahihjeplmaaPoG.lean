/- Contract of the document's own Step of a pop. -/
import Derived.Test.YtpeaahihjeplmaaNxG
import Derived.Test.YtpeaahihjeplmaaNxA
import Derived.Test.YtpeaahihjeplmaaPuR2
import Derived.Test.YtpeaahihjeplmaaPoB
import Derived.Test.YtpeaahihjeplmaaDqA
import Derived.Test.YtpeaahihjeplmaaBaM
import Derived.IntWalk
import Derived.Deep.RegionHeld3
namespace Go.Proofs.Ytpeaahihjeplmaa
open Go.RowKit Go.Deep
section
variable {w : World} {W D J S : Int} {f : Fr} {w1 : World}
end
set_option maxRecDepth 100000 in
set_option maxHeartbeats 4000000 in
theorem rpop_leave (W D J S o p q v x y s : Int) (A : Option Addr) (n c : Nat) (l : List Int) (w : World) (h : Rd w A l) (hn : l.length = n) (hs : n ≤ 500) (hg : goes W D J S l ⟨o, p, q, v, x, y, s⟩ 1 7 = false) :
    Calls Try.prog 30 #[cf W D J S, .slice A n c, fv ⟨o, p, q, v, x, y, s⟩] w (RetU w A l n l ⟨o, p, q, v, x, y, s⟩) := by
  have NX := Lib.hid (Ng.begin w W D J S (⟨o, p, q, v, x, y, s⟩ : Fr))
  have H := Lib.hid h
  have HN := Lib.hid hn
  have HS := Lib.hid hs
  have HG0 := Lib.hid hg
  clear h hs hn hg
  go_enter Try.func30, Try.ntmps30
  go_wp2_with fail
  change Calls _ _ _ (bx3 w W D J S ⟨o, p, q, v, x, y, s⟩) _
  generalize bx3 w W D J S ⟨o, p, q, v, x, y, s⟩ = w0 at NX ⊢
  refine (Tells.of (rgoes_any W D J S 1 7 A n c l ⟨o, p, q, v, x, y, s⟩ _ HN.out) (v' := .bool false) (by rw [HG0.out])).mono ?_
  rintro _ w1 ⟨rfl, z⟩
  have NY := Lib.hid (NX.out.call z)
  clear NX
  have NX := Lib.hid NY.out
  clear NY
  clear z HG0
  obtain ⟨_, b0, b1, b2, b3⟩ := NX.out.bx
  obtain ⟨d0, d1, d2, d3, d4, d5, d6⟩ := NX.out.bf.cells
  obtain ⟨lx, lf, lr⟩ := NX.out.facts
  have fzf := NX.out.bf.free
  have fzr := NX.out.br.free
  obtain ⟨r0, r1, r2, r3, r4, r5, r6⟩ := NX.out.br.cells
  simp only at d0 d1 d2 d3 d4 d5 d6
  go_wp2_with fail
  go_region
  all_goals
    go_wp2
    change bodyPost _ _ _ _ _ (pf w1 (w.heap.size + 1 + 1) ⟨o, p, q, v, x, y, s⟩).drew
    have NB := NX.out.backD ⟨o, p, q, v, x, y, s⟩
    refine bodyPost_ret (results_fr Try.results30 _ rfl NB.1) rfl ?_
    exact ⟨A, c, rfl, .inl ⟨rfl, rfl⟩, NB.2⟩
set_option maxRecDepth 100000 in
set_option maxHeartbeats 4000000 in
theorem rpop_0 (W D J S o q v x y s : Int) (A : Option Addr) (n c : Nat) (l : List Int) (w : World) (h : Rd w A l) (hn : l.length = n) (hs : n ≤ 500) (hg : goes W D J S l ⟨o, 0, q, v, x, y, s⟩ 1 7 = true) :
    Calls Try.prog 30 #[cf W D J S, .slice A n c, fv ⟨o, 0, q, v, x, y, s⟩] w (RetU w A l n l ⟨o, 1, q, v, (at0 l (ow W D J S q 1) - 1) % 18446744073709551616, y, s⟩) := by
  have NX := Lib.hid (Ng.begin w W D J S (⟨o, 0, q, v, x, y, s⟩ : Fr))
  have H := Lib.hid h
  have HN := Lib.hid hn
  have HS := Lib.hid hs
  have HG0 := Lib.hid hg
  clear h hs hn hg
  go_enter Try.func30, Try.ntmps30
  go_wp2_with fail
  change Calls _ _ _ (bx3 w W D J S ⟨o, 0, q, v, x, y, s⟩) _
  generalize bx3 w W D J S ⟨o, 0, q, v, x, y, s⟩ = w0 at NX ⊢
  refine (Tells.of (rgoes_any W D J S 1 7 A n c l ⟨o, 0, q, v, x, y, s⟩ _ HN.out) (v' := .bool true) (by rw [HG0.out])).mono ?_
  rintro _ w1 ⟨rfl, z⟩
  have NY := Lib.hid (NX.out.call z)
  clear NX
  have NX := Lib.hid NY.out
  clear NY
  clear z HG0
  obtain ⟨_, b0, b1, b2, b3⟩ := NX.out.bx
  obtain ⟨d0, d1, d2, d3, d4, d5, d6⟩ := NX.out.bf.cells
  obtain ⟨lx, lf, lr⟩ := NX.out.facts
  have fzf := NX.out.bf.free
  have fzr := NX.out.br.free
  obtain ⟨r0, r1, r2, r3, r4, r5, r6⟩ := NX.out.br.cells
  simp only at d0 d1 d2 d3 d4 d5 d6
  go_wp2_with fail
  refine (rtop_any W D J S q _).mono ?_
  rintro _ w2 ⟨rfl, z⟩
  clear b0 b1 b2 b3 d0 d1 d2 d3 d4 d5 d6 lx lf lr fzf fzr r0 r1 r2 r3 r4 r5 r6
  have NY := Lib.hid (NX.out.call z)
  clear NX
  have NX := Lib.hid NY.out
  clear NY
  clear z
  obtain ⟨_, b0, b1, b2, b3⟩ := NX.out.bx
  obtain ⟨d0, d1, d2, d3, d4, d5, d6⟩ := NX.out.bf.cells
  obtain ⟨lx, lf, lr⟩ := NX.out.facts
  have fzf := NX.out.bf.free
  have fzr := NX.out.br.free
  obtain ⟨r0, r1, r2, r3, r4, r5, r6⟩ := NX.out.br.cells
  simp only at d0 d1 d2 d3 d4 d5 d6
  go_wp2_with fail
  refine (rbottom_any W D J S q _).mono ?_
  rintro _ w3 ⟨rfl, z⟩
  clear b0 b1 b2 b3 d0 d1 d2 d3 d4 d5 d6 lx lf lr fzf fzr r0 r1 r2 r3 r4 r5 r6
  have NY := Lib.hid (NX.out.call z)
  clear NX
  have NX := Lib.hid NY.out
  clear NY
  clear z
  obtain ⟨_, b0, b1, b2, b3⟩ := NX.out.bx
  obtain ⟨d0, d1, d2, d3, d4, d5, d6⟩ := NX.out.bf.cells
  obtain ⟨lx, lf, lr⟩ := NX.out.facts
  have fzf := NX.out.bf.free
  have fzr := NX.out.br.free
  obtain ⟨r0, r1, r2, r3, r4, r5, r6⟩ := NX.out.br.cells
  simp only at d0 d1 d2 d3 d4 d5 d6
  go_wp2_with fail
  refine (rload_any A n c l _ _ (H.out.below NX.out.be) HN.out).mono ?_
  rintro _ w4 ⟨rfl, z⟩
  clear b0 b1 b2 b3 d0 d1 d2 d3 d4 d5 d6 lx lf lr fzf fzr r0 r1 r2 r3 r4 r5 r6
  have NY := Lib.hid (NX.out.call z)
  clear NX
  have NX := Lib.hid NY.out
  clear NY
  clear z
  obtain ⟨_, b0, b1, b2, b3⟩ := NX.out.bx
  obtain ⟨d0, d1, d2, d3, d4, d5, d6⟩ := NX.out.bf.cells
  obtain ⟨lx, lf, lr⟩ := NX.out.facts
  have fzf := NX.out.bf.free
  have fzr := NX.out.br.free
  obtain ⟨r0, r1, r2, r3, r4, r5, r6⟩ := NX.out.br.cells
  simp only at d0 d1 d2 d3 d4 d5 d6
  go_upto_region 9 with fail
  clear b0 b1 b2 b3 d0 d1 d2 d3 d4 d5 d6 lx lf lr fzf fzr r0 r1 r2 r3 r4 r5 r6
  have NY := Lib.hid (NX.out.setX ((at0 l (ow W D J S q 1) - 1) % 18446744073709551616))
  clear NX
  have NX := Lib.hid NY.out
  clear NY
  change Code.wp _ _ _ _ (w4.setCell ⟨w.heap.size + 1, 4, none⟩ (.int .u64 ((at0 l (ow W D J S q 1) - 1) % 18446744073709551616)))
  generalize w4.setCell ⟨w.heap.size + 1, 4, none⟩ (.int .u64 ((at0 l (ow W D J S q 1) - 1) % 18446744073709551616)) = w5 at NX ⊢
  obtain ⟨_, b0, b1, b2, b3⟩ := NX.out.bx
  obtain ⟨d0, d1, d2, d3, d4, d5, d6⟩ := NX.out.bf.cells
  obtain ⟨lx, lf, lr⟩ := NX.out.facts
  have fzf := NX.out.bf.free
  have fzr := NX.out.br.free
  obtain ⟨r0, r1, r2, r3, r4, r5, r6⟩ := NX.out.br.cells
  simp only at d0 d1 d2 d3 d4 d5 d6
  go_upto_region 10 with fail
  clear b0 b1 b2 b3 d0 d1 d2 d3 d4 d5 d6 lx lf lr fzf fzr r0 r1 r2 r3 r4 r5 r6
  have NY := Lib.hid (NX.out.setPc 1)
  clear NX
  have NX := Lib.hid NY.out
  clear NY
  change Code.wp _ _ _ _ (w5.setCell ⟨w.heap.size + 1, 1, none⟩ (.int .i64 1))
  generalize w5.setCell ⟨w.heap.size + 1, 1, none⟩ (.int .i64 1) = w6 at NX ⊢
  obtain ⟨_, b0, b1, b2, b3⟩ := NX.out.bx
  obtain ⟨d0, d1, d2, d3, d4, d5, d6⟩ := NX.out.bf.cells
  obtain ⟨lx, lf, lr⟩ := NX.out.facts
  have fzf := NX.out.bf.free
  have fzr := NX.out.br.free
  obtain ⟨r0, r1, r2, r3, r4, r5, r6⟩ := NX.out.br.cells
  simp only at d0 d1 d2 d3 d4 d5 d6
  go_region
  all_goals
    go_wp2
    change bodyPost _ _ _ _ _ (pf w6 (w.heap.size + 1 + 1) ⟨o, 1, q, v, (at0 l (ow W D J S q 1) - 1) % 18446744073709551616, y, s⟩).drew
    have NB := NX.out.backD ⟨o, 1, q, v, (at0 l (ow W D J S q 1) - 1) % 18446744073709551616, y, s⟩
    refine bodyPost_ret (results_fr Try.results30 _ rfl NB.1) rfl ?_
    exact ⟨A, c, rfl, .inl ⟨rfl, rfl⟩, NB.2⟩
set_option maxRecDepth 100000 in
set_option maxHeartbeats 4000000 in
theorem rpop_2n (W D J S o q v x y s : Int) (A : Option Addr) (n c : Nat) (l : List Int) (w : World) (h : Rd w A l) (hn : l.length = n) (hs : n ≤ 500) (hg : goes W D J S l ⟨o, 2, q, v, x, y, s⟩ 1 7 = true) (d : decide (far x (at0 l (ow W D J S q 0)) < 0) = true) (ux : U x) (ut : U (at0 l (ow W D J S q 0))) :
    Calls Try.prog 30 #[cf W D J S, .slice A n c, fv ⟨o, 2, q, v, x, y, s⟩] w (RetU w A l n l ⟨o, 6, q, v, x, at0 l (ow W D J S q 0), s⟩) := by
  have NX := Lib.hid (Ng.begin w W D J S (⟨o, 2, q, v, x, y, s⟩ : Fr))
  have H := Lib.hid h
  have HN := Lib.hid hn
  have HS := Lib.hid hs
  have HG0 := Lib.hid hg
  have Hd := Lib.hid d
  have Hux := Lib.hid ux
  have Hut := Lib.hid ut
  clear h hs hn hg d ux ut
  go_enter Try.func30, Try.ntmps30
  go_wp2_with fail
  change Calls _ _ _ (bx3 w W D J S ⟨o, 2, q, v, x, y, s⟩) _
  generalize bx3 w W D J S ⟨o, 2, q, v, x, y, s⟩ = w0 at NX ⊢
  refine (Tells.of (rgoes_any W D J S 1 7 A n c l ⟨o, 2, q, v, x, y, s⟩ _ HN.out) (v' := .bool true) (by rw [HG0.out])).mono ?_
  rintro _ w1 ⟨rfl, z⟩
  have NY := Lib.hid (NX.out.call z)
  clear NX
  have NX := Lib.hid NY.out
  clear NY
  clear z HG0
  obtain ⟨_, b0, b1, b2, b3⟩ := NX.out.bx
  obtain ⟨d0, d1, d2, d3, d4, d5, d6⟩ := NX.out.bf.cells
  obtain ⟨lx, lf, lr⟩ := NX.out.facts
  have fzf := NX.out.bf.free
  have fzr := NX.out.br.free
  obtain ⟨r0, r1, r2, r3, r4, r5, r6⟩ := NX.out.br.cells
  simp only at d0 d1 d2 d3 d4 d5 d6
  go_wp2_with fail
  refine (rtop_any W D J S q _).mono ?_
  rintro _ w2 ⟨rfl, z⟩
  clear b0 b1 b2 b3 d0 d1 d2 d3 d4 d5 d6 lx lf lr fzf fzr r0 r1 r2 r3 r4 r5 r6
  have NY := Lib.hid (NX.out.call z)
  clear NX
  have NX := Lib.hid NY.out
  clear NY
  clear z
  obtain ⟨_, b0, b1, b2, b3⟩ := NX.out.bx
  obtain ⟨d0, d1, d2, d3, d4, d5, d6⟩ := NX.out.bf.cells
  obtain ⟨lx, lf, lr⟩ := NX.out.facts
  have fzf := NX.out.bf.free
  have fzr := NX.out.br.free
  obtain ⟨r0, r1, r2, r3, r4, r5, r6⟩ := NX.out.br.cells
  simp only at d0 d1 d2 d3 d4 d5 d6
  go_wp2_with fail
  refine (rbottom_any W D J S q _).mono ?_
  rintro _ w3 ⟨rfl, z⟩
  clear b0 b1 b2 b3 d0 d1 d2 d3 d4 d5 d6 lx lf lr fzf fzr r0 r1 r2 r3 r4 r5 r6
  have NY := Lib.hid (NX.out.call z)
  clear NX
  have NX := Lib.hid NY.out
  clear NY
  clear z
  obtain ⟨_, b0, b1, b2, b3⟩ := NX.out.bx
  obtain ⟨d0, d1, d2, d3, d4, d5, d6⟩ := NX.out.bf.cells
  obtain ⟨lx, lf, lr⟩ := NX.out.facts
  have fzf := NX.out.bf.free
  have fzr := NX.out.br.free
  obtain ⟨r0, r1, r2, r3, r4, r5, r6⟩ := NX.out.br.cells
  simp only at d0 d1 d2 d3 d4 d5 d6
  have hd := Hd.out
  go_wp2_with fail
  refine (rload_any A n c l _ _ (H.out.below NX.out.be) HN.out).mono ?_
  rintro _ w4 ⟨rfl, z⟩
  clear b0 b1 b2 b3 d0 d1 d2 d3 d4 d5 d6 lx lf lr fzf fzr r0 r1 r2 r3 r4 r5 r6
  have NY := Lib.hid (NX.out.call z)
  clear NX
  have NX := Lib.hid NY.out
  clear NY
  clear z
  obtain ⟨_, b0, b1, b2, b3⟩ := NX.out.bx
  obtain ⟨d0, d1, d2, d3, d4, d5, d6⟩ := NX.out.bf.cells
  obtain ⟨lx, lf, lr⟩ := NX.out.facts
  have fzf := NX.out.bf.free
  have fzr := NX.out.br.free
  obtain ⟨r0, r1, r2, r3, r4, r5, r6⟩ := NX.out.br.cells
  simp only at d0 d1 d2 d3 d4 d5 d6
  go_upto_region 16 with fail
  clear b0 b1 b2 b3 d0 d1 d2 d3 d4 d5 d6 lx lf lr fzf fzr r0 r1 r2 r3 r4 r5 r6
  have NY := Lib.hid (NX.out.setY (at0 l (ow W D J S q 0)))
  clear NX
  have NX := Lib.hid NY.out
  clear NY
  change Code.wp _ _ _ _ (w4.setCell ⟨w.heap.size + 1, 5, none⟩ (.int .u64 (at0 l (ow W D J S q 0))))
  generalize w4.setCell ⟨w.heap.size + 1, 5, none⟩ (.int .u64 (at0 l (ow W D J S q 0))) = w5 at NX ⊢
  obtain ⟨_, b0, b1, b2, b3⟩ := NX.out.bx
  obtain ⟨d0, d1, d2, d3, d4, d5, d6⟩ := NX.out.bf.cells
  obtain ⟨lx, lf, lr⟩ := NX.out.facts
  have fzf := NX.out.bf.free
  have fzr := NX.out.br.free
  obtain ⟨r0, r1, r2, r3, r4, r5, r6⟩ := NX.out.br.cells
  simp only at d0 d1 d2 d3 d4 d5 d6
  go_upto_region 17 with fail
  clear b0 b1 b2 b3 d0 d1 d2 d3 d4 d5 d6 lx lf lr fzf fzr r0 r1 r2 r3 r4 r5 r6
  have NY := Lib.hid (NX.out.setPc 3)
  clear NX
  have NX := Lib.hid NY.out
  clear NY
  change Code.wp _ _ _ _ (w5.setCell ⟨w.heap.size + 1, 1, none⟩ (.int .i64 3))
  generalize w5.setCell ⟨w.heap.size + 1, 1, none⟩ (.int .i64 3) = w6 at NX ⊢
  obtain ⟨_, b0, b1, b2, b3⟩ := NX.out.bx
  obtain ⟨d0, d1, d2, d3, d4, d5, d6⟩ := NX.out.bf.cells
  obtain ⟨lx, lf, lr⟩ := NX.out.facts
  have fzf := NX.out.bf.free
  have fzr := NX.out.br.free
  obtain ⟨r0, r1, r2, r3, r4, r5, r6⟩ := NX.out.br.cells
  simp only at d0 d1 d2 d3 d4 d5 d6
  go_wp2_with fail
  refine ((rfar_any _ _ _ Hux.out Hut.out).tells).mono ?_
  rintro _ w7 ⟨rfl, z⟩
  clear b0 b1 b2 b3 d0 d1 d2 d3 d4 d5 d6 lx lf lr fzf fzr r0 r1 r2 r3 r4 r5 r6
  have NY := Lib.hid (NX.out.call z)
  clear NX
  have NX := Lib.hid NY.out
  clear NY
  clear z
  obtain ⟨_, b0, b1, b2, b3⟩ := NX.out.bx
  obtain ⟨d0, d1, d2, d3, d4, d5, d6⟩ := NX.out.bf.cells
  obtain ⟨lx, lf, lr⟩ := NX.out.facts
  have fzf := NX.out.bf.free
  have fzr := NX.out.br.free
  obtain ⟨r0, r1, r2, r3, r4, r5, r6⟩ := NX.out.br.cells
  simp only at d0 d1 d2 d3 d4 d5 d6
  go_upto_region 19 with fail
  clear b0 b1 b2 b3 d0 d1 d2 d3 d4 d5 d6 lx lf lr fzf fzr r0 r1 r2 r3 r4 r5 r6
  have NY := Lib.hid (NX.out.setPc 6)
  clear NX
  have NX := Lib.hid NY.out
  clear NY
  change Code.wp _ _ _ _ (w7.setCell ⟨w.heap.size + 1, 1, none⟩ (.int .i64 6))
  generalize w7.setCell ⟨w.heap.size + 1, 1, none⟩ (.int .i64 6) = w8 at NX ⊢
  obtain ⟨_, b0, b1, b2, b3⟩ := NX.out.bx
  obtain ⟨d0, d1, d2, d3, d4, d5, d6⟩ := NX.out.bf.cells
  obtain ⟨lx, lf, lr⟩ := NX.out.facts
  have fzf := NX.out.bf.free
  have fzr := NX.out.br.free
  obtain ⟨r0, r1, r2, r3, r4, r5, r6⟩ := NX.out.br.cells
  simp only at d0 d1 d2 d3 d4 d5 d6
  go_region
  all_goals
    go_wp2
    change bodyPost _ _ _ _ _ (pf w8 (w.heap.size + 1 + 1) ⟨o, 6, q, v, x, at0 l (ow W D J S q 0), s⟩).drew
    have NB := NX.out.backD ⟨o, 6, q, v, x, at0 l (ow W D J S q 0), s⟩
    refine bodyPost_ret (results_fr Try.results30 _ rfl NB.1) rfl ?_
    exact ⟨A, c, rfl, .inl ⟨rfl, rfl⟩, NB.2⟩
set_option maxRecDepth 100000 in
set_option maxHeartbeats 4000000 in
theorem rpop_2f (W D J S o q v x y s : Int) (A : Option Addr) (n c : Nat) (l : List Int) (w : World) (h : Rd w A l) (hn : l.length = n) (hs : n ≤ 500) (hg : goes W D J S l ⟨o, 2, q, v, x, y, s⟩ 1 7 = true) (d : decide (far x (at0 l (ow W D J S q 0)) < 0) = false) (ux : U x) (ut : U (at0 l (ow W D J S q 0))) :
    Calls Try.prog 30 #[cf W D J S, .slice A n c, fv ⟨o, 2, q, v, x, y, s⟩] w (RetU w A l n l ⟨o, 3, q, v, x, at0 l (ow W D J S q 0), s⟩) := by
  have NX := Lib.hid (Ng.begin w W D J S (⟨o, 2, q, v, x, y, s⟩ : Fr))
  have H := Lib.hid h
  have HN := Lib.hid hn
  have HS := Lib.hid hs
  have HG0 := Lib.hid hg
  have Hd := Lib.hid d
  have Hux := Lib.hid ux
  have Hut := Lib.hid ut
  clear h hs hn hg d ux ut
  go_enter Try.func30, Try.ntmps30
  go_wp2_with fail
  change Calls _ _ _ (bx3 w W D J S ⟨o, 2, q, v, x, y, s⟩) _
  generalize bx3 w W D J S ⟨o, 2, q, v, x, y, s⟩ = w0 at NX ⊢
  refine (Tells.of (rgoes_any W D J S 1 7 A n c l ⟨o, 2, q, v, x, y, s⟩ _ HN.out) (v' := .bool true) (by rw [HG0.out])).mono ?_
  rintro _ w1 ⟨rfl, z⟩
  have NY := Lib.hid (NX.out.call z)
  clear NX
  have NX := Lib.hid NY.out
  clear NY
  clear z HG0
  obtain ⟨_, b0, b1, b2, b3⟩ := NX.out.bx
  obtain ⟨d0, d1, d2, d3, d4, d5, d6⟩ := NX.out.bf.cells
  obtain ⟨lx, lf, lr⟩ := NX.out.facts
  have fzf := NX.out.bf.free
  have fzr := NX.out.br.free
  obtain ⟨r0, r1, r2, r3, r4, r5, r6⟩ := NX.out.br.cells
  simp only at d0 d1 d2 d3 d4 d5 d6
  go_wp2_with fail
  refine (rtop_any W D J S q _).mono ?_
  rintro _ w2 ⟨rfl, z⟩
  clear b0 b1 b2 b3 d0 d1 d2 d3 d4 d5 d6 lx lf lr fzf fzr r0 r1 r2 r3 r4 r5 r6
  have NY := Lib.hid (NX.out.call z)
  clear NX
  have NX := Lib.hid NY.out
  clear NY
  clear z
  obtain ⟨_, b0, b1, b2, b3⟩ := NX.out.bx
  obtain ⟨d0, d1, d2, d3, d4, d5, d6⟩ := NX.out.bf.cells
  obtain ⟨lx, lf, lr⟩ := NX.out.facts
  have fzf := NX.out.bf.free
  have fzr := NX.out.br.free
  obtain ⟨r0, r1, r2, r3, r4, r5, r6⟩ := NX.out.br.cells
  simp only at d0 d1 d2 d3 d4 d5 d6
  go_wp2_with fail
  refine (rbottom_any W D J S q _).mono ?_
  rintro _ w3 ⟨rfl, z⟩
  clear b0 b1 b2 b3 d0 d1 d2 d3 d4 d5 d6 lx lf lr fzf fzr r0 r1 r2 r3 r4 r5 r6
  have NY := Lib.hid (NX.out.call z)
  clear NX
  have NX := Lib.hid NY.out
  clear NY
  clear z
  obtain ⟨_, b0, b1, b2, b3⟩ := NX.out.bx
  obtain ⟨d0, d1, d2, d3, d4, d5, d6⟩ := NX.out.bf.cells
  obtain ⟨lx, lf, lr⟩ := NX.out.facts
  have fzf := NX.out.bf.free
  have fzr := NX.out.br.free
  obtain ⟨r0, r1, r2, r3, r4, r5, r6⟩ := NX.out.br.cells
  simp only at d0 d1 d2 d3 d4 d5 d6
  have hd := Hd.out
  go_wp2_with fail
  refine (rload_any A n c l _ _ (H.out.below NX.out.be) HN.out).mono ?_
  rintro _ w4 ⟨rfl, z⟩
  clear b0 b1 b2 b3 d0 d1 d2 d3 d4 d5 d6 lx lf lr fzf fzr r0 r1 r2 r3 r4 r5 r6
  have NY := Lib.hid (NX.out.call z)
  clear NX
  have NX := Lib.hid NY.out
  clear NY
  clear z
  obtain ⟨_, b0, b1, b2, b3⟩ := NX.out.bx
  obtain ⟨d0, d1, d2, d3, d4, d5, d6⟩ := NX.out.bf.cells
  obtain ⟨lx, lf, lr⟩ := NX.out.facts
  have fzf := NX.out.bf.free
  have fzr := NX.out.br.free
  obtain ⟨r0, r1, r2, r3, r4, r5, r6⟩ := NX.out.br.cells
  simp only at d0 d1 d2 d3 d4 d5 d6
  go_upto_region 16 with fail
  clear b0 b1 b2 b3 d0 d1 d2 d3 d4 d5 d6 lx lf lr fzf fzr r0 r1 r2 r3 r4 r5 r6
  have NY := Lib.hid (NX.out.setY (at0 l (ow W D J S q 0)))
  clear NX
  have NX := Lib.hid NY.out
  clear NY
  change Code.wp _ _ _ _ (w4.setCell ⟨w.heap.size + 1, 5, none⟩ (.int .u64 (at0 l (ow W D J S q 0))))
  generalize w4.setCell ⟨w.heap.size + 1, 5, none⟩ (.int .u64 (at0 l (ow W D J S q 0))) = w5 at NX ⊢
  obtain ⟨_, b0, b1, b2, b3⟩ := NX.out.bx
  obtain ⟨d0, d1, d2, d3, d4, d5, d6⟩ := NX.out.bf.cells
  obtain ⟨lx, lf, lr⟩ := NX.out.facts
  have fzf := NX.out.bf.free
  have fzr := NX.out.br.free
  obtain ⟨r0, r1, r2, r3, r4, r5, r6⟩ := NX.out.br.cells
  simp only at d0 d1 d2 d3 d4 d5 d6
  go_upto_region 17 with fail
  clear b0 b1 b2 b3 d0 d1 d2 d3 d4 d5 d6 lx lf lr fzf fzr r0 r1 r2 r3 r4 r5 r6
  have NY := Lib.hid (NX.out.setPc 3)
  clear NX
  have NX := Lib.hid NY.out
  clear NY
  change Code.wp _ _ _ _ (w5.setCell ⟨w.heap.size + 1, 1, none⟩ (.int .i64 3))
  generalize w5.setCell ⟨w.heap.size + 1, 1, none⟩ (.int .i64 3) = w6 at NX ⊢
  obtain ⟨_, b0, b1, b2, b3⟩ := NX.out.bx
  obtain ⟨d0, d1, d2, d3, d4, d5, d6⟩ := NX.out.bf.cells
  obtain ⟨lx, lf, lr⟩ := NX.out.facts
  have fzf := NX.out.bf.free
  have fzr := NX.out.br.free
  obtain ⟨r0, r1, r2, r3, r4, r5, r6⟩ := NX.out.br.cells
  simp only at d0 d1 d2 d3 d4 d5 d6
  go_wp2_with fail
  refine ((rfar_any _ _ _ Hux.out Hut.out).tells).mono ?_
  rintro _ w7 ⟨rfl, z⟩
  clear b0 b1 b2 b3 d0 d1 d2 d3 d4 d5 d6 lx lf lr fzf fzr r0 r1 r2 r3 r4 r5 r6
  have NY := Lib.hid (NX.out.call z)
  clear NX
  have NX := Lib.hid NY.out
  clear NY
  clear z
  obtain ⟨_, b0, b1, b2, b3⟩ := NX.out.bx
  obtain ⟨d0, d1, d2, d3, d4, d5, d6⟩ := NX.out.bf.cells
  obtain ⟨lx, lf, lr⟩ := NX.out.facts
  have fzf := NX.out.bf.free
  have fzr := NX.out.br.free
  obtain ⟨r0, r1, r2, r3, r4, r5, r6⟩ := NX.out.br.cells
  simp only at d0 d1 d2 d3 d4 d5 d6
  go_wp2_with fail
  go_region
  all_goals
    go_wp2
    change bodyPost _ _ _ _ _ (pf w7 (w.heap.size + 1 + 1) ⟨o, 3, q, v, x, at0 l (ow W D J S q 0), s⟩).drew
    have NB := NX.out.backD ⟨o, 3, q, v, x, at0 l (ow W D J S q 0), s⟩
    refine bodyPost_ret (results_fr Try.results30 _ rfl NB.1) rfl ?_
    exact ⟨A, c, rfl, .inl ⟨rfl, rfl⟩, NB.2⟩
set_option maxRecDepth 100000 in
set_option maxHeartbeats 4000000 in
theorem rpop_3e (W D J S o q v x s : Int) (A : Option Addr) (n c : Nat) (l : List Int) (w : World) (h : Rd w A l) (hn : l.length = n) (hs : n ≤ 500) (hg : goes W D J S l ⟨o, 3, q, v, x, x, s⟩ 1 7 = true) (ux : U x) :
    Calls Try.prog 30 #[cf W D J S, .slice A n c, fv ⟨o, 3, q, v, x, x, s⟩] w (RetU w A l n l ⟨o, 4, q, at0 l (sl W D J S q x), x, x, s⟩) := by
  have NX := Lib.hid (Ng.begin w W D J S (⟨o, 3, q, v, x, x, s⟩ : Fr))
  have H := Lib.hid h
  have HN := Lib.hid hn
  have HS := Lib.hid hs
  have HG0 := Lib.hid hg
  have Hux := Lib.hid ux
  clear h hs hn hg ux
  go_enter Try.func30, Try.ntmps30
  go_wp2_with fail
  change Calls _ _ _ (bx3 w W D J S ⟨o, 3, q, v, x, x, s⟩) _
  generalize bx3 w W D J S ⟨o, 3, q, v, x, x, s⟩ = w0 at NX ⊢
  refine (Tells.of (rgoes_any W D J S 1 7 A n c l ⟨o, 3, q, v, x, x, s⟩ _ HN.out) (v' := .bool true) (by rw [HG0.out])).mono ?_
  rintro _ w1 ⟨rfl, z⟩
  have NY := Lib.hid (NX.out.call z)
  clear NX
  have NX := Lib.hid NY.out
  clear NY
  clear z HG0
  obtain ⟨_, b0, b1, b2, b3⟩ := NX.out.bx
  obtain ⟨d0, d1, d2, d3, d4, d5, d6⟩ := NX.out.bf.cells
  obtain ⟨lx, lf, lr⟩ := NX.out.facts
  have fzf := NX.out.bf.free
  have fzr := NX.out.br.free
  obtain ⟨r0, r1, r2, r3, r4, r5, r6⟩ := NX.out.br.cells
  simp only at d0 d1 d2 d3 d4 d5 d6
  go_wp2_with fail
  refine (rtop_any W D J S q _).mono ?_
  rintro _ w2 ⟨rfl, z⟩
  clear b0 b1 b2 b3 d0 d1 d2 d3 d4 d5 d6 lx lf lr fzf fzr r0 r1 r2 r3 r4 r5 r6
  have NY := Lib.hid (NX.out.call z)
  clear NX
  have NX := Lib.hid NY.out
  clear NY
  clear z
  obtain ⟨_, b0, b1, b2, b3⟩ := NX.out.bx
  obtain ⟨d0, d1, d2, d3, d4, d5, d6⟩ := NX.out.bf.cells
  obtain ⟨lx, lf, lr⟩ := NX.out.facts
  have fzf := NX.out.bf.free
  have fzr := NX.out.br.free
  obtain ⟨r0, r1, r2, r3, r4, r5, r6⟩ := NX.out.br.cells
  simp only at d0 d1 d2 d3 d4 d5 d6
  go_wp2_with fail
  refine (rbottom_any W D J S q _).mono ?_
  rintro _ w3 ⟨rfl, z⟩
  clear b0 b1 b2 b3 d0 d1 d2 d3 d4 d5 d6 lx lf lr fzf fzr r0 r1 r2 r3 r4 r5 r6
  have NY := Lib.hid (NX.out.call z)
  clear NX
  have NX := Lib.hid NY.out
  clear NY
  clear z
  obtain ⟨_, b0, b1, b2, b3⟩ := NX.out.bx
  obtain ⟨d0, d1, d2, d3, d4, d5, d6⟩ := NX.out.bf.cells
  obtain ⟨lx, lf, lr⟩ := NX.out.facts
  have fzf := NX.out.bf.free
  have fzr := NX.out.br.free
  obtain ⟨r0, r1, r2, r3, r4, r5, r6⟩ := NX.out.br.cells
  simp only at d0 d1 d2 d3 d4 d5 d6
  go_wp2_with fail
  refine (rslot_any W D J S q x _ Hux.out).mono ?_
  rintro _ w4 ⟨rfl, z⟩
  clear b0 b1 b2 b3 d0 d1 d2 d3 d4 d5 d6 lx lf lr fzf fzr r0 r1 r2 r3 r4 r5 r6
  have NY := Lib.hid (NX.out.call z)
  clear NX
  have NX := Lib.hid NY.out
  clear NY
  clear z
  obtain ⟨_, b0, b1, b2, b3⟩ := NX.out.bx
  obtain ⟨d0, d1, d2, d3, d4, d5, d6⟩ := NX.out.bf.cells
  obtain ⟨lx, lf, lr⟩ := NX.out.facts
  have fzf := NX.out.bf.free
  have fzr := NX.out.br.free
  obtain ⟨r0, r1, r2, r3, r4, r5, r6⟩ := NX.out.br.cells
  simp only at d0 d1 d2 d3 d4 d5 d6
  go_wp2_with fail
  refine (rload_any A n c l _ _ (H.out.below NX.out.be) HN.out).mono ?_
  rintro _ w5 ⟨rfl, z⟩
  clear b0 b1 b2 b3 d0 d1 d2 d3 d4 d5 d6 lx lf lr fzf fzr r0 r1 r2 r3 r4 r5 r6
  have NY := Lib.hid (NX.out.call z)
  clear NX
  have NX := Lib.hid NY.out
  clear NY
  clear z
  obtain ⟨_, b0, b1, b2, b3⟩ := NX.out.bx
  obtain ⟨d0, d1, d2, d3, d4, d5, d6⟩ := NX.out.bf.cells
  obtain ⟨lx, lf, lr⟩ := NX.out.facts
  have fzf := NX.out.bf.free
  have fzr := NX.out.br.free
  obtain ⟨r0, r1, r2, r3, r4, r5, r6⟩ := NX.out.br.cells
  simp only at d0 d1 d2 d3 d4 d5 d6
  go_upto_region 22 with fail
  clear b0 b1 b2 b3 d0 d1 d2 d3 d4 d5 d6 lx lf lr fzf fzr r0 r1 r2 r3 r4 r5 r6
  have NY := Lib.hid (NX.out.setVal (at0 l (sl W D J S q x)))
  clear NX
  have NX := Lib.hid NY.out
  clear NY
  change Code.wp _ _ _ _ (w5.setCell ⟨w.heap.size + 1, 3, none⟩ (.int .u64 (at0 l (sl W D J S q x))))
  generalize w5.setCell ⟨w.heap.size + 1, 3, none⟩ (.int .u64 (at0 l (sl W D J S q x))) = w6 at NX ⊢
  obtain ⟨_, b0, b1, b2, b3⟩ := NX.out.bx
  obtain ⟨d0, d1, d2, d3, d4, d5, d6⟩ := NX.out.bf.cells
  obtain ⟨lx, lf, lr⟩ := NX.out.facts
  have fzf := NX.out.bf.free
  have fzr := NX.out.br.free
  obtain ⟨r0, r1, r2, r3, r4, r5, r6⟩ := NX.out.br.cells
  simp only at d0 d1 d2 d3 d4 d5 d6
  go_upto_region 23 with fail
  clear b0 b1 b2 b3 d0 d1 d2 d3 d4 d5 d6 lx lf lr fzf fzr r0 r1 r2 r3 r4 r5 r6
  have NY := Lib.hid (NX.out.setPc 4)
  clear NX
  have NX := Lib.hid NY.out
  clear NY
  change Code.wp _ _ _ _ (w6.setCell ⟨w.heap.size + 1, 1, none⟩ (.int .i64 4))
  generalize w6.setCell ⟨w.heap.size + 1, 1, none⟩ (.int .i64 4) = w7 at NX ⊢
  obtain ⟨_, b0, b1, b2, b3⟩ := NX.out.bx
  obtain ⟨d0, d1, d2, d3, d4, d5, d6⟩ := NX.out.bf.cells
  obtain ⟨lx, lf, lr⟩ := NX.out.facts
  have fzf := NX.out.bf.free
  have fzr := NX.out.br.free
  obtain ⟨r0, r1, r2, r3, r4, r5, r6⟩ := NX.out.br.cells
  simp only at d0 d1 d2 d3 d4 d5 d6
  go_wp2_with fail
  go_region
  all_goals
    go_wp2
    change bodyPost _ _ _ _ _ (pf w7 (w.heap.size + 1 + 1) ⟨o, 4, q, at0 l (sl W D J S q x), x, x, s⟩).drew
    have NB := NX.out.backD ⟨o, 4, q, at0 l (sl W D J S q x), x, x, s⟩
    refine bodyPost_ret (results_fr Try.results30 _ rfl NB.1) rfl ?_
    exact ⟨A, c, rfl, .inl ⟨rfl, rfl⟩, NB.2⟩
set_option maxRecDepth 100000 in
set_option maxHeartbeats 4000000 in
theorem rpop_3t (W D J S o q v x y s : Int) (A : Option Addr) (n c : Nat) (l : List Int) (w : World) (h : Rd w A l) (hn : l.length = n) (hs : n ≤ 500) (hg : goes W D J S l ⟨o, 3, q, v, x, y, s⟩ 1 7 = true) (ux : U x) (d : (x != y) = true) :
    Calls Try.prog 30 #[cf W D J S, .slice A n c, fv ⟨o, 3, q, v, x, y, s⟩] w (RetU w A l n l (ed ⟨o, 4, q, at0 l (sl W D J S q x), x, y, s⟩ 1 (at0 l (sl W D J S q x)))) := by
  have NX := Lib.hid (Ng.begin w W D J S (⟨o, 3, q, v, x, y, s⟩ : Fr))
  have H := Lib.hid h
  have HN := Lib.hid hn
  have HS := Lib.hid hs
  have HG0 := Lib.hid hg
  have Hux := Lib.hid ux
  have Hd := Lib.hid d
  clear h hs hn hg ux d
  go_enter Try.func30, Try.ntmps30
  go_wp2_with fail
  change Calls _ _ _ (bx3 w W D J S ⟨o, 3, q, v, x, y, s⟩) _
  generalize bx3 w W D J S ⟨o, 3, q, v, x, y, s⟩ = w0 at NX ⊢
  refine (Tells.of (rgoes_any W D J S 1 7 A n c l ⟨o, 3, q, v, x, y, s⟩ _ HN.out) (v' := .bool true) (by rw [HG0.out])).mono ?_
  rintro _ w1 ⟨rfl, z⟩
  have NY := Lib.hid (NX.out.call z)
  clear NX
  have NX := Lib.hid NY.out
  clear NY
  clear z HG0
  obtain ⟨_, b0, b1, b2, b3⟩ := NX.out.bx
  obtain ⟨d0, d1, d2, d3, d4, d5, d6⟩ := NX.out.bf.cells
  obtain ⟨lx, lf, lr⟩ := NX.out.facts
  have fzf := NX.out.bf.free
  have fzr := NX.out.br.free
  obtain ⟨r0, r1, r2, r3, r4, r5, r6⟩ := NX.out.br.cells
  simp only at d0 d1 d2 d3 d4 d5 d6
  go_wp2_with fail
  refine (rtop_any W D J S q _).mono ?_
  rintro _ w2 ⟨rfl, z⟩
  clear b0 b1 b2 b3 d0 d1 d2 d3 d4 d5 d6 lx lf lr fzf fzr r0 r1 r2 r3 r4 r5 r6
  have NY := Lib.hid (NX.out.call z)
  clear NX
  have NX := Lib.hid NY.out
  clear NY
  clear z
  obtain ⟨_, b0, b1, b2, b3⟩ := NX.out.bx
  obtain ⟨d0, d1, d2, d3, d4, d5, d6⟩ := NX.out.bf.cells
  obtain ⟨lx, lf, lr⟩ := NX.out.facts
  have fzf := NX.out.bf.free
  have fzr := NX.out.br.free
  obtain ⟨r0, r1, r2, r3, r4, r5, r6⟩ := NX.out.br.cells
  simp only at d0 d1 d2 d3 d4 d5 d6
  go_wp2_with fail
  refine (rbottom_any W D J S q _).mono ?_
  rintro _ w3 ⟨rfl, z⟩
  clear b0 b1 b2 b3 d0 d1 d2 d3 d4 d5 d6 lx lf lr fzf fzr r0 r1 r2 r3 r4 r5 r6
  have NY := Lib.hid (NX.out.call z)
  clear NX
  have NX := Lib.hid NY.out
  clear NY
  clear z
  obtain ⟨_, b0, b1, b2, b3⟩ := NX.out.bx
  obtain ⟨d0, d1, d2, d3, d4, d5, d6⟩ := NX.out.bf.cells
  obtain ⟨lx, lf, lr⟩ := NX.out.facts
  have fzf := NX.out.bf.free
  have fzr := NX.out.br.free
  obtain ⟨r0, r1, r2, r3, r4, r5, r6⟩ := NX.out.br.cells
  simp only at d0 d1 d2 d3 d4 d5 d6
  have hd := Hd.out
  go_wp2_with fail
  refine (rslot_any W D J S q x _ Hux.out).mono ?_
  rintro _ w4 ⟨rfl, z⟩
  clear b0 b1 b2 b3 d0 d1 d2 d3 d4 d5 d6 lx lf lr fzf fzr r0 r1 r2 r3 r4 r5 r6
  have NY := Lib.hid (NX.out.call z)
  clear NX
  have NX := Lib.hid NY.out
  clear NY
  clear z
  obtain ⟨_, b0, b1, b2, b3⟩ := NX.out.bx
  obtain ⟨d0, d1, d2, d3, d4, d5, d6⟩ := NX.out.bf.cells
  obtain ⟨lx, lf, lr⟩ := NX.out.facts
  have fzf := NX.out.bf.free
  have fzr := NX.out.br.free
  obtain ⟨r0, r1, r2, r3, r4, r5, r6⟩ := NX.out.br.cells
  simp only at d0 d1 d2 d3 d4 d5 d6
  go_wp2_with fail
  refine (rload_any A n c l _ _ (H.out.below NX.out.be) HN.out).mono ?_
  rintro _ w5 ⟨rfl, z⟩
  clear b0 b1 b2 b3 d0 d1 d2 d3 d4 d5 d6 lx lf lr fzf fzr r0 r1 r2 r3 r4 r5 r6
  have NY := Lib.hid (NX.out.call z)
  clear NX
  have NX := Lib.hid NY.out
  clear NY
  clear z
  obtain ⟨_, b0, b1, b2, b3⟩ := NX.out.bx
  obtain ⟨d0, d1, d2, d3, d4, d5, d6⟩ := NX.out.bf.cells
  obtain ⟨lx, lf, lr⟩ := NX.out.facts
  have fzf := NX.out.bf.free
  have fzr := NX.out.br.free
  obtain ⟨r0, r1, r2, r3, r4, r5, r6⟩ := NX.out.br.cells
  simp only at d0 d1 d2 d3 d4 d5 d6
  go_upto_region 22 with fail
  clear b0 b1 b2 b3 d0 d1 d2 d3 d4 d5 d6 lx lf lr fzf fzr r0 r1 r2 r3 r4 r5 r6
  have NY := Lib.hid (NX.out.setVal (at0 l (sl W D J S q x)))
  clear NX
  have NX := Lib.hid NY.out
  clear NY
  change Code.wp _ _ _ _ (w5.setCell ⟨w.heap.size + 1, 3, none⟩ (.int .u64 (at0 l (sl W D J S q x))))
  generalize w5.setCell ⟨w.heap.size + 1, 3, none⟩ (.int .u64 (at0 l (sl W D J S q x))) = w6 at NX ⊢
  obtain ⟨_, b0, b1, b2, b3⟩ := NX.out.bx
  obtain ⟨d0, d1, d2, d3, d4, d5, d6⟩ := NX.out.bf.cells
  obtain ⟨lx, lf, lr⟩ := NX.out.facts
  have fzf := NX.out.bf.free
  have fzr := NX.out.br.free
  obtain ⟨r0, r1, r2, r3, r4, r5, r6⟩ := NX.out.br.cells
  simp only at d0 d1 d2 d3 d4 d5 d6
  go_upto_region 23 with fail
  clear b0 b1 b2 b3 d0 d1 d2 d3 d4 d5 d6 lx lf lr fzf fzr r0 r1 r2 r3 r4 r5 r6
  have NY := Lib.hid (NX.out.setPc 4)
  clear NX
  have NX := Lib.hid NY.out
  clear NY
  change Code.wp _ _ _ _ (w6.setCell ⟨w.heap.size + 1, 1, none⟩ (.int .i64 4))
  generalize w6.setCell ⟨w.heap.size + 1, 1, none⟩ (.int .i64 4) = w7 at NX ⊢
  obtain ⟨_, b0, b1, b2, b3⟩ := NX.out.bx
  obtain ⟨d0, d1, d2, d3, d4, d5, d6⟩ := NX.out.bf.cells
  obtain ⟨lx, lf, lr⟩ := NX.out.facts
  have fzf := NX.out.bf.free
  have fzr := NX.out.br.free
  obtain ⟨r0, r1, r2, r3, r4, r5, r6⟩ := NX.out.br.cells
  simp only at d0 d1 d2 d3 d4 d5 d6
  go_wp2_with fail
  refine (rend_any ⟨o, 4, q, at0 l (sl W D J S q x), x, y, s⟩ _ _ _).mono ?_
  rintro _ w8 ⟨rfl, z⟩
  clear b0 b1 b2 b3 d0 d1 d2 d3 d4 d5 d6 lx lf lr fzf fzr r0 r1 r2 r3 r4 r5 r6
  have NY := Lib.hid (NX.out.call z)
  clear NX
  have NX := Lib.hid NY.out
  clear NY
  clear z
  obtain ⟨_, b0, b1, b2, b3⟩ := NX.out.bx
  obtain ⟨d0, d1, d2, d3, d4, d5, d6⟩ := NX.out.bf.cells
  obtain ⟨lx, lf, lr⟩ := NX.out.facts
  have fzf := NX.out.bf.free
  have fzr := NX.out.br.free
  obtain ⟨r0, r1, r2, r3, r4, r5, r6⟩ := NX.out.br.cells
  simp only at d0 d1 d2 d3 d4 d5 d6
  go_wp2
  change bodyPost _ _ _ _ _ (pf w8 (w.heap.size + 1 + 1) (ed ⟨o, 4, q, at0 l (sl W D J S q x), x, y, s⟩ 1 (at0 l (sl W D J S q x))))
  have NB := NX.out.back (ed ⟨o, 4, q, at0 l (sl W D J S q x), x, y, s⟩ 1 (at0 l (sl W D J S q x)))
  refine bodyPost_ret (results_fr Try.results30 _ rfl NB.1) rfl ?_
  exact ⟨A, c, rfl, .inl ⟨rfl, rfl⟩, NB.2⟩
set_option maxRecDepth 100000 in
set_option maxHeartbeats 4000000 in
theorem rpop_4y (W D J S o q v x y s : Int) (A : Option Addr) (n c : Nat) (l : List Int) (w : World) (h : Rd w A l) (hn : l.length = n) (hs : n ≤ 500) (hg : goes W D J S l ⟨o, 4, q, v, x, y, s⟩ 1 7 = true) (T0 : List Int) (b : isAt l (ow W D J S q 0) y = true) (T : (if isAt l (ow W D J S q 0) y = true then put l (ow W D J S q 0) ((y + 1) % 18446744073709551616) else l) = T0) (L : T0.length = l.length) :
    Calls Try.prog 30 #[cf W D J S, .slice A n c, fv ⟨o, 4, q, v, x, y, s⟩] w (RetU w A l n T0 ⟨o, 5, q, v, x, y, s⟩) := by
  have NX := Lib.hid (Ng.begin w W D J S (⟨o, 4, q, v, x, y, s⟩ : Fr))
  have H := Lib.hid h
  have HN := Lib.hid hn
  have HS := Lib.hid hs
  have HG0 := Lib.hid hg
  have Hb := Lib.hid b
  have HT := Lib.hid T
  have HL := Lib.hid L
  clear h hs hn hg b T L
  go_enter Try.func30, Try.ntmps30
  go_wp2_with fail
  change Calls _ _ _ (bx3 w W D J S ⟨o, 4, q, v, x, y, s⟩) _
  generalize bx3 w W D J S ⟨o, 4, q, v, x, y, s⟩ = w0 at NX ⊢
  refine (Tells.of (rgoes_any W D J S 1 7 A n c l ⟨o, 4, q, v, x, y, s⟩ _ HN.out) (v' := .bool true) (by rw [HG0.out])).mono ?_
  rintro _ w1 ⟨rfl, z⟩
  have NY := Lib.hid (NX.out.call z)
  clear NX
  have NX := Lib.hid NY.out
  clear NY
  clear z HG0
  obtain ⟨_, b0, b1, b2, b3⟩ := NX.out.bx
  obtain ⟨d0, d1, d2, d3, d4, d5, d6⟩ := NX.out.bf.cells
  obtain ⟨lx, lf, lr⟩ := NX.out.facts
  have fzf := NX.out.bf.free
  have fzr := NX.out.br.free
  obtain ⟨r0, r1, r2, r3, r4, r5, r6⟩ := NX.out.br.cells
  simp only at d0 d1 d2 d3 d4 d5 d6
  go_wp2_with fail
  refine (rtop_any W D J S q _).mono ?_
  rintro _ w2 ⟨rfl, z⟩
  clear b0 b1 b2 b3 d0 d1 d2 d3 d4 d5 d6 lx lf lr fzf fzr r0 r1 r2 r3 r4 r5 r6
  have NY := Lib.hid (NX.out.call z)
  clear NX
  have NX := Lib.hid NY.out
  clear NY
  clear z
  obtain ⟨_, b0, b1, b2, b3⟩ := NX.out.bx
  obtain ⟨d0, d1, d2, d3, d4, d5, d6⟩ := NX.out.bf.cells
  obtain ⟨lx, lf, lr⟩ := NX.out.facts
  have fzf := NX.out.bf.free
  have fzr := NX.out.br.free
  obtain ⟨r0, r1, r2, r3, r4, r5, r6⟩ := NX.out.br.cells
  simp only at d0 d1 d2 d3 d4 d5 d6
  go_wp2_with fail
  refine (rbottom_any W D J S q _).mono ?_
  rintro _ w3 ⟨rfl, z⟩
  clear b0 b1 b2 b3 d0 d1 d2 d3 d4 d5 d6 lx lf lr fzf fzr r0 r1 r2 r3 r4 r5 r6
  have NY := Lib.hid (NX.out.call z)
  clear NX
  have NX := Lib.hid NY.out
  clear NY
  clear z
  obtain ⟨_, b0, b1, b2, b3⟩ := NX.out.bx
  obtain ⟨d0, d1, d2, d3, d4, d5, d6⟩ := NX.out.bf.cells
  obtain ⟨lx, lf, lr⟩ := NX.out.facts
  have fzf := NX.out.bf.free
  have fzr := NX.out.br.free
  obtain ⟨r0, r1, r2, r3, r4, r5, r6⟩ := NX.out.br.cells
  simp only at d0 d1 d2 d3 d4 d5 d6
  go_wp2_with fail
  refine (rcasn_n (H.out.below NX.out.be) HN.out HS.out Hb.out HT.out).mono ?_
  rintro _ w4 ⟨A9, c9, rfl, n9, z⟩
  clear b0 b1 b2 b3 d0 d1 d2 d3 d4 d5 d6 lx lf lr fzf fzr r0 r1 r2 r3 r4 r5 r6
  have NY := Lib.hid (NX.out.call z)
  have NR := Lib.hid n9
  have HG := Lib.hid (show w.heap.size + 1 + 1 < w3.heap.size from NX.out.facts.2.2)
  clear n9
  clear NX
  have NX := Lib.hid NY.out
  clear NY
  clear z
  obtain ⟨_, b0, b1, b2, b3⟩ := NX.out.bx
  obtain ⟨d0, d1, d2, d3, d4, d5, d6⟩ := NX.out.bf.cells
  obtain ⟨lx, lf, lr⟩ := NX.out.facts
  have fzf := NX.out.bf.free
  have fzr := NX.out.br.free
  obtain ⟨r0, r1, r2, r3, r4, r5, r6⟩ := NX.out.br.cells
  simp only at d0 d1 d2 d3 d4 d5 d6
  go_upto_region 29 with fail
  clear b0 b1 b2 b3 d0 d1 d2 d3 d4 d5 d6 lx lf lr fzf fzr r0 r1 r2 r3 r4 r5 r6
  have NY := Lib.hid (NX.out.setPc 6)
  clear NX
  have NX := Lib.hid NY.out
  clear NY
  change Code.wp _ _ _ _ (w4.setCell ⟨w.heap.size + 1, 1, none⟩ (.int .i64 6))
  replace NR := Lib.hid (NR.out.set (p := ⟨w.heap.size + 1, 1, none⟩) (by have := HG.out; simp only; omega) (.int .i64 6))
  generalize w4.setCell ⟨w.heap.size + 1, 1, none⟩ (.int .i64 6) = w5 at NX NR ⊢
  obtain ⟨_, b0, b1, b2, b3⟩ := NX.out.bx
  obtain ⟨d0, d1, d2, d3, d4, d5, d6⟩ := NX.out.bf.cells
  obtain ⟨lx, lf, lr⟩ := NX.out.facts
  have fzf := NX.out.bf.free
  have fzr := NX.out.br.free
  obtain ⟨r0, r1, r2, r3, r4, r5, r6⟩ := NX.out.br.cells
  simp only at d0 d1 d2 d3 d4 d5 d6
  go_upto_region 31 with fail
  clear b0 b1 b2 b3 d0 d1 d2 d3 d4 d5 d6 lx lf lr fzf fzr r0 r1 r2 r3 r4 r5 r6
  have NY := Lib.hid (NX.out.setPc 5)
  clear NX
  have NX := Lib.hid NY.out
  clear NY
  change Code.wp _ _ _ _ (w5.setCell ⟨w.heap.size + 1, 1, none⟩ (.int .i64 5))
  replace NR := Lib.hid (NR.out.set (p := ⟨w.heap.size + 1, 1, none⟩) (by have := HG.out; simp only; omega) (.int .i64 5))
  generalize w5.setCell ⟨w.heap.size + 1, 1, none⟩ (.int .i64 5) = w6 at NX NR ⊢
  obtain ⟨_, b0, b1, b2, b3⟩ := NX.out.bx
  obtain ⟨d0, d1, d2, d3, d4, d5, d6⟩ := NX.out.bf.cells
  obtain ⟨lx, lf, lr⟩ := NX.out.facts
  have fzf := NX.out.bf.free
  have fzr := NX.out.br.free
  obtain ⟨r0, r1, r2, r3, r4, r5, r6⟩ := NX.out.br.cells
  simp only at d0 d1 d2 d3 d4 d5 d6
  go_region
  all_goals
    go_wp2
    change bodyPost _ _ _ _ _ (pf w6 (w.heap.size + 1 + 1) ⟨o, 5, q, v, x, y, s⟩).drew
    have NB := NX.out.backD ⟨o, 5, q, v, x, y, s⟩
    refine bodyPost_ret (results_fr Try.results30 _ rfl NB.1) rfl ?_
    exact ⟨A9, c9, rfl, .inr ((NR.out.pfO HG.out (by omega) _).drew), NB.2⟩
set_option maxRecDepth 100000 in
set_option maxHeartbeats 4000000 in
theorem rpop_4n (W D J S o q v x y s : Int) (A : Option Addr) (n c : Nat) (l : List Int) (w : World) (h : Rd w A l) (hn : l.length = n) (hs : n ≤ 500) (hg : goes W D J S l ⟨o, 4, q, v, x, y, s⟩ 1 7 = true) (T0 : List Int) (b : isAt l (ow W D J S q 0) y = false) (T : (if isAt l (ow W D J S q 0) y = true then put l (ow W D J S q 0) ((y + 1) % 18446744073709551616) else l) = T0) (L : T0.length = l.length) :
    Calls Try.prog 30 #[cf W D J S, .slice A n c, fv ⟨o, 4, q, v, x, y, s⟩] w (RetU w A l n T0 ⟨o, 6, q, v, x, y, s⟩) := by
  have NX := Lib.hid (Ng.begin w W D J S (⟨o, 4, q, v, x, y, s⟩ : Fr))
  have H := Lib.hid h
  have HN := Lib.hid hn
  have HS := Lib.hid hs
  have HG0 := Lib.hid hg
  have Hb := Lib.hid b
  have HT := Lib.hid T
  have HL := Lib.hid L
  clear h hs hn hg b T L
  go_enter Try.func30, Try.ntmps30
  go_wp2_with fail
  change Calls _ _ _ (bx3 w W D J S ⟨o, 4, q, v, x, y, s⟩) _
  generalize bx3 w W D J S ⟨o, 4, q, v, x, y, s⟩ = w0 at NX ⊢
  refine (Tells.of (rgoes_any W D J S 1 7 A n c l ⟨o, 4, q, v, x, y, s⟩ _ HN.out) (v' := .bool true) (by rw [HG0.out])).mono ?_
  rintro _ w1 ⟨rfl, z⟩
  have NY := Lib.hid (NX.out.call z)
  clear NX
  have NX := Lib.hid NY.out
  clear NY
  clear z HG0
  obtain ⟨_, b0, b1, b2, b3⟩ := NX.out.bx
  obtain ⟨d0, d1, d2, d3, d4, d5, d6⟩ := NX.out.bf.cells
  obtain ⟨lx, lf, lr⟩ := NX.out.facts
  have fzf := NX.out.bf.free
  have fzr := NX.out.br.free
  obtain ⟨r0, r1, r2, r3, r4, r5, r6⟩ := NX.out.br.cells
  simp only at d0 d1 d2 d3 d4 d5 d6
  go_wp2_with fail
  refine (rtop_any W D J S q _).mono ?_
  rintro _ w2 ⟨rfl, z⟩
  clear b0 b1 b2 b3 d0 d1 d2 d3 d4 d5 d6 lx lf lr fzf fzr r0 r1 r2 r3 r4 r5 r6
  have NY := Lib.hid (NX.out.call z)
  clear NX
  have NX := Lib.hid NY.out
  clear NY
  clear z
  obtain ⟨_, b0, b1, b2, b3⟩ := NX.out.bx
  obtain ⟨d0, d1, d2, d3, d4, d5, d6⟩ := NX.out.bf.cells
  obtain ⟨lx, lf, lr⟩ := NX.out.facts
  have fzf := NX.out.bf.free
  have fzr := NX.out.br.free
  obtain ⟨r0, r1, r2, r3, r4, r5, r6⟩ := NX.out.br.cells
  simp only at d0 d1 d2 d3 d4 d5 d6
  go_wp2_with fail
  refine (rbottom_any W D J S q _).mono ?_
  rintro _ w3 ⟨rfl, z⟩
  clear b0 b1 b2 b3 d0 d1 d2 d3 d4 d5 d6 lx lf lr fzf fzr r0 r1 r2 r3 r4 r5 r6
  have NY := Lib.hid (NX.out.call z)
  clear NX
  have NX := Lib.hid NY.out
  clear NY
  clear z
  obtain ⟨_, b0, b1, b2, b3⟩ := NX.out.bx
  obtain ⟨d0, d1, d2, d3, d4, d5, d6⟩ := NX.out.bf.cells
  obtain ⟨lx, lf, lr⟩ := NX.out.facts
  have fzf := NX.out.bf.free
  have fzr := NX.out.br.free
  obtain ⟨r0, r1, r2, r3, r4, r5, r6⟩ := NX.out.br.cells
  simp only at d0 d1 d2 d3 d4 d5 d6
  go_wp2_with fail
  refine (rcasn_n (H.out.below NX.out.be) HN.out HS.out Hb.out HT.out).mono ?_
  rintro _ w4 ⟨A9, c9, rfl, n9, z⟩
  clear b0 b1 b2 b3 d0 d1 d2 d3 d4 d5 d6 lx lf lr fzf fzr r0 r1 r2 r3 r4 r5 r6
  have NY := Lib.hid (NX.out.call z)
  have NR := Lib.hid n9
  have HG := Lib.hid (show w.heap.size + 1 + 1 < w3.heap.size from NX.out.facts.2.2)
  clear n9
  clear NX
  have NX := Lib.hid NY.out
  clear NY
  clear z
  obtain ⟨_, b0, b1, b2, b3⟩ := NX.out.bx
  obtain ⟨d0, d1, d2, d3, d4, d5, d6⟩ := NX.out.bf.cells
  obtain ⟨lx, lf, lr⟩ := NX.out.facts
  have fzf := NX.out.bf.free
  have fzr := NX.out.br.free
  obtain ⟨r0, r1, r2, r3, r4, r5, r6⟩ := NX.out.br.cells
  simp only at d0 d1 d2 d3 d4 d5 d6
  go_upto_region 29 with fail
  clear b0 b1 b2 b3 d0 d1 d2 d3 d4 d5 d6 lx lf lr fzf fzr r0 r1 r2 r3 r4 r5 r6
  have NY := Lib.hid (NX.out.setPc 6)
  clear NX
  have NX := Lib.hid NY.out
  clear NY
  change Code.wp _ _ _ _ (w4.setCell ⟨w.heap.size + 1, 1, none⟩ (.int .i64 6))
  replace NR := Lib.hid (NR.out.set (p := ⟨w.heap.size + 1, 1, none⟩) (by have := HG.out; simp only; omega) (.int .i64 6))
  generalize w4.setCell ⟨w.heap.size + 1, 1, none⟩ (.int .i64 6) = w5 at NX NR ⊢
  obtain ⟨_, b0, b1, b2, b3⟩ := NX.out.bx
  obtain ⟨d0, d1, d2, d3, d4, d5, d6⟩ := NX.out.bf.cells
  obtain ⟨lx, lf, lr⟩ := NX.out.facts
  have fzf := NX.out.bf.free
  have fzr := NX.out.br.free
  obtain ⟨r0, r1, r2, r3, r4, r5, r6⟩ := NX.out.br.cells
  simp only at d0 d1 d2 d3 d4 d5 d6
  go_wp2_with fail
  go_region
  all_goals
    go_wp2
    change bodyPost _ _ _ _ _ (pf w5 (w.heap.size + 1 + 1) ⟨o, 6, q, v, x, y, s⟩).drew
    have NB := NX.out.backD ⟨o, 6, q, v, x, y, s⟩
    refine bodyPost_ret (results_fr Try.results30 _ rfl NB.1) rfl ?_
    exact ⟨A9, c9, rfl, .inr ((NR.out.pfO HG.out (by omega) _).drew), NB.2⟩
set_option maxRecDepth 100000 in
set_option maxHeartbeats 4000000 in
theorem rpop_1 (W D J S o q v x y s : Int) (A : Option Addr) (n c : Nat) (l : List Int) (w : World) (h : Rd w A l) (hn : l.length = n) (hs : n ≤ 500) (hg : goes W D J S l ⟨o, 1, q, v, x, y, s⟩ 1 7 = true) :
    Calls Try.prog 30 #[cf W D J S, .slice A n c, fv ⟨o, 1, q, v, x, y, s⟩] w (RetU w A l n (put l (ow W D J S q 1) x) ⟨o, 2, q, v, x, y, s⟩) := by
  have NX := Lib.hid (Ng.begin w W D J S (⟨o, 1, q, v, x, y, s⟩ : Fr))
  have H := Lib.hid h
  have HN := Lib.hid hn
  have HS := Lib.hid hs
  have HG0 := Lib.hid hg
  clear h hs hn hg
  go_enter Try.func30, Try.ntmps30
  go_wp2_with fail
  change Calls _ _ _ (bx3 w W D J S ⟨o, 1, q, v, x, y, s⟩) _
  generalize bx3 w W D J S ⟨o, 1, q, v, x, y, s⟩ = w0 at NX ⊢
  refine (Tells.of (rgoes_any W D J S 1 7 A n c l ⟨o, 1, q, v, x, y, s⟩ _ HN.out) (v' := .bool true) (by rw [HG0.out])).mono ?_
  rintro _ w1 ⟨rfl, z⟩
  have NY := Lib.hid (NX.out.call z)
  clear NX
  have NX := Lib.hid NY.out
  clear NY
  clear z HG0
  obtain ⟨_, b0, b1, b2, b3⟩ := NX.out.bx
  obtain ⟨d0, d1, d2, d3, d4, d5, d6⟩ := NX.out.bf.cells
  obtain ⟨lx, lf, lr⟩ := NX.out.facts
  have fzf := NX.out.bf.free
  have fzr := NX.out.br.free
  obtain ⟨r0, r1, r2, r3, r4, r5, r6⟩ := NX.out.br.cells
  simp only at d0 d1 d2 d3 d4 d5 d6
  go_wp2_with fail
  refine (rtop_any W D J S q _).mono ?_
  rintro _ w2 ⟨rfl, z⟩
  clear b0 b1 b2 b3 d0 d1 d2 d3 d4 d5 d6 lx lf lr fzf fzr r0 r1 r2 r3 r4 r5 r6
  have NY := Lib.hid (NX.out.call z)
  clear NX
  have NX := Lib.hid NY.out
  clear NY
  clear z
  obtain ⟨_, b0, b1, b2, b3⟩ := NX.out.bx
  obtain ⟨d0, d1, d2, d3, d4, d5, d6⟩ := NX.out.bf.cells
  obtain ⟨lx, lf, lr⟩ := NX.out.facts
  have fzf := NX.out.bf.free
  have fzr := NX.out.br.free
  obtain ⟨r0, r1, r2, r3, r4, r5, r6⟩ := NX.out.br.cells
  simp only at d0 d1 d2 d3 d4 d5 d6
  go_wp2_with fail
  refine (rbottom_any W D J S q _).mono ?_
  rintro _ w3 ⟨rfl, z⟩
  clear b0 b1 b2 b3 d0 d1 d2 d3 d4 d5 d6 lx lf lr fzf fzr r0 r1 r2 r3 r4 r5 r6
  have NY := Lib.hid (NX.out.call z)
  clear NX
  have NX := Lib.hid NY.out
  clear NY
  clear z
  obtain ⟨_, b0, b1, b2, b3⟩ := NX.out.bx
  obtain ⟨d0, d1, d2, d3, d4, d5, d6⟩ := NX.out.bf.cells
  obtain ⟨lx, lf, lr⟩ := NX.out.facts
  have fzf := NX.out.bf.free
  have fzr := NX.out.br.free
  obtain ⟨r0, r1, r2, r3, r4, r5, r6⟩ := NX.out.br.cells
  simp only at d0 d1 d2 d3 d4 d5 d6
  go_upto_region 13 with fail
  clear b0 b1 b2 b3 d0 d1 d2 d3 d4 d5 d6 lx lf lr fzf fzr r0 r1 r2 r3 r4 r5 r6
  have NY := Lib.hid (NX.out.setPc 2)
  clear NX
  have NX := Lib.hid NY.out
  clear NY
  change Code.wp _ _ _ _ (w3.setCell ⟨w.heap.size + 1, 1, none⟩ (.int .i64 2))
  generalize w3.setCell ⟨w.heap.size + 1, 1, none⟩ (.int .i64 2) = w4 at NX ⊢
  obtain ⟨_, b0, b1, b2, b3⟩ := NX.out.bx
  obtain ⟨d0, d1, d2, d3, d4, d5, d6⟩ := NX.out.bf.cells
  obtain ⟨lx, lf, lr⟩ := NX.out.facts
  have fzf := NX.out.bf.free
  have fzr := NX.out.br.free
  obtain ⟨r0, r1, r2, r3, r4, r5, r6⟩ := NX.out.br.cells
  simp only at d0 d1 d2 d3 d4 d5 d6
  clear b0 b1 b2 b3 d0 d1 d2 d3 d4 d5 d6 lx lf lr fzf fzr r0 r1 r2 r3 r4 r5 r6
  have HK := Lib.hid (show ∀ x', Below (w.heap.size + 1 + 1) w4 x' → (fun w' => w'.cell? ⟨w.heap.size + 1, 0, none⟩ = some (.int .i64 o) ∧ w'.cell? ⟨w.heap.size + 1, 1, none⟩ = some (.int .i64 2) ∧ w'.cell? ⟨w.heap.size + 1, 2, none⟩ = some (.int .i64 q) ∧ w'.cell? ⟨w.heap.size + 1, 3, none⟩ = some (.int .u64 v) ∧ w'.cell? ⟨w.heap.size + 1, 4, none⟩ = some (.int .u64 x) ∧ w'.cell? ⟨w.heap.size + 1, 5, none⟩ = some (.int .u64 y) ∧ w'.cell? ⟨w.heap.size + 1, 6, none⟩ = some (.int .i64 s) ∧ Below (w.heap.size + 1 + 1) w4 w') x' from fun x' hx => by
    obtain ⟨f0, f1, f2, f3, f4, f5, f6⟩ := (NX.out.bf.below hx (by omega)).cells
    exact ⟨f0, f1, f2, f3, f4, f5, f6, hx⟩)
  have HZ := Lib.hid (show ∀ x', (fun w' => w'.cell? ⟨w.heap.size + 1, 0, none⟩ = some (.int .i64 o) ∧ w'.cell? ⟨w.heap.size + 1, 1, none⟩ = some (.int .i64 2) ∧ w'.cell? ⟨w.heap.size + 1, 2, none⟩ = some (.int .i64 q) ∧ w'.cell? ⟨w.heap.size + 1, 3, none⟩ = some (.int .u64 v) ∧ w'.cell? ⟨w.heap.size + 1, 4, none⟩ = some (.int .u64 x) ∧ w'.cell? ⟨w.heap.size + 1, 5, none⟩ = some (.int .u64 y) ∧ w'.cell? ⟨w.heap.size + 1, 6, none⟩ = some (.int .i64 s) ∧ Below (w.heap.size + 1 + 1) w4 w') x' → Below w.heap.size w x' from fun x' hx => NX.out.be.trans (hx.2.2.2.2.2.2.2.mono (by omega)))
  have HR := Lib.hid (show ∀ x', (fun w' => w'.cell? ⟨w.heap.size + 1, 0, none⟩ = some (.int .i64 o) ∧ w'.cell? ⟨w.heap.size + 1, 1, none⟩ = some (.int .i64 2) ∧ w'.cell? ⟨w.heap.size + 1, 2, none⟩ = some (.int .i64 q) ∧ w'.cell? ⟨w.heap.size + 1, 3, none⟩ = some (.int .u64 v) ∧ w'.cell? ⟨w.heap.size + 1, 4, none⟩ = some (.int .u64 x) ∧ w'.cell? ⟨w.heap.size + 1, 5, none⟩ = some (.int .u64 y) ∧ w'.cell? ⟨w.heap.size + 1, 6, none⟩ = some (.int .i64 s) ∧ Below (w.heap.size + 1 + 1) w4 w') x' → Rd x' A l from fun x' hx => H.out.below (HZ.out x' hx))
  have hn0 : w.heap.size + 1 + 1 ≤ w4.heap.size := Nat.le_of_lt NX.out.facts.2.2
  have hq2 : w.heap.size + 1 + 1 < w4.heap.size := NX.out.facts.2.2
  have hHeld0 := HK.out _ (Below.refl _ _)
  have zq := Lib.hid (Below.refl w4.heap.size w4)
  have BQ0 := Lib.hid NX.out.br
  obtain ⟨r0, r1, r2, r3, r4, r5, r6⟩ := BQ0.out.cells
  have fz := BQ0.out.free
  go_region_held3 (fun w' => w'.cell? ⟨w.heap.size + 1, 0, none⟩ = some (.int .i64 o) ∧ w'.cell? ⟨w.heap.size + 1, 1, none⟩ = some (.int .i64 2) ∧ w'.cell? ⟨w.heap.size + 1, 2, none⟩ = some (.int .i64 q) ∧ w'.cell? ⟨w.heap.size + 1, 3, none⟩ = some (.int .u64 v) ∧ w'.cell? ⟨w.heap.size + 1, 4, none⟩ = some (.int .u64 x) ∧ w'.cell? ⟨w.heap.size + 1, 5, none⟩ = some (.int .u64 y) ∧ w'.cell? ⟨w.heap.size + 1, 6, none⟩ = some (.int .i64 s) ∧ Below (w.heap.size + 1 + 1) w4 w')
    (first | with_reducible exact hd_drew HK.out (fun _ h => h.2.2.2.2.2.2.2) (by assumption) | with_reducible exact hd_call HK.out (fun _ h => h.2.2.2.2.2.2.2) (by assumption) (by assumption) hn0 | with_reducible exact hd_set7 HK.out (fun _ h => h.2.2.2.2.2.2.2) _ _ _ _ _ _ _ (by assumption))
    (first
    | (go_at_call 64; (refine (rstore_new A n c l _ x _ (HR.out _ (by assumption)) HN.out HS.out).mono ?_); rintro _ wz ⟨A6, c6, rfl, hr6, hb6⟩; have zz := Lib.hid (keep_call hb6 zq.out.drew); have hrz := hr6.mono (show w.heap.size + 1 + 1 + 1 ≤ _ from hq2); clear hr6; have e := BQ0.out.after zz.out; obtain ⟨r0, r1, r2, r3, r4, r5, r6⟩ := e.cells; have fz := e.free; have ld := e.lt))
  all_goals
    go_wp2
    change bodyPost _ _ _ _ _ (pf wz (w.heap.size + 1 + 1) ⟨o, 2, q, v, x, y, s⟩)
    refine bodyPost_ret (results_fr Try.results30 _ rfl ((BQ0.out.after zz.out).pf _)) rfl ?_
    exact ⟨A6, c6, rfl, .inr (hrz.pfO (Nat.lt_succ_self _) (by omega) _), HZ.out _ (by assumption)⟩
set_option maxRecDepth 100000 in
set_option maxHeartbeats 4000000 in
theorem rpop_5 (W D J S o q v x y s : Int) (A : Option Addr) (n c : Nat) (l : List Int) (w : World) (h : Rd w A l) (hn : l.length = n) (hs : n ≤ 500) (hg : goes W D J S l ⟨o, 5, q, v, x, y, s⟩ 1 7 = true) :
    Calls Try.prog 30 #[cf W D J S, .slice A n c, fv ⟨o, 5, q, v, x, y, s⟩] w (RetU w A l n (put l (ow W D J S q 1) ((x + 1) % 18446744073709551616)) (ed ⟨o, 5, q, v, x, y, s⟩ 1 v)) := by
  have NX := Lib.hid (Ng.begin w W D J S (⟨o, 5, q, v, x, y, s⟩ : Fr))
  have H := Lib.hid h
  have HN := Lib.hid hn
  have HS := Lib.hid hs
  have HG0 := Lib.hid hg
  clear h hs hn hg
  go_enter Try.func30, Try.ntmps30
  go_wp2_with fail
  change Calls _ _ _ (bx3 w W D J S ⟨o, 5, q, v, x, y, s⟩) _
  generalize bx3 w W D J S ⟨o, 5, q, v, x, y, s⟩ = w0 at NX ⊢
  refine (Tells.of (rgoes_any W D J S 1 7 A n c l ⟨o, 5, q, v, x, y, s⟩ _ HN.out) (v' := .bool true) (by rw [HG0.out])).mono ?_
  rintro _ w1 ⟨rfl, z⟩
  have NY := Lib.hid (NX.out.call z)
  clear NX
  have NX := Lib.hid NY.out
  clear NY
  clear z HG0
  obtain ⟨_, b0, b1, b2, b3⟩ := NX.out.bx
  obtain ⟨d0, d1, d2, d3, d4, d5, d6⟩ := NX.out.bf.cells
  obtain ⟨lx, lf, lr⟩ := NX.out.facts
  have fzf := NX.out.bf.free
  have fzr := NX.out.br.free
  obtain ⟨r0, r1, r2, r3, r4, r5, r6⟩ := NX.out.br.cells
  simp only at d0 d1 d2 d3 d4 d5 d6
  go_wp2_with fail
  refine (rtop_any W D J S q _).mono ?_
  rintro _ w2 ⟨rfl, z⟩
  clear b0 b1 b2 b3 d0 d1 d2 d3 d4 d5 d6 lx lf lr fzf fzr r0 r1 r2 r3 r4 r5 r6
  have NY := Lib.hid (NX.out.call z)
  clear NX
  have NX := Lib.hid NY.out
  clear NY
  clear z
  obtain ⟨_, b0, b1, b2, b3⟩ := NX.out.bx
  obtain ⟨d0, d1, d2, d3, d4, d5, d6⟩ := NX.out.bf.cells
  obtain ⟨lx, lf, lr⟩ := NX.out.facts
  have fzf := NX.out.bf.free
  have fzr := NX.out.br.free
  obtain ⟨r0, r1, r2, r3, r4, r5, r6⟩ := NX.out.br.cells
  simp only at d0 d1 d2 d3 d4 d5 d6
  go_wp2_with fail
  refine (rbottom_any W D J S q _).mono ?_
  rintro _ w3 ⟨rfl, z⟩
  clear b0 b1 b2 b3 d0 d1 d2 d3 d4 d5 d6 lx lf lr fzf fzr r0 r1 r2 r3 r4 r5 r6
  have NY := Lib.hid (NX.out.call z)
  clear NX
  have NX := Lib.hid NY.out
  clear NY
  clear z
  obtain ⟨_, b0, b1, b2, b3⟩ := NX.out.bx
  obtain ⟨d0, d1, d2, d3, d4, d5, d6⟩ := NX.out.bf.cells
  obtain ⟨lx, lf, lr⟩ := NX.out.facts
  have fzf := NX.out.bf.free
  have fzr := NX.out.br.free
  obtain ⟨r0, r1, r2, r3, r4, r5, r6⟩ := NX.out.br.cells
  simp only at d0 d1 d2 d3 d4 d5 d6
  go_wp2_with fail
  clear b0 b1 b2 b3 d0 d1 d2 d3 d4 d5 d6 lx lf lr fzf fzr r0 r1 r2 r3 r4 r5 r6
  have HK := Lib.hid (show ∀ x', Below (w.heap.size + 1 + 1) w3 x' → (fun w' => w'.cell? ⟨w.heap.size + 1, 0, none⟩ = some (.int .i64 o) ∧ w'.cell? ⟨w.heap.size + 1, 1, none⟩ = some (.int .i64 5) ∧ w'.cell? ⟨w.heap.size + 1, 2, none⟩ = some (.int .i64 q) ∧ w'.cell? ⟨w.heap.size + 1, 3, none⟩ = some (.int .u64 v) ∧ w'.cell? ⟨w.heap.size + 1, 4, none⟩ = some (.int .u64 x) ∧ w'.cell? ⟨w.heap.size + 1, 5, none⟩ = some (.int .u64 y) ∧ w'.cell? ⟨w.heap.size + 1, 6, none⟩ = some (.int .i64 s) ∧ Below (w.heap.size + 1 + 1) w3 w') x' from fun x' hx => by
    obtain ⟨f0, f1, f2, f3, f4, f5, f6⟩ := (NX.out.bf.below hx (by omega)).cells
    exact ⟨f0, f1, f2, f3, f4, f5, f6, hx⟩)
  have HZ := Lib.hid (show ∀ x', (fun w' => w'.cell? ⟨w.heap.size + 1, 0, none⟩ = some (.int .i64 o) ∧ w'.cell? ⟨w.heap.size + 1, 1, none⟩ = some (.int .i64 5) ∧ w'.cell? ⟨w.heap.size + 1, 2, none⟩ = some (.int .i64 q) ∧ w'.cell? ⟨w.heap.size + 1, 3, none⟩ = some (.int .u64 v) ∧ w'.cell? ⟨w.heap.size + 1, 4, none⟩ = some (.int .u64 x) ∧ w'.cell? ⟨w.heap.size + 1, 5, none⟩ = some (.int .u64 y) ∧ w'.cell? ⟨w.heap.size + 1, 6, none⟩ = some (.int .i64 s) ∧ Below (w.heap.size + 1 + 1) w3 w') x' → Below w.heap.size w x' from fun x' hx => NX.out.be.trans (hx.2.2.2.2.2.2.2.mono (by omega)))
  have HR := Lib.hid (show ∀ x', (fun w' => w'.cell? ⟨w.heap.size + 1, 0, none⟩ = some (.int .i64 o) ∧ w'.cell? ⟨w.heap.size + 1, 1, none⟩ = some (.int .i64 5) ∧ w'.cell? ⟨w.heap.size + 1, 2, none⟩ = some (.int .i64 q) ∧ w'.cell? ⟨w.heap.size + 1, 3, none⟩ = some (.int .u64 v) ∧ w'.cell? ⟨w.heap.size + 1, 4, none⟩ = some (.int .u64 x) ∧ w'.cell? ⟨w.heap.size + 1, 5, none⟩ = some (.int .u64 y) ∧ w'.cell? ⟨w.heap.size + 1, 6, none⟩ = some (.int .i64 s) ∧ Below (w.heap.size + 1 + 1) w3 w') x' → Rd x' A l from fun x' hx => H.out.below (HZ.out x' hx))
  have hn0 : w.heap.size + 1 + 1 ≤ w3.heap.size := Nat.le_of_lt NX.out.facts.2.2
  have hq2 : w.heap.size + 1 + 1 < w3.heap.size := NX.out.facts.2.2
  have hHeld0 := HK.out _ (Below.refl _ _)
  have zq := Lib.hid (Below.refl w3.heap.size w3)
  have BQ0 := Lib.hid NX.out.br
  obtain ⟨r0, r1, r2, r3, r4, r5, r6⟩ := BQ0.out.cells
  have fz := BQ0.out.free
  go_region_held3 (fun w' => w'.cell? ⟨w.heap.size + 1, 0, none⟩ = some (.int .i64 o) ∧ w'.cell? ⟨w.heap.size + 1, 1, none⟩ = some (.int .i64 5) ∧ w'.cell? ⟨w.heap.size + 1, 2, none⟩ = some (.int .i64 q) ∧ w'.cell? ⟨w.heap.size + 1, 3, none⟩ = some (.int .u64 v) ∧ w'.cell? ⟨w.heap.size + 1, 4, none⟩ = some (.int .u64 x) ∧ w'.cell? ⟨w.heap.size + 1, 5, none⟩ = some (.int .u64 y) ∧ w'.cell? ⟨w.heap.size + 1, 6, none⟩ = some (.int .i64 s) ∧ Below (w.heap.size + 1 + 1) w3 w')
    (first | with_reducible exact hd_drew HK.out (fun _ h => h.2.2.2.2.2.2.2) (by assumption) | with_reducible exact hd_call HK.out (fun _ h => h.2.2.2.2.2.2.2) (by assumption) (by assumption) hn0 | with_reducible exact hd_set7 HK.out (fun _ h => h.2.2.2.2.2.2.2) _ _ _ _ _ _ _ (by assumption))
    (first
    | (go_at_call 64; (refine (rstore_new A n c l _ ((x + 1) % 18446744073709551616) _ (HR.out _ (by assumption)) HN.out HS.out).mono ?_); rintro _ wz ⟨A6, c6, rfl, hr6, hb6⟩; have zz := Lib.hid (keep_call hb6 z7.out); have hrz := hr6.mono (show w.heap.size + 1 + 1 + 1 ≤ _ from Nat.lt_of_lt_of_le hq2 z7.out.size); clear hr6; have e := BQ0.out.after zz.out; obtain ⟨r0, r1, r2, r3, r4, r5, r6⟩ := e.cells; have fz := e.free; have ld := e.lt)
    | (go_at_call 63; (refine (rend_any ⟨o, 5, q, v, x, y, s⟩ _ _ _).mono ?_); rintro _ wz ⟨rfl, hb7⟩; have zz := Lib.hid (keep_call hb7 z6.out); replace hrz := hrz.below hb7; have e := BQ0.out.after zz.out; obtain ⟨r0, r1, r2, r3, r4, r5, r6⟩ := e.cells; have fz := e.free; have ld := e.lt)
    | (go_at_call 64; (refine (rstore_new A n c l _ ((x + 1) % 18446744073709551616) _ (HR.out _ (by assumption)) HN.out HS.out).mono ?_); rintro _ w6 ⟨A6, c6, rfl, hr6, hb6⟩; have z6 := Lib.hid (keep_call hb6 zq.out.drew); have hrz := hr6.mono (show w.heap.size + 1 + 1 + 1 ≤ _ from hq2); clear hr6; have e := BQ0.out.after z6.out; obtain ⟨r0, r1, r2, r3, r4, r5, r6⟩ := e.cells; have fz := e.free; have ld := e.lt)
    | (go_at_call 63; (refine (rend_any ⟨o, 5, q, v, x, y, s⟩ _ _ _).mono ?_); rintro _ w7 ⟨rfl, hb7⟩; have z7 := Lib.hid (keep_call hb7 zq.out.drew); have e := BQ0.out.after z7.out; obtain ⟨r0, r1, r2, r3, r4, r5, r6⟩ := e.cells; have fz := e.free; have ld := e.lt))
  all_goals
    go_wp2
    change bodyPost _ _ _ _ _ (pf wz (w.heap.size + 1 + 1) (ed ⟨o, 5, q, v, x, y, s⟩ 1 v))
    refine bodyPost_ret (results_fr Try.results30 _ rfl ((BQ0.out.after zz.out).pf _)) rfl ?_
    exact ⟨A6, c6, rfl, .inr (hrz.pfO (Nat.lt_succ_self _) (by omega) _), HZ.out _ (by assumption)⟩
set_option maxRecDepth 100000 in
set_option maxHeartbeats 4000000 in
theorem rpop_6 (W D J S o q v x y s : Int) (A : Option Addr) (n c : Nat) (l : List Int) (w : World) (h : Rd w A l) (hn : l.length = n) (hs : n ≤ 500) (hg : goes W D J S l ⟨o, 6, q, v, x, y, s⟩ 1 7 = true) :
    Calls Try.prog 30 #[cf W D J S, .slice A n c, fv ⟨o, 6, q, v, x, y, s⟩] w (RetU w A l n (put l (ow W D J S q 1) ((x + 1) % 18446744073709551616)) (ed ⟨o, 6, q, v, x, y, s⟩ 3 0)) := by
  have NX := Lib.hid (Ng.begin w W D J S (⟨o, 6, q, v, x, y, s⟩ : Fr))
  have H := Lib.hid h
  have HN := Lib.hid hn
  have HS := Lib.hid hs
  have HG0 := Lib.hid hg
  clear h hs hn hg
  go_enter Try.func30, Try.ntmps30
  go_wp2_with fail
  change Calls _ _ _ (bx3 w W D J S ⟨o, 6, q, v, x, y, s⟩) _
  generalize bx3 w W D J S ⟨o, 6, q, v, x, y, s⟩ = w0 at NX ⊢
  refine (Tells.of (rgoes_any W D J S 1 7 A n c l ⟨o, 6, q, v, x, y, s⟩ _ HN.out) (v' := .bool true) (by rw [HG0.out])).mono ?_
  rintro _ w1 ⟨rfl, z⟩
  have NY := Lib.hid (NX.out.call z)
  clear NX
  have NX := Lib.hid NY.out
  clear NY
  clear z HG0
  obtain ⟨_, b0, b1, b2, b3⟩ := NX.out.bx
  obtain ⟨d0, d1, d2, d3, d4, d5, d6⟩ := NX.out.bf.cells
  obtain ⟨lx, lf, lr⟩ := NX.out.facts
  have fzf := NX.out.bf.free
  have fzr := NX.out.br.free
  obtain ⟨r0, r1, r2, r3, r4, r5, r6⟩ := NX.out.br.cells
  simp only at d0 d1 d2 d3 d4 d5 d6
  go_wp2_with fail
  refine (rtop_any W D J S q _).mono ?_
  rintro _ w2 ⟨rfl, z⟩
  clear b0 b1 b2 b3 d0 d1 d2 d3 d4 d5 d6 lx lf lr fzf fzr r0 r1 r2 r3 r4 r5 r6
  have NY := Lib.hid (NX.out.call z)
  clear NX
  have NX := Lib.hid NY.out
  clear NY
  clear z
  obtain ⟨_, b0, b1, b2, b3⟩ := NX.out.bx
  obtain ⟨d0, d1, d2, d3, d4, d5, d6⟩ := NX.out.bf.cells
  obtain ⟨lx, lf, lr⟩ := NX.out.facts
  have fzf := NX.out.bf.free
  have fzr := NX.out.br.free
  obtain ⟨r0, r1, r2, r3, r4, r5, r6⟩ := NX.out.br.cells
  simp only at d0 d1 d2 d3 d4 d5 d6
  go_wp2_with fail
  refine (rbottom_any W D J S q _).mono ?_
  rintro _ w3 ⟨rfl, z⟩
  clear b0 b1 b2 b3 d0 d1 d2 d3 d4 d5 d6 lx lf lr fzf fzr r0 r1 r2 r3 r4 r5 r6
  have NY := Lib.hid (NX.out.call z)
  clear NX
  have NX := Lib.hid NY.out
  clear NY
  clear z
  obtain ⟨_, b0, b1, b2, b3⟩ := NX.out.bx
  obtain ⟨d0, d1, d2, d3, d4, d5, d6⟩ := NX.out.bf.cells
  obtain ⟨lx, lf, lr⟩ := NX.out.facts
  have fzf := NX.out.bf.free
  have fzr := NX.out.br.free
  obtain ⟨r0, r1, r2, r3, r4, r5, r6⟩ := NX.out.br.cells
  simp only at d0 d1 d2 d3 d4 d5 d6
  go_wp2_with fail
  clear b0 b1 b2 b3 d0 d1 d2 d3 d4 d5 d6 lx lf lr fzf fzr r0 r1 r2 r3 r4 r5 r6
  have HK := Lib.hid (show ∀ x', Below (w.heap.size + 1 + 1) w3 x' → (fun w' => w'.cell? ⟨w.heap.size + 1, 0, none⟩ = some (.int .i64 o) ∧ w'.cell? ⟨w.heap.size + 1, 1, none⟩ = some (.int .i64 6) ∧ w'.cell? ⟨w.heap.size + 1, 2, none⟩ = some (.int .i64 q) ∧ w'.cell? ⟨w.heap.size + 1, 3, none⟩ = some (.int .u64 v) ∧ w'.cell? ⟨w.heap.size + 1, 4, none⟩ = some (.int .u64 x) ∧ w'.cell? ⟨w.heap.size + 1, 5, none⟩ = some (.int .u64 y) ∧ w'.cell? ⟨w.heap.size + 1, 6, none⟩ = some (.int .i64 s) ∧ Below (w.heap.size + 1 + 1) w3 w') x' from fun x' hx => by
    obtain ⟨f0, f1, f2, f3, f4, f5, f6⟩ := (NX.out.bf.below hx (by omega)).cells
    exact ⟨f0, f1, f2, f3, f4, f5, f6, hx⟩)
  have HZ := Lib.hid (show ∀ x', (fun w' => w'.cell? ⟨w.heap.size + 1, 0, none⟩ = some (.int .i64 o) ∧ w'.cell? ⟨w.heap.size + 1, 1, none⟩ = some (.int .i64 6) ∧ w'.cell? ⟨w.heap.size + 1, 2, none⟩ = some (.int .i64 q) ∧ w'.cell? ⟨w.heap.size + 1, 3, none⟩ = some (.int .u64 v) ∧ w'.cell? ⟨w.heap.size + 1, 4, none⟩ = some (.int .u64 x) ∧ w'.cell? ⟨w.heap.size + 1, 5, none⟩ = some (.int .u64 y) ∧ w'.cell? ⟨w.heap.size + 1, 6, none⟩ = some (.int .i64 s) ∧ Below (w.heap.size + 1 + 1) w3 w') x' → Below w.heap.size w x' from fun x' hx => NX.out.be.trans (hx.2.2.2.2.2.2.2.mono (by omega)))
  have HR := Lib.hid (show ∀ x', (fun w' => w'.cell? ⟨w.heap.size + 1, 0, none⟩ = some (.int .i64 o) ∧ w'.cell? ⟨w.heap.size + 1, 1, none⟩ = some (.int .i64 6) ∧ w'.cell? ⟨w.heap.size + 1, 2, none⟩ = some (.int .i64 q) ∧ w'.cell? ⟨w.heap.size + 1, 3, none⟩ = some (.int .u64 v) ∧ w'.cell? ⟨w.heap.size + 1, 4, none⟩ = some (.int .u64 x) ∧ w'.cell? ⟨w.heap.size + 1, 5, none⟩ = some (.int .u64 y) ∧ w'.cell? ⟨w.heap.size + 1, 6, none⟩ = some (.int .i64 s) ∧ Below (w.heap.size + 1 + 1) w3 w') x' → Rd x' A l from fun x' hx => H.out.below (HZ.out x' hx))
  have hn0 : w.heap.size + 1 + 1 ≤ w3.heap.size := Nat.le_of_lt NX.out.facts.2.2
  have hq2 : w.heap.size + 1 + 1 < w3.heap.size := NX.out.facts.2.2
  have hHeld0 := HK.out _ (Below.refl _ _)
  have zq := Lib.hid (Below.refl w3.heap.size w3)
  have BQ0 := Lib.hid NX.out.br
  obtain ⟨r0, r1, r2, r3, r4, r5, r6⟩ := BQ0.out.cells
  have fz := BQ0.out.free
  go_region_held3 (fun w' => w'.cell? ⟨w.heap.size + 1, 0, none⟩ = some (.int .i64 o) ∧ w'.cell? ⟨w.heap.size + 1, 1, none⟩ = some (.int .i64 6) ∧ w'.cell? ⟨w.heap.size + 1, 2, none⟩ = some (.int .i64 q) ∧ w'.cell? ⟨w.heap.size + 1, 3, none⟩ = some (.int .u64 v) ∧ w'.cell? ⟨w.heap.size + 1, 4, none⟩ = some (.int .u64 x) ∧ w'.cell? ⟨w.heap.size + 1, 5, none⟩ = some (.int .u64 y) ∧ w'.cell? ⟨w.heap.size + 1, 6, none⟩ = some (.int .i64 s) ∧ Below (w.heap.size + 1 + 1) w3 w')
    (first | with_reducible exact hd_drew HK.out (fun _ h => h.2.2.2.2.2.2.2) (by assumption) | with_reducible exact hd_call HK.out (fun _ h => h.2.2.2.2.2.2.2) (by assumption) (by assumption) hn0 | with_reducible exact hd_set7 HK.out (fun _ h => h.2.2.2.2.2.2.2) _ _ _ _ _ _ _ (by assumption))
    (first
    | (go_at_call 64; (refine (rstore_new A n c l _ ((x + 1) % 18446744073709551616) _ (HR.out _ (by assumption)) HN.out HS.out).mono ?_); rintro _ wz ⟨A6, c6, rfl, hr6, hb6⟩; have zz := Lib.hid (keep_call hb6 z7.out); have hrz := hr6.mono (show w.heap.size + 1 + 1 + 1 ≤ _ from Nat.lt_of_lt_of_le hq2 z7.out.size); clear hr6; have e := BQ0.out.after zz.out; obtain ⟨r0, r1, r2, r3, r4, r5, r6⟩ := e.cells; have fz := e.free; have ld := e.lt)
    | (go_at_call 63; (refine (rend_any ⟨o, 6, q, v, x, y, s⟩ _ _ _).mono ?_); rintro _ wz ⟨rfl, hb7⟩; have zz := Lib.hid (keep_call hb7 z6.out); replace hrz := hrz.below hb7; have e := BQ0.out.after zz.out; obtain ⟨r0, r1, r2, r3, r4, r5, r6⟩ := e.cells; have fz := e.free; have ld := e.lt)
    | (go_at_call 64; (refine (rstore_new A n c l _ ((x + 1) % 18446744073709551616) _ (HR.out _ (by assumption)) HN.out HS.out).mono ?_); rintro _ w6 ⟨A6, c6, rfl, hr6, hb6⟩; have z6 := Lib.hid (keep_call hb6 zq.out.drew); have hrz := hr6.mono (show w.heap.size + 1 + 1 + 1 ≤ _ from hq2); clear hr6; have e := BQ0.out.after z6.out; obtain ⟨r0, r1, r2, r3, r4, r5, r6⟩ := e.cells; have fz := e.free; have ld := e.lt)
    | (go_at_call 63; (refine (rend_any ⟨o, 6, q, v, x, y, s⟩ _ _ _).mono ?_); rintro _ w7 ⟨rfl, hb7⟩; have z7 := Lib.hid (keep_call hb7 zq.out.drew); have e := BQ0.out.after z7.out; obtain ⟨r0, r1, r2, r3, r4, r5, r6⟩ := e.cells; have fz := e.free; have ld := e.lt))
  all_goals
    go_wp2
    change bodyPost _ _ _ _ _ (pf wz (w.heap.size + 1 + 1) (ed ⟨o, 6, q, v, x, y, s⟩ 3 0))
    refine bodyPost_ret (results_fr Try.results30 _ rfl ((BQ0.out.after zz.out).pf _)) rfl ?_
    exact ⟨A6, c6, rfl, .inr (hrz.pfO (Nat.lt_succ_self _) (by omega) _), HZ.out _ (by assumption)⟩
set_option maxRecDepth 100000 in
theorem rpop_u {W D J S : Int} {A : Option Addr} {n c : Nat} {l : List Int} {f : Fr} {w : World} (h : Rd w A l) (hn : l.length = n) (hs : n ≤ 500) (hu : UM l) (hf : UF f) {l' : List Int} {f' : Fr} (e : popS W D J S l f = (l', f')) :
    Calls Try.prog 30 #[cf W D J S, .slice A n c, fv f] w (RetU w A l n l' f') := by
  cases hg : goes W D J S l f 1 7
  · have e2 : popS W D J S l f = (l, f) := by unfold popS; rw [hg]; rfl
    rw [e2] at e
    injection e with e3 e4
    subst e3 e4
    obtain ⟨o, p, q, v, x, y, s⟩ := f
    exact rpop_leave W D J S o p q v x y s A n c l w h hn hs hg
  · obtain ⟨hk, hr, ho, h0, h7⟩ := goes_iff.1 hg
    obtain ⟨hm, hlen, hq0, hqW⟩ := okw_iff.1 hk
    obtain ⟨hW, hD, hJ, hS⟩ := may_lim hm
    have hge := bg_ge (J := J) hD.1 hJ.1 hq0
    have hst := bg_step (J := J) hD.1 hqW
    have e0 : ow W D J S f.who 0 = bg D J f.who := by rw [ow_ok hk, Int.add_zero]
    have e1 := ow_ok hk 1
    have e3 := sl_ok hk f.x
    unfold popS at e
    rw [if_pos hg] at e
    obtain ⟨o, p, q, v, x, y, s⟩ := f
    simp only at hr ho h0 h7 e hk e0 e1 e3 hq0 hqW hge hst
    subst hr ho
    have hp : p = 0 ∨ p = 1 ∨ p = 2 ∨ p = 3 ∨ p = 4 ∨ p = 5 ∨ p = 6 := by omega
    rcases hp with rfl | rfl | rfl | rfl | rfl | rfl | rfl
    · rw [if_pos rfl] at e
      injection e with e4 e5
      subst e4 e5
      exact RetU.of (rpop_0 W D J S 1 q v x y 0 A n c l w h hn hs hg) rfl (by rw [e1])
    · rw [if_neg (by decide), if_pos rfl] at e
      injection e with e4 e5
      subst e4 e5
      exact RetU.of (rpop_1 W D J S 1 q v x y 0 A n c l w h hn hs hg) (by rw [e1]) rfl
    · rw [if_neg (by decide), if_neg (by decide), if_pos rfl] at e
      have ut : U (at0 l (ow W D J S q 0)) := at0_U hu _
      by_cases hd : far x (at0 l (bg D J q)) < 0
      · rw [if_pos hd] at e
        injection e with e4 e5
        subst e4 e5
        exact RetU.of (rpop_2n W D J S 1 q v x y 0 A n c l w h hn hs hg (by rw [e0]; exact decide_eq_true hd) hf.2.1 ut) rfl (by rw [e0])
      · rw [if_neg hd] at e
        injection e with e4 e5
        subst e4 e5
        exact RetU.of (rpop_2f W D J S 1 q v x y 0 A n c l w h hn hs hg (by rw [e0]; exact decide_eq_false hd) hf.2.1 ut) rfl (by rw [e0])
    · rw [if_neg (by decide), if_neg (by decide), if_neg (by decide), if_pos rfl] at e
      by_cases hd : x = y
      · subst hd
        rw [if_pos rfl] at e
        injection e with e4 e5
        subst e4 e5
        exact RetU.of (rpop_3e W D J S 1 q v x 0 A n c l w h hn hs hg hf.2.1) rfl (by rw [e3])
      · rw [if_neg hd] at e
        injection e with e4 e5
        subst e4 e5
        exact RetU.of (rpop_3t W D J S 1 q v x y 0 A n c l w h hn hs hg hf.2.1 (by simpa using hd)) rfl (by rw [e3]; rfl)
    · rw [if_neg (by decide), if_neg (by decide), if_neg (by decide), if_neg (by decide), if_pos rfl] at e
      have ei : isAt l (ow W D J S q 0) y = decide (at0 l (bg D J q) = y) := by rw [e0]; exact isAt_at0 (by omega) (by omega)
      by_cases hd : at0 l (bg D J q) = y
      · rw [if_pos hd] at e
        rw [decide_eq_true hd] at ei
        injection e with e4 e5
        subst e4 e5
        exact RetU.of (rpop_4y W D J S 1 q v x y 0 A n c l w h hn hs hg _ ei (by rw [if_pos ei, e0]) (len_put _ _ _)) rfl rfl
      · rw [if_neg hd] at e
        rw [decide_eq_false hd] at ei
        injection e with e4 e5
        subst e4 e5
        exact RetU.of (rpop_4n W D J S 1 q v x y 0 A n c l w h hn hs hg _ ei (by rw [if_neg (by simp [ei])]) rfl) rfl rfl
    · rw [if_neg (by decide), if_neg (by decide), if_neg (by decide), if_neg (by decide), if_neg (by decide), if_pos rfl] at e
      injection e with e4 e5
      subst e4 e5
      exact RetU.of (rpop_5 W D J S 1 q v x y 0 A n c l w h hn hs hg) (by rw [e1]) rfl
    · rw [if_neg (by decide), if_neg (by decide), if_neg (by decide), if_neg (by decide), if_neg (by decide), if_neg (by decide)] at e
      injection e with e4 e5
      subst e4 e5
      exact RetU.of (rpop_6 W D J S 1 q v x y 0 A n c l w h hn hs hg) (by rw [e1]) rfl
set_option maxRecDepth 100000 in
theorem rpop_any {W D J S : Int} {A : Option Addr} {n c : Nat} {l : List Int} {f : Fr} {w : World} (h : Rd w A l) (hn : l.length = n) (hs : n ≤ 500) (hu : UM l) (hf : UF f) {l' : List Int} {f' : Fr} (e : popS W D J S l f = (l', f')) :
    Calls Try.prog 30 #[cf W D J S, .slice A n c, fv f] w (RetT w n l' f') :=
  (rpop_u h hn hs hu hf e).mono fun _ _ h2 => h2.t h
end Go.Proofs.Ytpeaahihjeplmaa
