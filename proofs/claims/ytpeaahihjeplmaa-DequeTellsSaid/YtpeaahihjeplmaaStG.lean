/- Contract of the document's own Step of a steal. -/
import Derived.Test.YtpeaahihjeplmaaNxG
import Derived.Test.YtpeaahihjeplmaaCelR2
import Derived.Test.YtpeaahihjeplmaaLaR
import Derived.Test.YtpeaahihjeplmaaFrE
namespace Go.Proofs.Ytpeaahihjeplmaa
open Go.RowKit Go.Deep
set_option maxRecDepth 100000 in
set_option maxHeartbeats 4000000 in
theorem rsteal_leave (W D J S o p q v x y s : Int) (A : Option Addr) (n c : Nat) (l : List Int) (w : World) (h : Rd w A l) (hn : l.length = n) (hg : goes W D J S l ⟨o, p, q, v, x, y, s⟩ 2 4 = false) :
    Calls Try.prog 31 #[cf W D J S, .slice A n c, fv ⟨o, p, q, v, x, y, s⟩] w (RetU w A l n l ⟨o, p, q, v, x, y, s⟩) := by
  have NX := Lib.hid (Ng.begin w W D J S (⟨o, p, q, v, x, y, s⟩ : Fr))
  have H := Lib.hid h
  have HN := Lib.hid hn
  have HG0 := Lib.hid hg
  clear h hn hg
  go_enter Try.func31, Try.ntmps31
  go_wp2_with fail
  change Calls _ _ _ (bx3 w W D J S ⟨o, p, q, v, x, y, s⟩) _
  generalize bx3 w W D J S ⟨o, p, q, v, x, y, s⟩ = w0 at NX ⊢
  refine (Tells.of (rgoes_any W D J S 2 4 A n c l ⟨o, p, q, v, x, y, s⟩ _ HN.out) (v' := .bool false) (by rw [HG0.out])).mono ?_
  rintro _ w1 ⟨rfl, z⟩
  have NY := Lib.hid (NX.out.call z)
  clear NX
  have NX := Lib.hid NY.out
  clear NY
  clear z HG0
  obtain ⟨_, b0, b1, b2, b3⟩ := NX.out.bx
  obtain ⟨d0, d1, d2, d3, d4, d5, d6⟩ := NX.out.bf.cells
  obtain ⟨lx, lf, lr⟩ := NX.out.facts
  have fzf := NX.out.bf.free
  have fzr := NX.out.br.free
  obtain ⟨r0, r1, r2, r3, r4, r5, r6⟩ := NX.out.br.cells
  try simp only at d0 d1 d2 d3 d4 d5 d6
  go_wp2_with fail
  go_region
  all_goals
    go_wp2
    change bodyPost _ _ _ _ _ (pf w1 (w.heap.size + 1 + 1) ⟨o, p, q, v, x, y, s⟩).drew
    have NB := NX.out.backD ⟨o, p, q, v, x, y, s⟩
    refine bodyPost_ret (results_fr Try.results31 _ rfl NB.1) rfl ?_
    exact ⟨A, c, rfl, .inl ⟨rfl, rfl⟩, NB.2⟩
set_option maxRecDepth 100000 in
set_option maxHeartbeats 4000000 in
theorem rsteal_0 (W D J S o q v x y s : Int) (A : Option Addr) (n c : Nat) (l : List Int) (w : World) (h : Rd w A l) (hn : l.length = n) (hs : n ≤ 500) (hg : goes W D J S l ⟨o, 0, q, v, x, y, s⟩ 2 4 = true) :
    Calls Try.prog 31 #[cf W D J S, .slice A n c, fv ⟨o, 0, q, v, x, y, s⟩] w (RetU w A l n l ⟨o, 1, q, v, x, at0 l (ow W D J S q 0), s⟩) := by
  have NX := Lib.hid (Ng.begin w W D J S (⟨o, 0, q, v, x, y, s⟩ : Fr))
  have H := Lib.hid h
  have HN := Lib.hid hn
  have HS := Lib.hid hs
  have HG0 := Lib.hid hg
  clear h hs hn hg
  go_enter Try.func31, Try.ntmps31
  go_wp2_with fail
  change Calls _ _ _ (bx3 w W D J S ⟨o, 0, q, v, x, y, s⟩) _
  generalize bx3 w W D J S ⟨o, 0, q, v, x, y, s⟩ = w0 at NX ⊢
  refine (Tells.of (rgoes_any W D J S 2 4 A n c l ⟨o, 0, q, v, x, y, s⟩ _ HN.out) (v' := .bool true) (by rw [HG0.out])).mono ?_
  rintro _ w1 ⟨rfl, z⟩
  have NY := Lib.hid (NX.out.call z)
  clear NX
  have NX := Lib.hid NY.out
  clear NY
  clear z HG0
  obtain ⟨_, b0, b1, b2, b3⟩ := NX.out.bx
  obtain ⟨d0, d1, d2, d3, d4, d5, d6⟩ := NX.out.bf.cells
  obtain ⟨lx, lf, lr⟩ := NX.out.facts
  have fzf := NX.out.bf.free
  have fzr := NX.out.br.free
  obtain ⟨r0, r1, r2, r3, r4, r5, r6⟩ := NX.out.br.cells
  try simp only at d0 d1 d2 d3 d4 d5 d6
  go_wp2_with fail
  refine (rtop_any W D J S q _).mono ?_
  rintro _ w2 ⟨rfl, z⟩
  clear b0 b1 b2 b3 d0 d1 d2 d3 d4 d5 d6 lx lf lr fzf fzr r0 r1 r2 r3 r4 r5 r6
  have NY := Lib.hid (NX.out.call z)
  clear NX
  have NX := Lib.hid NY.out
  clear NY
  clear z
  obtain ⟨_, b0, b1, b2, b3⟩ := NX.out.bx
  obtain ⟨d0, d1, d2, d3, d4, d5, d6⟩ := NX.out.bf.cells
  obtain ⟨lx, lf, lr⟩ := NX.out.facts
  have fzf := NX.out.bf.free
  have fzr := NX.out.br.free
  obtain ⟨r0, r1, r2, r3, r4, r5, r6⟩ := NX.out.br.cells
  try simp only at d0 d1 d2 d3 d4 d5 d6
  go_wp2_with fail
  refine (rload_any A n c l _ _ (H.out.below NX.out.be) HN.out).mono ?_
  rintro _ w3 ⟨rfl, z⟩
  clear b0 b1 b2 b3 d0 d1 d2 d3 d4 d5 d6 lx lf lr fzf fzr r0 r1 r2 r3 r4 r5 r6
  have NY := Lib.hid (NX.out.call z)
  clear NX
  have NX := Lib.hid NY.out
  clear NY
  clear z
  obtain ⟨_, b0, b1, b2, b3⟩ := NX.out.bx
  obtain ⟨d0, d1, d2, d3, d4, d5, d6⟩ := NX.out.bf.cells
  obtain ⟨lx, lf, lr⟩ := NX.out.facts
  have fzf := NX.out.bf.free
  have fzr := NX.out.br.free
  obtain ⟨r0, r1, r2, r3, r4, r5, r6⟩ := NX.out.br.cells
  try simp only at d0 d1 d2 d3 d4 d5 d6
  go_upto_region 7 with fail
  clear b0 b1 b2 b3 d0 d1 d2 d3 d4 d5 d6 lx lf lr fzf fzr r0 r1 r2 r3 r4 r5 r6
  have NY := Lib.hid (NX.out.setY (at0 l (ow W D J S q 0)))
  clear NX
  have NX := Lib.hid NY.out
  clear NY
  change Code.wp _ _ _ _ (w3.setCell ⟨w.heap.size + 1, 5, none⟩ (.int .u64 (at0 l (ow W D J S q 0))))
  generalize w3.setCell ⟨w.heap.size + 1, 5, none⟩ (.int .u64 (at0 l (ow W D J S q 0))) = w4 at NX ⊢
  obtain ⟨_, b0, b1, b2, b3⟩ := NX.out.bx
  obtain ⟨d0, d1, d2, d3, d4, d5, d6⟩ := NX.out.bf.cells
  obtain ⟨lx, lf, lr⟩ := NX.out.facts
  have fzf := NX.out.bf.free
  have fzr := NX.out.br.free
  obtain ⟨r0, r1, r2, r3, r4, r5, r6⟩ := NX.out.br.cells
  try simp only at d0 d1 d2 d3 d4 d5 d6
  go_upto_region 8 with fail
  clear b0 b1 b2 b3 d0 d1 d2 d3 d4 d5 d6 lx lf lr fzf fzr r0 r1 r2 r3 r4 r5 r6
  have NY := Lib.hid (NX.out.setPc 1)
  clear NX
  have NX := Lib.hid NY.out
  clear NY
  change Code.wp _ _ _ _ (w4.setCell ⟨w.heap.size + 1, 1, none⟩ (.int .i64 1))
  generalize w4.setCell ⟨w.heap.size + 1, 1, none⟩ (.int .i64 1) = w5 at NX ⊢
  obtain ⟨_, b0, b1, b2, b3⟩ := NX.out.bx
  obtain ⟨d0, d1, d2, d3, d4, d5, d6⟩ := NX.out.bf.cells
  obtain ⟨lx, lf, lr⟩ := NX.out.facts
  have fzf := NX.out.bf.free
  have fzr := NX.out.br.free
  obtain ⟨r0, r1, r2, r3, r4, r5, r6⟩ := NX.out.br.cells
  try simp only at d0 d1 d2 d3 d4 d5 d6
  go_wp2_with fail
  go_region
  all_goals
    go_wp2
    change bodyPost _ _ _ _ _ (pf w5 (w.heap.size + 1 + 1) ⟨o, 1, q, v, x, at0 l (ow W D J S q 0), s⟩).drew
    have NB := NX.out.backD ⟨o, 1, q, v, x, at0 l (ow W D J S q 0), s⟩
    refine bodyPost_ret (results_fr Try.results31 _ rfl NB.1) rfl ?_
    exact ⟨A, c, rfl, .inl ⟨rfl, rfl⟩, NB.2⟩
set_option maxRecDepth 100000 in
set_option maxHeartbeats 4000000 in
theorem rsteal_1t (W D J S o q v x y s : Int) (A : Option Addr) (n c : Nat) (l : List Int) (w : World) (h : Rd w A l) (hn : l.length = n) (hs : n ≤ 500) (hg : goes W D J S l ⟨o, 1, q, v, x, y, s⟩ 2 4 = true) (d : decide (far (at0 l (ow W D J S q 1)) y ≤ 0) = true) (uy : U y) (ut : U (at0 l (ow W D J S q 1))) :
    Calls Try.prog 31 #[cf W D J S, .slice A n c, fv ⟨o, 1, q, v, x, y, s⟩] w (RetU w A l n l (ed ⟨o, 2, q, v, at0 l (ow W D J S q 1), y, s⟩ 3 0)) := by
  have NX := Lib.hid (Ng.begin w W D J S (⟨o, 1, q, v, x, y, s⟩ : Fr))
  have H := Lib.hid h
  have HN := Lib.hid hn
  have HS := Lib.hid hs
  have HG0 := Lib.hid hg
  have Hd := Lib.hid d
  have Huy := Lib.hid uy
  have Hut := Lib.hid ut
  clear h hs hn hg d uy ut
  go_enter Try.func31, Try.ntmps31
  go_wp2_with fail
  change Calls _ _ _ (bx3 w W D J S ⟨o, 1, q, v, x, y, s⟩) _
  generalize bx3 w W D J S ⟨o, 1, q, v, x, y, s⟩ = w0 at NX ⊢
  refine (Tells.of (rgoes_any W D J S 2 4 A n c l ⟨o, 1, q, v, x, y, s⟩ _ HN.out) (v' := .bool true) (by rw [HG0.out])).mono ?_
  rintro _ w1 ⟨rfl, z⟩
  have NY := Lib.hid (NX.out.call z)
  clear NX
  have NX := Lib.hid NY.out
  clear NY
  clear z HG0
  obtain ⟨_, b0, b1, b2, b3⟩ := NX.out.bx
  obtain ⟨d0, d1, d2, d3, d4, d5, d6⟩ := NX.out.bf.cells
  obtain ⟨lx, lf, lr⟩ := NX.out.facts
  have fzf := NX.out.bf.free
  have fzr := NX.out.br.free
  obtain ⟨r0, r1, r2, r3, r4, r5, r6⟩ := NX.out.br.cells
  try simp only at d0 d1 d2 d3 d4 d5 d6
  have hd := Hd.out
  go_wp2_with fail
  refine (rbottom_any W D J S q _).mono ?_
  rintro _ w2 ⟨rfl, z⟩
  clear b0 b1 b2 b3 d0 d1 d2 d3 d4 d5 d6 lx lf lr fzf fzr r0 r1 r2 r3 r4 r5 r6
  have NY := Lib.hid (NX.out.call z)
  clear NX
  have NX := Lib.hid NY.out
  clear NY
  clear z
  obtain ⟨_, b0, b1, b2, b3⟩ := NX.out.bx
  obtain ⟨d0, d1, d2, d3, d4, d5, d6⟩ := NX.out.bf.cells
  obtain ⟨lx, lf, lr⟩ := NX.out.facts
  have fzf := NX.out.bf.free
  have fzr := NX.out.br.free
  obtain ⟨r0, r1, r2, r3, r4, r5, r6⟩ := NX.out.br.cells
  try simp only at d0 d1 d2 d3 d4 d5 d6
  go_wp2_with fail
  refine (rload_any A n c l _ _ (H.out.below NX.out.be) HN.out).mono ?_
  rintro _ w3 ⟨rfl, z⟩
  clear b0 b1 b2 b3 d0 d1 d2 d3 d4 d5 d6 lx lf lr fzf fzr r0 r1 r2 r3 r4 r5 r6
  have NY := Lib.hid (NX.out.call z)
  clear NX
  have NX := Lib.hid NY.out
  clear NY
  clear z
  obtain ⟨_, b0, b1, b2, b3⟩ := NX.out.bx
  obtain ⟨d0, d1, d2, d3, d4, d5, d6⟩ := NX.out.bf.cells
  obtain ⟨lx, lf, lr⟩ := NX.out.facts
  have fzf := NX.out.bf.free
  have fzr := NX.out.br.free
  obtain ⟨r0, r1, r2, r3, r4, r5, r6⟩ := NX.out.br.cells
  try simp only at d0 d1 d2 d3 d4 d5 d6
  go_upto_region 11 with fail
  clear b0 b1 b2 b3 d0 d1 d2 d3 d4 d5 d6 lx lf lr fzf fzr r0 r1 r2 r3 r4 r5 r6
  have NY := Lib.hid (NX.out.setX (at0 l (ow W D J S q 1)))
  clear NX
  have NX := Lib.hid NY.out
  clear NY
  change Code.wp _ _ _ _ (w3.setCell ⟨w.heap.size + 1, 4, none⟩ (.int .u64 (at0 l (ow W D J S q 1))))
  generalize w3.setCell ⟨w.heap.size + 1, 4, none⟩ (.int .u64 (at0 l (ow W D J S q 1))) = w4 at NX ⊢
  obtain ⟨_, b0, b1, b2, b3⟩ := NX.out.bx
  obtain ⟨d0, d1, d2, d3, d4, d5, d6⟩ := NX.out.bf.cells
  obtain ⟨lx, lf, lr⟩ := NX.out.facts
  have fzf := NX.out.bf.free
  have fzr := NX.out.br.free
  obtain ⟨r0, r1, r2, r3, r4, r5, r6⟩ := NX.out.br.cells
  try simp only at d0 d1 d2 d3 d4 d5 d6
  go_upto_region 12 with fail
  clear b0 b1 b2 b3 d0 d1 d2 d3 d4 d5 d6 lx lf lr fzf fzr r0 r1 r2 r3 r4 r5 r6
  have NY := Lib.hid (NX.out.setPc 2)
  clear NX
  have NX := Lib.hid NY.out
  clear NY
  change Code.wp _ _ _ _ (w4.setCell ⟨w.heap.size + 1, 1, none⟩ (.int .i64 2))
  generalize w4.setCell ⟨w.heap.size + 1, 1, none⟩ (.int .i64 2) = w5 at NX ⊢
  obtain ⟨_, b0, b1, b2, b3⟩ := NX.out.bx
  obtain ⟨d0, d1, d2, d3, d4, d5, d6⟩ := NX.out.bf.cells
  obtain ⟨lx, lf, lr⟩ := NX.out.facts
  have fzf := NX.out.bf.free
  have fzr := NX.out.br.free
  obtain ⟨r0, r1, r2, r3, r4, r5, r6⟩ := NX.out.br.cells
  try simp only at d0 d1 d2 d3 d4 d5 d6
  go_wp2_with fail
  refine ((rfar_any _ _ _ Hut.out Huy.out).tells).mono ?_
  rintro _ w6 ⟨rfl, z⟩
  clear b0 b1 b2 b3 d0 d1 d2 d3 d4 d5 d6 lx lf lr fzf fzr r0 r1 r2 r3 r4 r5 r6
  have NY := Lib.hid (NX.out.call z)
  clear NX
  have NX := Lib.hid NY.out
  clear NY
  clear z
  obtain ⟨_, b0, b1, b2, b3⟩ := NX.out.bx
  obtain ⟨d0, d1, d2, d3, d4, d5, d6⟩ := NX.out.bf.cells
  obtain ⟨lx, lf, lr⟩ := NX.out.facts
  have fzf := NX.out.bf.free
  have fzr := NX.out.br.free
  obtain ⟨r0, r1, r2, r3, r4, r5, r6⟩ := NX.out.br.cells
  try simp only at d0 d1 d2 d3 d4 d5 d6
  go_wp2_with fail
  refine (rend_any ⟨o, 2, q, v, at0 l (ow W D J S q 1), y, s⟩ 3 0 _).mono ?_
  rintro _ w7 ⟨rfl, z⟩
  clear b0 b1 b2 b3 d0 d1 d2 d3 d4 d5 d6 lx lf lr fzf fzr r0 r1 r2 r3 r4 r5 r6
  have NY := Lib.hid (NX.out.call z)
  clear NX
  have NX := Lib.hid NY.out
  clear NY
  clear z
  obtain ⟨_, b0, b1, b2, b3⟩ := NX.out.bx
  obtain ⟨d0, d1, d2, d3, d4, d5, d6⟩ := NX.out.bf.cells
  obtain ⟨lx, lf, lr⟩ := NX.out.facts
  have fzf := NX.out.bf.free
  have fzr := NX.out.br.free
  obtain ⟨r0, r1, r2, r3, r4, r5, r6⟩ := NX.out.br.cells
  try simp only at d0 d1 d2 d3 d4 d5 d6
  go_wp2
  change bodyPost _ _ _ _ _ (pf w7 (w.heap.size + 1 + 1) (ed ⟨o, 2, q, v, at0 l (ow W D J S q 1), y, s⟩ 3 0))
  have NB := NX.out.back (ed ⟨o, 2, q, v, at0 l (ow W D J S q 1), y, s⟩ 3 0)
  refine bodyPost_ret (results_fr Try.results31 _ rfl NB.1) rfl ?_
  exact ⟨A, c, rfl, .inl ⟨rfl, rfl⟩, NB.2⟩
set_option maxRecDepth 100000 in
set_option maxHeartbeats 4000000 in
theorem rsteal_1f (W D J S o q v x y s : Int) (A : Option Addr) (n c : Nat) (l : List Int) (w : World) (h : Rd w A l) (hn : l.length = n) (hs : n ≤ 500) (hg : goes W D J S l ⟨o, 1, q, v, x, y, s⟩ 2 4 = true) (d : decide (far (at0 l (ow W D J S q 1)) y ≤ 0) = false) (uy : U y) (ut : U (at0 l (ow W D J S q 1))) :
    Calls Try.prog 31 #[cf W D J S, .slice A n c, fv ⟨o, 1, q, v, x, y, s⟩] w (RetU w A l n l ⟨o, 2, q, v, at0 l (ow W D J S q 1), y, s⟩) := by
  have NX := Lib.hid (Ng.begin w W D J S (⟨o, 1, q, v, x, y, s⟩ : Fr))
  have H := Lib.hid h
  have HN := Lib.hid hn
  have HS := Lib.hid hs
  have HG0 := Lib.hid hg
  have Hd := Lib.hid d
  have Huy := Lib.hid uy
  have Hut := Lib.hid ut
  clear h hs hn hg d uy ut
  go_enter Try.func31, Try.ntmps31
  go_wp2_with fail
  change Calls _ _ _ (bx3 w W D J S ⟨o, 1, q, v, x, y, s⟩) _
  generalize bx3 w W D J S ⟨o, 1, q, v, x, y, s⟩ = w0 at NX ⊢
  refine (Tells.of (rgoes_any W D J S 2 4 A n c l ⟨o, 1, q, v, x, y, s⟩ _ HN.out) (v' := .bool true) (by rw [HG0.out])).mono ?_
  rintro _ w1 ⟨rfl, z⟩
  have NY := Lib.hid (NX.out.call z)
  clear NX
  have NX := Lib.hid NY.out
  clear NY
  clear z HG0
  obtain ⟨_, b0, b1, b2, b3⟩ := NX.out.bx
  obtain ⟨d0, d1, d2, d3, d4, d5, d6⟩ := NX.out.bf.cells
  obtain ⟨lx, lf, lr⟩ := NX.out.facts
  have fzf := NX.out.bf.free
  have fzr := NX.out.br.free
  obtain ⟨r0, r1, r2, r3, r4, r5, r6⟩ := NX.out.br.cells
  try simp only at d0 d1 d2 d3 d4 d5 d6
  have hd := Hd.out
  go_wp2_with fail
  refine (rbottom_any W D J S q _).mono ?_
  rintro _ w2 ⟨rfl, z⟩
  clear b0 b1 b2 b3 d0 d1 d2 d3 d4 d5 d6 lx lf lr fzf fzr r0 r1 r2 r3 r4 r5 r6
  have NY := Lib.hid (NX.out.call z)
  clear NX
  have NX := Lib.hid NY.out
  clear NY
  clear z
  obtain ⟨_, b0, b1, b2, b3⟩ := NX.out.bx
  obtain ⟨d0, d1, d2, d3, d4, d5, d6⟩ := NX.out.bf.cells
  obtain ⟨lx, lf, lr⟩ := NX.out.facts
  have fzf := NX.out.bf.free
  have fzr := NX.out.br.free
  obtain ⟨r0, r1, r2, r3, r4, r5, r6⟩ := NX.out.br.cells
  try simp only at d0 d1 d2 d3 d4 d5 d6
  go_wp2_with fail
  refine (rload_any A n c l _ _ (H.out.below NX.out.be) HN.out).mono ?_
  rintro _ w3 ⟨rfl, z⟩
  clear b0 b1 b2 b3 d0 d1 d2 d3 d4 d5 d6 lx lf lr fzf fzr r0 r1 r2 r3 r4 r5 r6
  have NY := Lib.hid (NX.out.call z)
  clear NX
  have NX := Lib.hid NY.out
  clear NY
  clear z
  obtain ⟨_, b0, b1, b2, b3⟩ := NX.out.bx
  obtain ⟨d0, d1, d2, d3, d4, d5, d6⟩ := NX.out.bf.cells
  obtain ⟨lx, lf, lr⟩ := NX.out.facts
  have fzf := NX.out.bf.free
  have fzr := NX.out.br.free
  obtain ⟨r0, r1, r2, r3, r4, r5, r6⟩ := NX.out.br.cells
  try simp only at d0 d1 d2 d3 d4 d5 d6
  go_upto_region 11 with fail
  clear b0 b1 b2 b3 d0 d1 d2 d3 d4 d5 d6 lx lf lr fzf fzr r0 r1 r2 r3 r4 r5 r6
  have NY := Lib.hid (NX.out.setX (at0 l (ow W D J S q 1)))
  clear NX
  have NX := Lib.hid NY.out
  clear NY
  change Code.wp _ _ _ _ (w3.setCell ⟨w.heap.size + 1, 4, none⟩ (.int .u64 (at0 l (ow W D J S q 1))))
  generalize w3.setCell ⟨w.heap.size + 1, 4, none⟩ (.int .u64 (at0 l (ow W D J S q 1))) = w4 at NX ⊢
  obtain ⟨_, b0, b1, b2, b3⟩ := NX.out.bx
  obtain ⟨d0, d1, d2, d3, d4, d5, d6⟩ := NX.out.bf.cells
  obtain ⟨lx, lf, lr⟩ := NX.out.facts
  have fzf := NX.out.bf.free
  have fzr := NX.out.br.free
  obtain ⟨r0, r1, r2, r3, r4, r5, r6⟩ := NX.out.br.cells
  try simp only at d0 d1 d2 d3 d4 d5 d6
  go_upto_region 12 with fail
  clear b0 b1 b2 b3 d0 d1 d2 d3 d4 d5 d6 lx lf lr fzf fzr r0 r1 r2 r3 r4 r5 r6
  have NY := Lib.hid (NX.out.setPc 2)
  clear NX
  have NX := Lib.hid NY.out
  clear NY
  change Code.wp _ _ _ _ (w4.setCell ⟨w.heap.size + 1, 1, none⟩ (.int .i64 2))
  generalize w4.setCell ⟨w.heap.size + 1, 1, none⟩ (.int .i64 2) = w5 at NX ⊢
  obtain ⟨_, b0, b1, b2, b3⟩ := NX.out.bx
  obtain ⟨d0, d1, d2, d3, d4, d5, d6⟩ := NX.out.bf.cells
  obtain ⟨lx, lf, lr⟩ := NX.out.facts
  have fzf := NX.out.bf.free
  have fzr := NX.out.br.free
  obtain ⟨r0, r1, r2, r3, r4, r5, r6⟩ := NX.out.br.cells
  try simp only at d0 d1 d2 d3 d4 d5 d6
  go_wp2_with fail
  refine ((rfar_any _ _ _ Hut.out Huy.out).tells).mono ?_
  rintro _ w6 ⟨rfl, z⟩
  clear b0 b1 b2 b3 d0 d1 d2 d3 d4 d5 d6 lx lf lr fzf fzr r0 r1 r2 r3 r4 r5 r6
  have NY := Lib.hid (NX.out.call z)
  clear NX
  have NX := Lib.hid NY.out
  clear NY
  clear z
  obtain ⟨_, b0, b1, b2, b3⟩ := NX.out.bx
  obtain ⟨d0, d1, d2, d3, d4, d5, d6⟩ := NX.out.bf.cells
  obtain ⟨lx, lf, lr⟩ := NX.out.facts
  have fzf := NX.out.bf.free
  have fzr := NX.out.br.free
  obtain ⟨r0, r1, r2, r3, r4, r5, r6⟩ := NX.out.br.cells
  try simp only at d0 d1 d2 d3 d4 d5 d6
  go_wp2_with fail
  go_region
  all_goals
    go_wp2
    change bodyPost _ _ _ _ _ (pf w6 (w.heap.size + 1 + 1) ⟨o, 2, q, v, at0 l (ow W D J S q 1), y, s⟩).drew
    have NB := NX.out.backD ⟨o, 2, q, v, at0 l (ow W D J S q 1), y, s⟩
    refine bodyPost_ret (results_fr Try.results31 _ rfl NB.1) rfl ?_
    exact ⟨A, c, rfl, .inl ⟨rfl, rfl⟩, NB.2⟩
set_option maxRecDepth 100000 in
set_option maxHeartbeats 4000000 in
theorem rsteal_2 (W D J S o q v x y s : Int) (A : Option Addr) (n c : Nat) (l : List Int) (w : World) (h : Rd w A l) (hn : l.length = n) (hs : n ≤ 500) (hg : goes W D J S l ⟨o, 2, q, v, x, y, s⟩ 2 4 = true) (uy : U y) :
    Calls Try.prog 31 #[cf W D J S, .slice A n c, fv ⟨o, 2, q, v, x, y, s⟩] w (RetU w A l n l ⟨o, 3, q, at0 l (sl W D J S q y), x, y, s⟩) := by
  have NX := Lib.hid (Ng.begin w W D J S (⟨o, 2, q, v, x, y, s⟩ : Fr))
  have H := Lib.hid h
  have HN := Lib.hid hn
  have HS := Lib.hid hs
  have HG0 := Lib.hid hg
  have Huy := Lib.hid uy
  clear h hs hn hg uy
  go_enter Try.func31, Try.ntmps31
  go_wp2_with fail
  change Calls _ _ _ (bx3 w W D J S ⟨o, 2, q, v, x, y, s⟩) _
  generalize bx3 w W D J S ⟨o, 2, q, v, x, y, s⟩ = w0 at NX ⊢
  refine (Tells.of (rgoes_any W D J S 2 4 A n c l ⟨o, 2, q, v, x, y, s⟩ _ HN.out) (v' := .bool true) (by rw [HG0.out])).mono ?_
  rintro _ w1 ⟨rfl, z⟩
  have NY := Lib.hid (NX.out.call z)
  clear NX
  have NX := Lib.hid NY.out
  clear NY
  clear z HG0
  obtain ⟨_, b0, b1, b2, b3⟩ := NX.out.bx
  obtain ⟨d0, d1, d2, d3, d4, d5, d6⟩ := NX.out.bf.cells
  obtain ⟨lx, lf, lr⟩ := NX.out.facts
  have fzf := NX.out.bf.free
  have fzr := NX.out.br.free
  obtain ⟨r0, r1, r2, r3, r4, r5, r6⟩ := NX.out.br.cells
  try simp only at d0 d1 d2 d3 d4 d5 d6
  go_wp2_with fail
  refine (rslot_any W D J S q y _ Huy.out).mono ?_
  rintro _ w2 ⟨rfl, z⟩
  clear b0 b1 b2 b3 d0 d1 d2 d3 d4 d5 d6 lx lf lr fzf fzr r0 r1 r2 r3 r4 r5 r6
  have NY := Lib.hid (NX.out.call z)
  clear NX
  have NX := Lib.hid NY.out
  clear NY
  clear z
  obtain ⟨_, b0, b1, b2, b3⟩ := NX.out.bx
  obtain ⟨d0, d1, d2, d3, d4, d5, d6⟩ := NX.out.bf.cells
  obtain ⟨lx, lf, lr⟩ := NX.out.facts
  have fzf := NX.out.bf.free
  have fzr := NX.out.br.free
  obtain ⟨r0, r1, r2, r3, r4, r5, r6⟩ := NX.out.br.cells
  try simp only at d0 d1 d2 d3 d4 d5 d6
  go_wp2_with fail
  refine (rload_any A n c l _ _ (H.out.below NX.out.be) HN.out).mono ?_
  rintro _ w3 ⟨rfl, z⟩
  clear b0 b1 b2 b3 d0 d1 d2 d3 d4 d5 d6 lx lf lr fzf fzr r0 r1 r2 r3 r4 r5 r6
  have NY := Lib.hid (NX.out.call z)
  clear NX
  have NX := Lib.hid NY.out
  clear NY
  clear z
  obtain ⟨_, b0, b1, b2, b3⟩ := NX.out.bx
  obtain ⟨d0, d1, d2, d3, d4, d5, d6⟩ := NX.out.bf.cells
  obtain ⟨lx, lf, lr⟩ := NX.out.facts
  have fzf := NX.out.bf.free
  have fzr := NX.out.br.free
  obtain ⟨r0, r1, r2, r3, r4, r5, r6⟩ := NX.out.br.cells
  try simp only at d0 d1 d2 d3 d4 d5 d6
  go_upto_region 17 with fail
  clear b0 b1 b2 b3 d0 d1 d2 d3 d4 d5 d6 lx lf lr fzf fzr r0 r1 r2 r3 r4 r5 r6
  have NY := Lib.hid (NX.out.setVal (at0 l (sl W D J S q y)))
  clear NX
  have NX := Lib.hid NY.out
  clear NY
  change Code.wp _ _ _ _ (w3.setCell ⟨w.heap.size + 1, 3, none⟩ (.int .u64 (at0 l (sl W D J S q y))))
  generalize w3.setCell ⟨w.heap.size + 1, 3, none⟩ (.int .u64 (at0 l (sl W D J S q y))) = w4 at NX ⊢
  obtain ⟨_, b0, b1, b2, b3⟩ := NX.out.bx
  obtain ⟨d0, d1, d2, d3, d4, d5, d6⟩ := NX.out.bf.cells
  obtain ⟨lx, lf, lr⟩ := NX.out.facts
  have fzf := NX.out.bf.free
  have fzr := NX.out.br.free
  obtain ⟨r0, r1, r2, r3, r4, r5, r6⟩ := NX.out.br.cells
  try simp only at d0 d1 d2 d3 d4 d5 d6
  go_upto_region 18 with fail
  clear b0 b1 b2 b3 d0 d1 d2 d3 d4 d5 d6 lx lf lr fzf fzr r0 r1 r2 r3 r4 r5 r6
  have NY := Lib.hid (NX.out.setPc 3)
  clear NX
  have NX := Lib.hid NY.out
  clear NY
  change Code.wp _ _ _ _ (w4.setCell ⟨w.heap.size + 1, 1, none⟩ (.int .i64 3))
  generalize w4.setCell ⟨w.heap.size + 1, 1, none⟩ (.int .i64 3) = w5 at NX ⊢
  obtain ⟨_, b0, b1, b2, b3⟩ := NX.out.bx
  obtain ⟨d0, d1, d2, d3, d4, d5, d6⟩ := NX.out.bf.cells
  obtain ⟨lx, lf, lr⟩ := NX.out.facts
  have fzf := NX.out.bf.free
  have fzr := NX.out.br.free
  obtain ⟨r0, r1, r2, r3, r4, r5, r6⟩ := NX.out.br.cells
  try simp only at d0 d1 d2 d3 d4 d5 d6
  go_wp2_with fail
  go_region
  all_goals
    go_wp2
    change bodyPost _ _ _ _ _ (pf w5 (w.heap.size + 1 + 1) ⟨o, 3, q, at0 l (sl W D J S q y), x, y, s⟩).drew
    have NB := NX.out.backD ⟨o, 3, q, at0 l (sl W D J S q y), x, y, s⟩
    refine bodyPost_ret (results_fr Try.results31 _ rfl NB.1) rfl ?_
    exact ⟨A, c, rfl, .inl ⟨rfl, rfl⟩, NB.2⟩
set_option maxRecDepth 100000 in
set_option maxHeartbeats 4000000 in
theorem rsteal_3y (W D J S o q v x y s : Int) (A : Option Addr) (n c : Nat) (l : List Int) (w : World) (h : Rd w A l) (hn : l.length = n) (hs : n ≤ 500) (hg : goes W D J S l ⟨o, 3, q, v, x, y, s⟩ 2 4 = true) (T0 : List Int) (b : isAt l (ow W D J S q 0) y = true) (T : (if isAt l (ow W D J S q 0) y = true then put l (ow W D J S q 0) ((y + 1) % 18446744073709551616) else l) = T0) :
    Calls Try.prog 31 #[cf W D J S, .slice A n c, fv ⟨o, 3, q, v, x, y, s⟩] w (RetU w A l n T0 (ed ⟨o, 3, q, v, x, y, s⟩ 1 v)) := by
  have NX := Lib.hid (Ng.begin w W D J S (⟨o, 3, q, v, x, y, s⟩ : Fr))
  have H := Lib.hid h
  have HN := Lib.hid hn
  have HS := Lib.hid hs
  have HG0 := Lib.hid hg
  have Hb := Lib.hid b
  have HT := Lib.hid T
  clear h hs hn hg b T
  go_enter Try.func31, Try.ntmps31
  go_wp2_with fail
  change Calls _ _ _ (bx3 w W D J S ⟨o, 3, q, v, x, y, s⟩) _
  generalize bx3 w W D J S ⟨o, 3, q, v, x, y, s⟩ = w0 at NX ⊢
  refine (Tells.of (rgoes_any W D J S 2 4 A n c l ⟨o, 3, q, v, x, y, s⟩ _ HN.out) (v' := .bool true) (by rw [HG0.out])).mono ?_
  rintro _ w1 ⟨rfl, z⟩
  have NY := Lib.hid (NX.out.call z)
  clear NX
  have NX := Lib.hid NY.out
  clear NY
  clear z HG0
  obtain ⟨_, b0, b1, b2, b3⟩ := NX.out.bx
  obtain ⟨d0, d1, d2, d3, d4, d5, d6⟩ := NX.out.bf.cells
  obtain ⟨lx, lf, lr⟩ := NX.out.facts
  have fzf := NX.out.bf.free
  have fzr := NX.out.br.free
  obtain ⟨r0, r1, r2, r3, r4, r5, r6⟩ := NX.out.br.cells
  try simp only at d0 d1 d2 d3 d4 d5 d6
  go_wp2_with fail
  have HK := Lib.hid (show ∀ x', Below w1.heap.size w1 x' → (fun w' => w'.cell? ⟨w.heap.size, 0, none⟩ = some (.int .i64 W) ∧ w'.cell? ⟨w.heap.size, 1, none⟩ = some (.int .i64 D) ∧ w'.cell? ⟨w.heap.size, 2, none⟩ = some (.int .i64 J) ∧ w'.cell? ⟨w.heap.size, 3, none⟩ = some (.int .i64 S) ∧ w'.cell? ⟨w.heap.size + 1, 2, none⟩ = some (.int .i64 q) ∧ w'.cell? ⟨w.heap.size + 1, 3, none⟩ = some (.int .u64 v) ∧ w'.cell? ⟨w.heap.size + 1, 5, none⟩ = some (.int .u64 y) ∧ Below w1.heap.size w1 w') x' from fun x' hx => by
    obtain ⟨_, e0, e1, e2, e3⟩ := NX.out.bx.below hx
    obtain ⟨f0, f1, f2, f3, f4, f5, f6⟩ := (NX.out.bf.after hx).cells
    exact ⟨e0, e1, e2, e3, f2, f3, f5, hx⟩)
  have hHeld0 := HK.out _ (Below.refl _ _)
  have hn0 : w1.heap.size ≤ w1.heap.size := Nat.le_refl _
  have zr := Below.refl w1.heap.size w1
  have HR := Lib.hid (H.out.below NX.out.be)
  have HL2 := Lib.hid NX.out.facts.2.2
  clear b0 b1 b2 b3 d0 d1 d2 d3 d4 d5 d6 lx lf lr fzf fzr r0 r1 r2 r3 r4 r5 r6
  go_region_held3 (fun w' => w'.cell? ⟨w.heap.size, 0, none⟩ = some (.int .i64 W) ∧ w'.cell? ⟨w.heap.size, 1, none⟩ = some (.int .i64 D) ∧ w'.cell? ⟨w.heap.size, 2, none⟩ = some (.int .i64 J) ∧ w'.cell? ⟨w.heap.size, 3, none⟩ = some (.int .i64 S) ∧ w'.cell? ⟨w.heap.size + 1, 2, none⟩ = some (.int .i64 q) ∧ w'.cell? ⟨w.heap.size + 1, 3, none⟩ = some (.int .u64 v) ∧ w'.cell? ⟨w.heap.size + 1, 5, none⟩ = some (.int .u64 y) ∧ Below w1.heap.size w1 w')
    (first | with_reducible exact hd_drew HK.out (fun _ h => h.2.2.2.2.2.2.2) (by assumption) | with_reducible exact hd_call HK.out (fun _ h => h.2.2.2.2.2.2.2) (by assumption) (by assumption) hn0)
    (first
    | (go_at_call 62; (refine (rtop_any W D J S q _).mono ?_); rintro _ w5 ⟨rfl, hb5⟩; have z5 := keep_call hb5 zr.drew)
    | (go_at_call 67; (refine (rcasn_n (HR.out.below z5) HN.out HS.out Hb.out HT.out).mono ?_); rintro _ w6 ⟨A9, c9, rfl, n9, hb6⟩; have z6 := keep_call hb6 z5; have NR := Lib.hid n9; have HG := Lib.hid (Nat.lt_of_lt_of_le HL2.out z5.size); clear n9))
  clear hHeld0 HK hn0 zr
  have NY := Lib.hid (NX.out.call z6)
  clear NX
  have NX := Lib.hid NY.out
  clear NY
  obtain ⟨_, b0, b1, b2, b3⟩ := NX.out.bx
  obtain ⟨d0, d1, d2, d3, d4, d5, d6⟩ := NX.out.bf.cells
  obtain ⟨lx, lf, lr⟩ := NX.out.facts
  have fzf := NX.out.bf.free
  have fzr := NX.out.br.free
  obtain ⟨r0, r1, r2, r3, r4, r5, r6⟩ := NX.out.br.cells
  try simp only at d0 d1 d2 d3 d4 d5 d6
  skip
  go_wp2_with fail
  refine (rend_any ⟨o, 3, q, v, x, y, s⟩ 1 v _).mono ?_
  rintro _ w7 ⟨rfl, z⟩
  clear b0 b1 b2 b3 d0 d1 d2 d3 d4 d5 d6 lx lf lr fzf fzr r0 r1 r2 r3 r4 r5 r6
  have NY := Lib.hid (NX.out.call z)
  have NR2 := Lib.hid (NR.out.below z)
  clear NX
  have NX := Lib.hid NY.out
  clear NY
  clear z
  obtain ⟨_, b0, b1, b2, b3⟩ := NX.out.bx
  obtain ⟨d0, d1, d2, d3, d4, d5, d6⟩ := NX.out.bf.cells
  obtain ⟨lx, lf, lr⟩ := NX.out.facts
  have fzf := NX.out.bf.free
  have fzr := NX.out.br.free
  obtain ⟨r0, r1, r2, r3, r4, r5, r6⟩ := NX.out.br.cells
  try simp only at d0 d1 d2 d3 d4 d5 d6
  go_wp2
  change bodyPost _ _ _ _ _ (pf w7 (w.heap.size + 1 + 1) (ed ⟨o, 3, q, v, x, y, s⟩ 1 v))
  have NB := NX.out.back (ed ⟨o, 3, q, v, x, y, s⟩ 1 v)
  refine bodyPost_ret (results_fr Try.results31 _ rfl NB.1) rfl ?_
  exact ⟨A9, c9, rfl, .inr (NR2.out.pfO HG.out (by omega) _), NB.2⟩
set_option maxRecDepth 100000 in
set_option maxHeartbeats 4000000 in
theorem rsteal_3n (W D J S o q v x y s : Int) (A : Option Addr) (n c : Nat) (l : List Int) (w : World) (h : Rd w A l) (hn : l.length = n) (hs : n ≤ 500) (hg : goes W D J S l ⟨o, 3, q, v, x, y, s⟩ 2 4 = true) (T0 : List Int) (b : isAt l (ow W D J S q 0) y = false) (T : (if isAt l (ow W D J S q 0) y = true then put l (ow W D J S q 0) ((y + 1) % 18446744073709551616) else l) = T0) :
    Calls Try.prog 31 #[cf W D J S, .slice A n c, fv ⟨o, 3, q, v, x, y, s⟩] w (RetU w A l n T0 (ed ⟨o, 3, q, v, x, y, s⟩ 4 0)) := by
  have NX := Lib.hid (Ng.begin w W D J S (⟨o, 3, q, v, x, y, s⟩ : Fr))
  have H := Lib.hid h
  have HN := Lib.hid hn
  have HS := Lib.hid hs
  have HG0 := Lib.hid hg
  have Hb := Lib.hid b
  have HT := Lib.hid T
  clear h hs hn hg b T
  go_enter Try.func31, Try.ntmps31
  go_wp2_with fail
  change Calls _ _ _ (bx3 w W D J S ⟨o, 3, q, v, x, y, s⟩) _
  generalize bx3 w W D J S ⟨o, 3, q, v, x, y, s⟩ = w0 at NX ⊢
  refine (Tells.of (rgoes_any W D J S 2 4 A n c l ⟨o, 3, q, v, x, y, s⟩ _ HN.out) (v' := .bool true) (by rw [HG0.out])).mono ?_
  rintro _ w1 ⟨rfl, z⟩
  have NY := Lib.hid (NX.out.call z)
  clear NX
  have NX := Lib.hid NY.out
  clear NY
  clear z HG0
  obtain ⟨_, b0, b1, b2, b3⟩ := NX.out.bx
  obtain ⟨d0, d1, d2, d3, d4, d5, d6⟩ := NX.out.bf.cells
  obtain ⟨lx, lf, lr⟩ := NX.out.facts
  have fzf := NX.out.bf.free
  have fzr := NX.out.br.free
  obtain ⟨r0, r1, r2, r3, r4, r5, r6⟩ := NX.out.br.cells
  try simp only at d0 d1 d2 d3 d4 d5 d6
  go_wp2_with fail
  have HK := Lib.hid (show ∀ x', Below w1.heap.size w1 x' → (fun w' => w'.cell? ⟨w.heap.size, 0, none⟩ = some (.int .i64 W) ∧ w'.cell? ⟨w.heap.size, 1, none⟩ = some (.int .i64 D) ∧ w'.cell? ⟨w.heap.size, 2, none⟩ = some (.int .i64 J) ∧ w'.cell? ⟨w.heap.size, 3, none⟩ = some (.int .i64 S) ∧ w'.cell? ⟨w.heap.size + 1, 2, none⟩ = some (.int .i64 q) ∧ w'.cell? ⟨w.heap.size + 1, 3, none⟩ = some (.int .u64 v) ∧ w'.cell? ⟨w.heap.size + 1, 5, none⟩ = some (.int .u64 y) ∧ Below w1.heap.size w1 w') x' from fun x' hx => by
    obtain ⟨_, e0, e1, e2, e3⟩ := NX.out.bx.below hx
    obtain ⟨f0, f1, f2, f3, f4, f5, f6⟩ := (NX.out.bf.after hx).cells
    exact ⟨e0, e1, e2, e3, f2, f3, f5, hx⟩)
  have hHeld0 := HK.out _ (Below.refl _ _)
  have hn0 : w1.heap.size ≤ w1.heap.size := Nat.le_refl _
  have zr := Below.refl w1.heap.size w1
  have HR := Lib.hid (H.out.below NX.out.be)
  have HL2 := Lib.hid NX.out.facts.2.2
  clear b0 b1 b2 b3 d0 d1 d2 d3 d4 d5 d6 lx lf lr fzf fzr r0 r1 r2 r3 r4 r5 r6
  go_region_held3 (fun w' => w'.cell? ⟨w.heap.size, 0, none⟩ = some (.int .i64 W) ∧ w'.cell? ⟨w.heap.size, 1, none⟩ = some (.int .i64 D) ∧ w'.cell? ⟨w.heap.size, 2, none⟩ = some (.int .i64 J) ∧ w'.cell? ⟨w.heap.size, 3, none⟩ = some (.int .i64 S) ∧ w'.cell? ⟨w.heap.size + 1, 2, none⟩ = some (.int .i64 q) ∧ w'.cell? ⟨w.heap.size + 1, 3, none⟩ = some (.int .u64 v) ∧ w'.cell? ⟨w.heap.size + 1, 5, none⟩ = some (.int .u64 y) ∧ Below w1.heap.size w1 w')
    (first | with_reducible exact hd_drew HK.out (fun _ h => h.2.2.2.2.2.2.2) (by assumption) | with_reducible exact hd_call HK.out (fun _ h => h.2.2.2.2.2.2.2) (by assumption) (by assumption) hn0)
    (first
    | (go_at_call 62; (refine (rtop_any W D J S q _).mono ?_); rintro _ w5 ⟨rfl, hb5⟩; have z5 := keep_call hb5 zr.drew)
    | (go_at_call 67; (refine (rcasn_n (HR.out.below z5) HN.out HS.out Hb.out HT.out).mono ?_); rintro _ w6 ⟨A9, c9, rfl, n9, hb6⟩; have z6 := keep_call hb6 z5; have NR := Lib.hid n9; have HG := Lib.hid (Nat.lt_of_lt_of_le HL2.out z5.size); clear n9))
  clear hHeld0 HK hn0 zr
  have NY := Lib.hid (NX.out.call z6)
  clear NX
  have NX := Lib.hid NY.out
  clear NY
  obtain ⟨_, b0, b1, b2, b3⟩ := NX.out.bx
  obtain ⟨d0, d1, d2, d3, d4, d5, d6⟩ := NX.out.bf.cells
  obtain ⟨lx, lf, lr⟩ := NX.out.facts
  have fzf := NX.out.bf.free
  have fzr := NX.out.br.free
  obtain ⟨r0, r1, r2, r3, r4, r5, r6⟩ := NX.out.br.cells
  try simp only at d0 d1 d2 d3 d4 d5 d6
  skip
  go_wp2_with fail
  refine (rend_any ⟨o, 3, q, v, x, y, s⟩ 4 0 _).mono ?_
  rintro _ w7 ⟨rfl, z⟩
  clear b0 b1 b2 b3 d0 d1 d2 d3 d4 d5 d6 lx lf lr fzf fzr r0 r1 r2 r3 r4 r5 r6
  have NY := Lib.hid (NX.out.call z)
  have NR2 := Lib.hid (NR.out.below z)
  clear NX
  have NX := Lib.hid NY.out
  clear NY
  clear z
  obtain ⟨_, b0, b1, b2, b3⟩ := NX.out.bx
  obtain ⟨d0, d1, d2, d3, d4, d5, d6⟩ := NX.out.bf.cells
  obtain ⟨lx, lf, lr⟩ := NX.out.facts
  have fzf := NX.out.bf.free
  have fzr := NX.out.br.free
  obtain ⟨r0, r1, r2, r3, r4, r5, r6⟩ := NX.out.br.cells
  try simp only at d0 d1 d2 d3 d4 d5 d6
  go_wp2
  change bodyPost _ _ _ _ _ (pf w7 (w.heap.size + 1 + 1) (ed ⟨o, 3, q, v, x, y, s⟩ 4 0))
  have NB := NX.out.back (ed ⟨o, 3, q, v, x, y, s⟩ 4 0)
  refine bodyPost_ret (results_fr Try.results31 _ rfl NB.1) rfl ?_
  exact ⟨A9, c9, rfl, .inr (NR2.out.pfO HG.out (by omega) _), NB.2⟩
set_option maxRecDepth 100000 in
theorem rsteal_u {W D J S : Int} {A : Option Addr} {n c : Nat} {l : List Int} {f : Fr} {w : World} (h : Rd w A l) (hn : l.length = n) (hs : n ≤ 500) (hu : UM l) (hf : UF f) {l' : List Int} {f' : Fr} (e : stealS W D J S l f = (l', f')) :
    Calls Try.prog 31 #[cf W D J S, .slice A n c, fv f] w (RetU w A l n l' f') := by
  cases hg : goes W D J S l f 2 4
  · have e2 : stealS W D J S l f = (l, f) := by unfold stealS; rw [hg]; rfl
    rw [e2] at e
    injection e with e3 e4
    subst e3 e4
    obtain ⟨o, p, q, v, x, y, s⟩ := f
    exact rsteal_leave W D J S o p q v x y s A n c l w h hn hg
  · obtain ⟨hk, hr, ho, h0, h7⟩ := goes_iff.1 hg
    obtain ⟨hm, hlen, hq0, hqW⟩ := okw_iff.1 hk
    obtain ⟨hW, hD, hJ, hS⟩ := may_lim hm
    have hge := bg_ge (J := J) hD.1 hJ.1 hq0
    have hst := bg_step (J := J) hD.1 hqW
    have e0 : ow W D J S f.who 0 = bg D J f.who := by rw [ow_ok hk, Int.add_zero]
    have e1 := ow_ok hk 1
    have e3 := sl_ok hk f.y
    unfold stealS at e
    rw [if_pos hg] at e
    obtain ⟨o, p, q, v, x, y, s⟩ := f
    simp only at hr ho h0 h7 e hk e0 e1 e3 hq0 hqW hge hst
    subst hr ho
    have hp : p = 0 ∨ p = 1 ∨ p = 2 ∨ p = 3 := by omega
    rcases hp with rfl | rfl | rfl | rfl
    · rw [if_pos rfl] at e
      injection e with e4 e5
      subst e4 e5
      exact RetU.of (rsteal_0 W D J S 2 q v x y 0 A n c l w h hn hs hg) rfl (by rw [e0])
    · rw [if_neg (by decide), if_pos rfl] at e
      have ut : U (at0 l (ow W D J S q 1)) := at0_U hu _
      by_cases hd : far (at0 l (bg D J q + 1)) y ≤ 0
      · rw [if_pos hd] at e
        injection e with e4 e5
        subst e4 e5
        exact RetU.of (rsteal_1t W D J S 2 q v x y 0 A n c l w h hn hs hg (by rw [e1]; exact decide_eq_true hd) hf.2.2 ut) rfl rfl
      · rw [if_neg hd] at e
        injection e with e4 e5
        subst e4 e5
        exact RetU.of (rsteal_1f W D J S 2 q v x y 0 A n c l w h hn hs hg (by rw [e1]; exact decide_eq_false hd) hf.2.2 ut) rfl (by rw [e1])
    · rw [if_neg (by decide), if_neg (by decide), if_pos rfl] at e
      injection e with e4 e5
      subst e4 e5
      exact RetU.of (rsteal_2 W D J S 2 q v x y 0 A n c l w h hn hs hg hf.2.2) rfl (by rw [e3])
    · rw [if_neg (by decide), if_neg (by decide), if_neg (by decide)] at e
      have ei : isAt l (ow W D J S q 0) y = decide (at0 l (bg D J q) = y) := by rw [e0]; exact isAt_at0 (by omega) (by omega)
      by_cases hd : at0 l (bg D J q) = y
      · rw [if_pos hd] at e
        rw [decide_eq_true hd] at ei
        injection e with e4 e5
        subst e4 e5
        exact RetU.of (rsteal_3y W D J S 2 q v x y 0 A n c l w h hn hs hg _ ei (by rw [if_pos ei, e0])) rfl rfl
      · rw [if_neg hd] at e
        rw [decide_eq_false hd] at ei
        injection e with e4 e5
        subst e4 e5
        exact RetU.of (rsteal_3n W D J S 2 q v x y 0 A n c l w h hn hs hg _ ei (by rw [if_neg (by simp [ei])])) rfl rfl
set_option maxRecDepth 100000 in
theorem rsteal_any {W D J S : Int} {A : Option Addr} {n c : Nat} {l : List Int} {f : Fr} {w : World} (h : Rd w A l) (hn : l.length = n) (hs : n ≤ 500) (hu : UM l) (hf : UF f) {l' : List Int} {f' : Fr} (e : stealS W D J S l f = (l', f')) :
    Calls Try.prog 31 #[cf W D J S, .slice A n c, fv f] w (RetT w n l' f') :=
  (rsteal_u h hn hs hu hf e).mono fun _ _ h2 => h2.t h
end Go.Proofs.Ytpeaahihjeplmaa
