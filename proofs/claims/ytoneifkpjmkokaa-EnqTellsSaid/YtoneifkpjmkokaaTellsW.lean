/- The walk of EnqTells. -/
import Derived.Test.YtoneifkpjmkokaaEnF
import Derived.Test.YtoneifkpjmkokaaEnG
import Derived.Test.YtoneifkpjmkokaaPuL
import Derived.Test.YtoneifkpjmkokaaFrH2
import Derived.Deep.RegionHeld3
namespace Go.Proofs.Ytoneifkpjmkokaa
open Go.RowKit Go.Deep
attribute [local go_sem ↓] eql_fr guard_fr
theorem tells_big (W D J S : Int) (A : Option Addr) (n c : Nat) (f : Fr) (op : Int) (w : World) (hn : 500 < n) : Tells 3 #[cf W D J S, .slice A n c, fv f, .int .i64 op] w (.bool true) := by
  obtain ⟨o, p, q, v, x, y, s⟩ := f
  have hd : decide ((500 : Int) < (n : Int)) = true := decide_eq_true (by omega)
  obtain ⟨BX0, BF0, Z0, hz⟩ := boxes2 w W D J S ⟨o, p, q, v, x, y, s⟩
  go_enter Try.func3, Try.ntmps3
  go_wp2_with fail
  change Calls _ _ _ (bxc w W D J S ⟨o, p, q, v, x, y, s⟩) _
  generalize bxc w W D J S ⟨o, p, q, v, x, y, s⟩ = w0 at BX0 BF0 Z0 hz ⊢
  refine (awake_any _).mono ?_
  rintro _ w1 ⟨rfl, z⟩
  have Z := Lib.hid (Z0.trans (z.mono (by omega)))
  have BX := Lib.hid (BX0.below z)
  have BF := Lib.hid (BF0.after z)
  have HZ0 := Lib.hid (show w.heap.size ≤ w0.heap.size by omega)
  clear z Z0 BX0 BF0 hz HZ0
  obtain ⟨gx, x_0, x_1, x_2, x_3⟩ := BX.out
  obtain ⟨a0, a1, a2, a3, a4, a5, a6⟩ := BF.out.cells
  have la := BF.out.lt
  simp only at a0 a1 a2 a3 a4 a5 a6
  go_wp2
  go_ret
  exact ⟨rfl, Z.out⟩
set_option maxHeartbeats 4000000 in
theorem tells_main (W D J S : Int) (A : Option Addr) (n c : Nat) (m : List Int) (f : Fr) (op : Int) (w : World) (hm : Rd w A m) (hn : m.length = n) (hs : n ≤ 500) (hu : UM m) (hf : UF f) : Tells 3 #[cf W D J S, .slice A n c, fv f, .int .i64 op] w (.bool true) := by
  have hlen2 := (enqS_len W D J S m f).trans hn
  obtain ⟨l', f', hP⟩ : ∃ l' f', enqS W D J S m f = (l', f') := ⟨_, _, rfl⟩
  rw [hP] at hlen2
  simp only at hlen2
  obtain ⟨o, p, q, v, x, y, s⟩ := f
  obtain ⟨b, hb⟩ : ∃ b, goesE W D J S m ⟨o, p, q, v, x, y, s⟩ op = b := ⟨_, rfl⟩
  obtain ⟨k, hk⟩ : ∃ k, ilen W D J S m = k := ⟨_, rfl⟩
  have hd : decide ((500 : Int) < (n : Int)) = false := decide_eq_false (by omega)
  have HP := Lib.hid hP
  have HN := Lib.hid hn
  have HU := Lib.hid hf
  have HUM := Lib.hid hu
  have HS := Lib.hid hs
  have HL2 := Lib.hid hlen2
  have HG := Lib.hid hb
  have HK0 := Lib.hid hk
  have LM0 := Lib.hid hm
  clear hP hn hf hu hs hlen2 hb hk hm
  obtain ⟨BX0, BF0, Z0, hz⟩ := boxes2 w W D J S ⟨o, p, q, v, x, y, s⟩
  go_enter Try.func3, Try.ntmps3
  go_wp2_with fail
  change Calls _ _ _ (bxc w W D J S ⟨o, p, q, v, x, y, s⟩) _
  generalize bxc w W D J S ⟨o, p, q, v, x, y, s⟩ = w0 at BX0 BF0 Z0 hz ⊢
  refine (awake_any _).mono ?_
  rintro _ w1 ⟨rfl, z⟩
  have Z := Lib.hid (Z0.trans (z.mono (by omega)))
  have BX := Lib.hid (BX0.below z)
  have BF := Lib.hid (BF0.after z)
  have HZ0 := Lib.hid (show w.heap.size ≤ w0.heap.size by omega)
  have LM := Lib.hid (LM0.out.below Z.out)
  clear LM0
  clear z Z0 BX0 BF0 hz HZ0
  obtain ⟨gx, x_0, x_1, x_2, x_3⟩ := BX.out
  obtain ⟨a0, a1, a2, a3, a4, a5, a6⟩ := BF.out.cells
  have la := BF.out.lt
  simp only at a0 a1 a2 a3 a4 a5 a6
  go_wp2_with fail
  refine (enq_n LM.out HN.out HS.out HU.out HP.out).mono ?_
  rintro _ w2 ⟨A2, c2, rfl, hn2, z⟩
  clear gx x_0 x_1 x_2 x_3 a0 a1 a2 a3 a4 a5 a6 la
  replace Z := Lib.hid (Z.out.trans (z.mono Z.out.size))
  replace BX := Lib.hid (BX.out.below z)
  replace BF := Lib.hid (BF.out.after z)
  replace LM := Lib.hid (LM.out.below z)
  have LA := Lib.hid hn2.rd
  clear hn2 z
  obtain ⟨gx, x_0, x_1, x_2, x_3⟩ := BX.out
  obtain ⟨a0, a1, a2, a3, a4, a5, a6⟩ := BF.out.cells
  have la := BF.out.lt
  simp only at a0 a1 a2 a3 a4 a5 a6
  go_wp2_with fail
  refine (rst_n (LM.out.alloc _) HN.out HS.out HU.out HUM.out HP.out).mono ?_
  rintro _ w3 ⟨A3, c3, rfl, hn3, z⟩
  clear gx x_0 x_1 x_2 x_3 a0 a1 a2 a3 a4 a5 a6 la
  have BG := Lib.hid ((Bf.new w2 f').after z)
  replace z := keep_call z (bel_alloc w2 _)
  replace Z := Lib.hid (Z.out.trans (z.mono Z.out.size))
  replace BX := Lib.hid (BX.out.below z)
  replace BF := Lib.hid (BF.out.after z)
  replace LM := Lib.hid (LM.out.below z)
  replace LA := Lib.hid (LA.out.below z)
  have LB := Lib.hid hn3
  clear hn3 z
  go_wp2_with fail
  refine (rsame_eq2 (l := l') (LA.out.alloc _) (LB.out.alloc _) HL2.out HS.out).mono ?_
  rintro _ w4 ⟨rfl, z⟩
  have BH := Lib.hid ((Bf.new w3 f').after z)
  replace z := keep_call z (bel_alloc w3 _)
  replace Z := Lib.hid (Z.out.trans (z.mono Z.out.size))
  replace BX := Lib.hid (BX.out.below z)
  replace BF := Lib.hid (BF.out.after z)
  replace LM := Lib.hid (LM.out.below z)
  replace LA := Lib.hid (LA.out.below z)
  replace BG := Lib.hid (BG.out.after z)
  replace LB := Lib.hid (LB.out.below z)
  clear z
  obtain ⟨gx, x_0, x_1, x_2, x_3⟩ := BX.out
  obtain ⟨a0, a1, a2, a3, a4, a5, a6⟩ := BF.out.cells
  have la := BF.out.lt
  simp only at a0 a1 a2 a3 a4 a5 a6
  go_wp2_with fail
  refine (Tells.of (rgo_any W D J S op A n c m ⟨o, p, q, v, x, y, s⟩ _ HN.out) (v' := .bool b) (by rw [HG.out])).mono ?_
  rintro _ w5 ⟨rfl, z⟩
  clear gx x_0 x_1 x_2 x_3 a0 a1 a2 a3 a4 a5 a6 la
  replace Z := Lib.hid (Z.out.trans (z.mono Z.out.size))
  replace BX := Lib.hid (BX.out.below z)
  replace BF := Lib.hid (BF.out.after z)
  replace LM := Lib.hid (LM.out.below z)
  replace LA := Lib.hid (LA.out.below z)
  replace BG := Lib.hid (BG.out.after z)
  replace LB := Lib.hid (LB.out.below z)
  replace BH := Lib.hid (BH.out.after z)
  clear z
  have HK := Lib.hid (show ∀ x', Below w5.heap.size w5 x' → (fun w' => w'.cell? ⟨w.heap.size, 0, none⟩ = some (.int .i64 W) ∧ w'.cell? ⟨w.heap.size, 1, none⟩ = some (.int .i64 D) ∧ w'.cell? ⟨w.heap.size, 2, none⟩ = some (.int .i64 J) ∧ w'.cell? ⟨w.heap.size, 3, none⟩ = some (.int .i64 S) ∧ w'.cell? ⟨w.heap.size + 1, 0, none⟩ = some (.int .i64 o) ∧ w'.cell? ⟨w.heap.size + 1, 1, none⟩ = some (.int .i64 p) ∧ w'.cell? ⟨w.heap.size + 1, 2, none⟩ = some (.int .i64 q) ∧ w'.cell? ⟨w.heap.size + 1, 3, none⟩ = some (.int .u64 v) ∧ w'.cell? ⟨w.heap.size + 1, 4, none⟩ = some (.int .u64 x) ∧ w'.cell? ⟨w.heap.size + 1, 5, none⟩ = some (.int .u64 y) ∧ w'.cell? ⟨w.heap.size + 1, 6, none⟩ = some (.int .i64 s) ∧ w'.cell? ⟨w2.heap.size, 0, none⟩ = some (.int .i64 f'.op) ∧ w'.cell? ⟨w2.heap.size, 1, none⟩ = some (.int .i64 f'.pc) ∧ w'.cell? ⟨w2.heap.size, 2, none⟩ = some (.int .i64 f'.who) ∧ w'.cell? ⟨w2.heap.size, 3, none⟩ = some (.int .u64 f'.val) ∧ w'.cell? ⟨w2.heap.size, 4, none⟩ = some (.int .u64 f'.x) ∧ w'.cell? ⟨w2.heap.size, 5, none⟩ = some (.int .u64 f'.y) ∧ w'.cell? ⟨w2.heap.size, 6, none⟩ = some (.int .i64 f'.res) ∧ w'.cell? ⟨w3.heap.size, 0, none⟩ = some (.int .i64 f'.op) ∧ w'.cell? ⟨w3.heap.size, 1, none⟩ = some (.int .i64 f'.pc) ∧ w'.cell? ⟨w3.heap.size, 2, none⟩ = some (.int .i64 f'.who) ∧ w'.cell? ⟨w3.heap.size, 3, none⟩ = some (.int .u64 f'.val) ∧ w'.cell? ⟨w3.heap.size, 4, none⟩ = some (.int .u64 f'.x) ∧ w'.cell? ⟨w3.heap.size, 5, none⟩ = some (.int .u64 f'.y) ∧ w'.cell? ⟨w3.heap.size, 6, none⟩ = some (.int .i64 f'.res) ∧ Below w5.heap.size w5 w') x' from fun x' hx => by
    obtain ⟨_, e0, e1, e2, e3⟩ := BX.out.below hx
    obtain ⟨f0, f1, f2, f3, f4, f5, f6⟩ := (BF.out.after hx).cells
    obtain ⟨g0, g1, g2, g3, g4, g5, g6⟩ := (BG.out.after hx).cells
    obtain ⟨h0, h1, h2, h3, h4, h5, h6⟩ := (BH.out.after hx).cells
    exact ⟨e0, e1, e2, e3, f0, f1, f2, f3, f4, f5, f6, g0, g1, g2, g3, g4, g5, g6, h0, h1, h2, h3, h4, h5, h6, hx⟩)
  have HLM := Lib.hid (show ∀ x', (fun w' => w'.cell? ⟨w.heap.size, 0, none⟩ = some (.int .i64 W) ∧ w'.cell? ⟨w.heap.size, 1, none⟩ = some (.int .i64 D) ∧ w'.cell? ⟨w.heap.size, 2, none⟩ = some (.int .i64 J) ∧ w'.cell? ⟨w.heap.size, 3, none⟩ = some (.int .i64 S) ∧ w'.cell? ⟨w.heap.size + 1, 0, none⟩ = some (.int .i64 o) ∧ w'.cell? ⟨w.heap.size + 1, 1, none⟩ = some (.int .i64 p) ∧ w'.cell? ⟨w.heap.size + 1, 2, none⟩ = some (.int .i64 q) ∧ w'.cell? ⟨w.heap.size + 1, 3, none⟩ = some (.int .u64 v) ∧ w'.cell? ⟨w.heap.size + 1, 4, none⟩ = some (.int .u64 x) ∧ w'.cell? ⟨w.heap.size + 1, 5, none⟩ = some (.int .u64 y) ∧ w'.cell? ⟨w.heap.size + 1, 6, none⟩ = some (.int .i64 s) ∧ w'.cell? ⟨w2.heap.size, 0, none⟩ = some (.int .i64 f'.op) ∧ w'.cell? ⟨w2.heap.size, 1, none⟩ = some (.int .i64 f'.pc) ∧ w'.cell? ⟨w2.heap.size, 2, none⟩ = some (.int .i64 f'.who) ∧ w'.cell? ⟨w2.heap.size, 3, none⟩ = some (.int .u64 f'.val) ∧ w'.cell? ⟨w2.heap.size, 4, none⟩ = some (.int .u64 f'.x) ∧ w'.cell? ⟨w2.heap.size, 5, none⟩ = some (.int .u64 f'.y) ∧ w'.cell? ⟨w2.heap.size, 6, none⟩ = some (.int .i64 f'.res) ∧ w'.cell? ⟨w3.heap.size, 0, none⟩ = some (.int .i64 f'.op) ∧ w'.cell? ⟨w3.heap.size, 1, none⟩ = some (.int .i64 f'.pc) ∧ w'.cell? ⟨w3.heap.size, 2, none⟩ = some (.int .i64 f'.who) ∧ w'.cell? ⟨w3.heap.size, 3, none⟩ = some (.int .u64 f'.val) ∧ w'.cell? ⟨w3.heap.size, 4, none⟩ = some (.int .u64 f'.x) ∧ w'.cell? ⟨w3.heap.size, 5, none⟩ = some (.int .u64 f'.y) ∧ w'.cell? ⟨w3.heap.size, 6, none⟩ = some (.int .i64 f'.res) ∧ Below w5.heap.size w5 w') x' → Rd x' A m from fun x' hx => LM.out.below hx.2.2.2.2.2.2.2.2.2.2.2.2.2.2.2.2.2.2.2.2.2.2.2.2.2)
  have HZ := Lib.hid (show ∀ x', (fun w' => w'.cell? ⟨w.heap.size, 0, none⟩ = some (.int .i64 W) ∧ w'.cell? ⟨w.heap.size, 1, none⟩ = some (.int .i64 D) ∧ w'.cell? ⟨w.heap.size, 2, none⟩ = some (.int .i64 J) ∧ w'.cell? ⟨w.heap.size, 3, none⟩ = some (.int .i64 S) ∧ w'.cell? ⟨w.heap.size + 1, 0, none⟩ = some (.int .i64 o) ∧ w'.cell? ⟨w.heap.size + 1, 1, none⟩ = some (.int .i64 p) ∧ w'.cell? ⟨w.heap.size + 1, 2, none⟩ = some (.int .i64 q) ∧ w'.cell? ⟨w.heap.size + 1, 3, none⟩ = some (.int .u64 v) ∧ w'.cell? ⟨w.heap.size + 1, 4, none⟩ = some (.int .u64 x) ∧ w'.cell? ⟨w.heap.size + 1, 5, none⟩ = some (.int .u64 y) ∧ w'.cell? ⟨w.heap.size + 1, 6, none⟩ = some (.int .i64 s) ∧ w'.cell? ⟨w2.heap.size, 0, none⟩ = some (.int .i64 f'.op) ∧ w'.cell? ⟨w2.heap.size, 1, none⟩ = some (.int .i64 f'.pc) ∧ w'.cell? ⟨w2.heap.size, 2, none⟩ = some (.int .i64 f'.who) ∧ w'.cell? ⟨w2.heap.size, 3, none⟩ = some (.int .u64 f'.val) ∧ w'.cell? ⟨w2.heap.size, 4, none⟩ = some (.int .u64 f'.x) ∧ w'.cell? ⟨w2.heap.size, 5, none⟩ = some (.int .u64 f'.y) ∧ w'.cell? ⟨w2.heap.size, 6, none⟩ = some (.int .i64 f'.res) ∧ w'.cell? ⟨w3.heap.size, 0, none⟩ = some (.int .i64 f'.op) ∧ w'.cell? ⟨w3.heap.size, 1, none⟩ = some (.int .i64 f'.pc) ∧ w'.cell? ⟨w3.heap.size, 2, none⟩ = some (.int .i64 f'.who) ∧ w'.cell? ⟨w3.heap.size, 3, none⟩ = some (.int .u64 f'.val) ∧ w'.cell? ⟨w3.heap.size, 4, none⟩ = some (.int .u64 f'.x) ∧ w'.cell? ⟨w3.heap.size, 5, none⟩ = some (.int .u64 f'.y) ∧ w'.cell? ⟨w3.heap.size, 6, none⟩ = some (.int .i64 f'.res) ∧ Below w5.heap.size w5 w') x' → Below w.heap.size w x' from fun x' hx => Z.out.trans (hx.2.2.2.2.2.2.2.2.2.2.2.2.2.2.2.2.2.2.2.2.2.2.2.2.2.mono Z.out.size))
  have hHeld0 := HK.out _ (Below.refl _ _)
  have hbb : (b == b) = true := by simp
  have hkk : (k == k) = true := by simp
  go_wp2_with fail
  refine wp_region_held_drew (S := fun w' => w'.cell? ⟨w.heap.size, 0, none⟩ = some (.int .i64 W) ∧ w'.cell? ⟨w.heap.size, 1, none⟩ = some (.int .i64 D) ∧ w'.cell? ⟨w.heap.size, 2, none⟩ = some (.int .i64 J) ∧ w'.cell? ⟨w.heap.size, 3, none⟩ = some (.int .i64 S) ∧ w'.cell? ⟨w.heap.size + 1, 0, none⟩ = some (.int .i64 o) ∧ w'.cell? ⟨w.heap.size + 1, 1, none⟩ = some (.int .i64 p) ∧ w'.cell? ⟨w.heap.size + 1, 2, none⟩ = some (.int .i64 q) ∧ w'.cell? ⟨w.heap.size + 1, 3, none⟩ = some (.int .u64 v) ∧ w'.cell? ⟨w.heap.size + 1, 4, none⟩ = some (.int .u64 x) ∧ w'.cell? ⟨w.heap.size + 1, 5, none⟩ = some (.int .u64 y) ∧ w'.cell? ⟨w.heap.size + 1, 6, none⟩ = some (.int .i64 s) ∧ w'.cell? ⟨w2.heap.size, 0, none⟩ = some (.int .i64 f'.op) ∧ w'.cell? ⟨w2.heap.size, 1, none⟩ = some (.int .i64 f'.pc) ∧ w'.cell? ⟨w2.heap.size, 2, none⟩ = some (.int .i64 f'.who) ∧ w'.cell? ⟨w2.heap.size, 3, none⟩ = some (.int .u64 f'.val) ∧ w'.cell? ⟨w2.heap.size, 4, none⟩ = some (.int .u64 f'.x) ∧ w'.cell? ⟨w2.heap.size, 5, none⟩ = some (.int .u64 f'.y) ∧ w'.cell? ⟨w2.heap.size, 6, none⟩ = some (.int .i64 f'.res) ∧ w'.cell? ⟨w3.heap.size, 0, none⟩ = some (.int .i64 f'.op) ∧ w'.cell? ⟨w3.heap.size, 1, none⟩ = some (.int .i64 f'.pc) ∧ w'.cell? ⟨w3.heap.size, 2, none⟩ = some (.int .i64 f'.who) ∧ w'.cell? ⟨w3.heap.size, 3, none⟩ = some (.int .u64 f'.val) ∧ w'.cell? ⟨w3.heap.size, 4, none⟩ = some (.int .u64 f'.x) ∧ w'.cell? ⟨w3.heap.size, 5, none⟩ = some (.int .u64 f'.y) ∧ w'.cell? ⟨w3.heap.size, 6, none⟩ = some (.int .i64 f'.res) ∧ Below w5.heap.size w5 w') (by kernel_rfl) (held_drew HK.out (fun _ h => h.2.2.2.2.2.2.2.2.2.2.2.2.2.2.2.2.2.2.2.2.2.2.2.2.2) hHeld0) (fun hHeld => ?_)
  refine wpAnyH_take (i := 0) (oi := { dst := some 47, op := Go.Op.move (Go.Operand.tmp 14), type := 4, pos := "law.go:37", after := #[], guard := none }) (v := ?vt1) rfl (by kernel_rfl) (by kernel_rfl) (by kernel_rfl) (fun _ _ _ h => h) (Or.inl ⟨by rfl, ?yt1⟩) (by assumption) ?rt1
  case yt1 => (intro w hSw; (try dsimp only at hSw); go_simp; (try with_reducible rfl))
  (try simp only [Act.put, List.setIfInBounds_toArray, List.set_cons_zero, List.set_cons_succ])
  refine wpAnyH_take (i := 1) (oi := { dst := some 48, op := Go.Op.move (Go.Operand.tmp 47), type := 4, pos := "law.go:37", after := #[{ on := 0, ground := Go.Ground.data }], guard := none }) (v := ?vt2) rfl (by kernel_rfl) (by kernel_rfl) (by kernel_rfl) (fun _ _ _ h => h) (Or.inl ⟨by rfl, ?yt2⟩) (by assumption) ?rt2
  case yt2 => (intro w hSw; (try dsimp only at hSw); go_simp; (try with_reducible rfl))
  (try simp only [Act.put, List.setIfInBounds_toArray, List.set_cons_zero, List.set_cons_succ])
  refine wpAnyH_take (i := 2) (oi := { dst := some 49, op := Go.Op.load 28 (Go.Operand.tmp 11), type := 28, pos := "law.go:37", after := #[{ on := 1, ground := Go.Ground.guard }], guard := some (1, true) }) (v := ?vt3) rfl (by kernel_rfl) (by kernel_rfl) (by kernel_rfl) (fun _ _ _ h => h) (Or.inl ⟨by rfl, ?yt3⟩) (by assumption) ?rt3
  case yt3 => (intro w hSw; (try dsimp only at hSw); go_simp; (try with_reducible rfl))
  (try simp only [Act.put, List.setIfInBounds_toArray, List.set_cons_zero, List.set_cons_succ])
  refine wpAnyH_take (i := 3) (oi := { dst := some 50, op := Go.Op.load 28 (Go.Operand.tmp 13), type := 28, pos := "law.go:37", after := #[{ on := 1, ground := Go.Ground.guard }], guard := some (1, true) }) (v := ?vt4) rfl (by kernel_rfl) (by kernel_rfl) (by kernel_rfl) (fun _ _ _ h => h) (Or.inl ⟨by rfl, ?yt4⟩) (by assumption) ?rt4
  case yt4 => (intro w hSw; (try dsimp only at hSw); go_simp; (try with_reducible rfl))
  (try simp only [Act.put, List.setIfInBounds_toArray, List.set_cons_zero, List.set_cons_succ])
  refine wpAnyH_take (i := 4) (oi := { dst := some 51, op := Go.Op.binOp Go.BinOp.eql 28 (Go.Operand.tmp 49) (Go.Operand.tmp 50) 28, type := 4, pos := "law.go:37", after := #[{ on := 2, ground := Go.Ground.data }, { on := 3, ground := Go.Ground.data }, { on := 1, ground := Go.Ground.guard }], guard := some (1, true) }) (v := ?vt5) rfl (by kernel_rfl) (by kernel_rfl) (by kernel_rfl) (fun _ _ _ h => h) (Or.inl ⟨by rfl, ?yt5⟩) (by assumption) ?rt5
  case yt5 => (intro w hSw; (try dsimp only at hSw); go_simp; (try with_reducible rfl))
  (try simp only [Act.put, List.setIfInBounds_toArray, List.set_cons_zero, List.set_cons_succ])
  refine wpAnyH_take (i := 5) (oi := { dst := some 52, op := Go.Op.pick (Go.Operand.tmp 48) (Go.Operand.tmp 51) (Go.Operand.const (Go.Value.bool false)), type := 4, pos := "law.go:37", after := #[{ on := 1, ground := Go.Ground.data }, { on := 4, ground := Go.Ground.data }], guard := none }) (v := ?vt6) rfl (by kernel_rfl) (by kernel_rfl) (by kernel_rfl) (fun _ _ _ h => h) (Or.inl ⟨by rfl, ?yt6⟩) (by assumption) ?rt6
  case yt6 => (intro w hSw; (try dsimp only at hSw); go_simp; (try with_reducible rfl))
  (try simp only [Act.put, List.setIfInBounds_toArray, List.set_cons_zero, List.set_cons_succ])
  refine wpAnyH_take (i := 6) (oi := { dst := some 53, op := Go.Op.move (Go.Operand.tmp 52), type := 4, pos := "law.go:37", after := #[{ on := 5, ground := Go.Ground.data }, { on := 1, ground := Go.Ground.chain }], guard := none }) (v := ?vt7) rfl (by kernel_rfl) (by kernel_rfl) (by kernel_rfl) (fun _ _ _ h => h) (Or.inl ⟨by rfl, ?yt7⟩) (by assumption) ?rt7
  case yt7 => (intro w hSw; (try dsimp only at hSw); go_simp; (try with_reducible rfl))
  (try simp only [Act.put, List.setIfInBounds_toArray, List.set_cons_zero, List.set_cons_succ])
  refine wpAnyH_take (i := 7) (oi := { dst := some 54, op := Go.Op.load 23 (Go.Operand.tmp 4), type := 23, pos := "law.go:37", after := #[{ on := 6, ground := Go.Ground.guard }], guard := some (6, true) }) (v := ?vt8) rfl (by kernel_rfl) (by kernel_rfl) (by kernel_rfl) (fun _ _ _ h => h) (Or.inl ⟨by rfl, ?yt8⟩) (by assumption) ?rt8
  case yt8 => (intro w hSw; (try dsimp only at hSw); go_simp; (try with_reducible rfl))
  (try simp only [Act.put, List.setIfInBounds_toArray, List.set_cons_zero, List.set_cons_succ])
  refine wpAnyH_take (i := 8) (oi := { dst := some 55, op := Go.Op.move (Go.Operand.tmp 1), type := 25, pos := "law.go:37", after := #[{ on := 6, ground := Go.Ground.guard }], guard := some (6, true) }) (v := ?vt9) rfl (by kernel_rfl) (by kernel_rfl) (by kernel_rfl) (fun _ _ _ h => h) (Or.inl ⟨by rfl, ?yt9⟩) (by assumption) ?rt9
  case yt9 => (intro w hSw; (try dsimp only at hSw); go_simp; (try with_reducible rfl))
  (try simp only [Act.put, List.setIfInBounds_toArray, List.set_cons_zero, List.set_cons_succ])
  refine wpAnyH_take (i := 9) (oi := { dst := some 56, op := Go.Op.load 28 (Go.Operand.tmp 6), type := 28, pos := "law.go:37", after := #[{ on := 6, ground := Go.Ground.guard }], guard := some (6, true) }) (v := ?vt10) rfl (by kernel_rfl) (by kernel_rfl) (by kernel_rfl) (fun _ _ _ h => h) (Or.inl ⟨by rfl, ?yt10⟩) (by assumption) ?rt10
  case yt10 => (intro w hSw; (try dsimp only at hSw); go_simp; (try with_reducible rfl))
  (try simp only [Act.put, List.setIfInBounds_toArray, List.set_cons_zero, List.set_cons_succ])
  refine wpAnyH_take (i := 10) (oi := { dst := some 57, op := Go.Op.move (Go.Operand.tmp 3), type := 3, pos := "law.go:37", after := #[{ on := 6, ground := Go.Ground.guard }], guard := some (6, true) }) (v := ?vt11) rfl (by kernel_rfl) (by kernel_rfl) (by kernel_rfl) (fun _ _ _ h => h) (Or.inl ⟨by rfl, ?yt11⟩) (by assumption) ?rt11
  case yt11 => (intro w hSw; (try dsimp only at hSw); go_simp; (try with_reducible rfl))
  (try simp only [Act.put, List.setIfInBounds_toArray, List.set_cons_zero, List.set_cons_succ])
  refine wpAnyH_take (i := 12) (oi := { dst := some 59, op := Go.Op.move (Go.Operand.tmp 15), type := 4, pos := "law.go:37", after := #[{ on := 6, ground := Go.Ground.guard }], guard := some (6, true) }) (v := ?vt12) rfl (by kernel_rfl) (by kernel_rfl) (by kernel_rfl) (fun _ _ _ h => h) (Or.inl ⟨by rfl, ?yt12⟩) (by assumption) ?rt12
  case yt12 => (intro w hSw; (try dsimp only at hSw); go_simp; (try with_reducible rfl))
  (try simp only [Act.put, List.setIfInBounds_toArray, List.set_cons_zero, List.set_cons_succ])
  refine wpAnyH_ready (rs := [11]) (by kernel_rfl) (by simp) ?_
  refine (AllReadyH.cons (o := { dst := some 58, op := Go.Op.call { callee := Go.Callee.value (Go.Operand.func 14), args := #[Go.Operand.tmp 54, Go.Operand.tmp 55, Go.Operand.tmp 56, Go.Operand.tmp 57], argTypes := #[23, 25, 28, 3] }, type := 4, pos := "law.go:37", after := #[{ on := 7, ground := Go.Ground.data }, { on := 8, ground := Go.Ground.data }, { on := 9, ground := Go.Ground.data }, { on := 10, ground := Go.Ground.data }, { on := 6, ground := Go.Ground.chain }, { on := 6, ground := Go.Ground.guard }], guard := some (6, true) }) rfl (fun K hK => ?_) AllReadyH.nil)
  go_simp
  refine (Tells.of (qgoes_any W D J S op A n c m ⟨o, p, q, v, x, y, s⟩ _ HN.out) (v' := .bool b) (by rw [HG.out])).mono ?_
  rintro e wa ⟨rfl, hb⟩
  go_wp2_with fail
  refine hK.out _ _ (held_call HK.out (fun _ h => h.2.2.2.2.2.2.2.2.2.2.2.2.2.2.2.2.2.2.2.2.2.2.2.2.2) hb hHeld) (fun hHeld2 => ?_)
  clear hK K hHeld
  have hHeld := hHeld2
  clear hHeld2
  (try simp only [Act.put, List.setIfInBounds_toArray, List.set_cons_zero, List.set_cons_succ])
  refine wpAnyH_take (i := 13) (oi := { dst := some 60, op := Go.Op.binOp Go.BinOp.eql 4 (Go.Operand.tmp 58) (Go.Operand.tmp 59) 4, type := 4, pos := "law.go:37", after := #[{ on := 11, ground := Go.Ground.data }, { on := 12, ground := Go.Ground.data }, { on := 6, ground := Go.Ground.guard }], guard := some (6, true) }) (v := ?vt13) rfl (by kernel_rfl) (by kernel_rfl) (by kernel_rfl) (fun _ _ _ h => h) (Or.inl ⟨by rfl, ?yt13⟩) (by assumption) ?rt13
  case yt13 => (intro w hSw; (try dsimp only at hSw); go_simp; (try with_reducible rfl))
  (try simp only [Act.put, List.setIfInBounds_toArray, List.set_cons_zero, List.set_cons_succ])
  refine wpAnyH_take (i := 14) (oi := { dst := some 61, op := Go.Op.pick (Go.Operand.tmp 53) (Go.Operand.tmp 60) (Go.Operand.const (Go.Value.bool false)), type := 4, pos := "law.go:37", after := #[{ on := 6, ground := Go.Ground.data }, { on := 13, ground := Go.Ground.data }], guard := none }) (v := ?vt14) rfl (by kernel_rfl) (by kernel_rfl) (by kernel_rfl) (fun _ _ _ h => h) (Or.inl ⟨by rfl, ?yt14⟩) (by assumption) ?rt14
  case yt14 => (intro w hSw; (try dsimp only at hSw); go_simp; (try with_reducible rfl))
  (try simp only [Act.put, List.setIfInBounds_toArray, List.set_cons_zero, List.set_cons_succ])
  refine wpAnyH_take (i := 15) (oi := { dst := some 62, op := Go.Op.move (Go.Operand.tmp 61), type := 4, pos := "law.go:37", after := #[{ on := 14, ground := Go.Ground.data }, { on := 11, ground := Go.Ground.chain }], guard := none }) (v := ?vt15) rfl (by kernel_rfl) (by kernel_rfl) (by kernel_rfl) (fun _ _ _ h => h) (Or.inl ⟨by rfl, ?yt15⟩) (by assumption) ?rt15
  case yt15 => (intro w hSw; (try dsimp only at hSw); go_simp; (try with_reducible rfl))
  (try simp only [Act.put, List.setIfInBounds_toArray, List.set_cons_zero, List.set_cons_succ])
  refine wpAnyH_take (i := 16) (oi := { dst := some 63, op := Go.Op.load 23 (Go.Operand.tmp 4), type := 23, pos := "law.go:37", after := #[{ on := 15, ground := Go.Ground.guard }], guard := some (15, true) }) (v := ?vt16) rfl (by kernel_rfl) (by kernel_rfl) (by kernel_rfl) (fun _ _ _ h => h) (Or.inl ⟨by rfl, ?yt16⟩) (by assumption) ?rt16
  case yt16 => (intro w hSw; (try dsimp only at hSw); go_simp; (try with_reducible rfl))
  (try simp only [Act.put, List.setIfInBounds_toArray, List.set_cons_zero, List.set_cons_succ])
  refine wpAnyH_take (i := 17) (oi := { dst := some 64, op := Go.Op.move (Go.Operand.tmp 1), type := 25, pos := "law.go:37", after := #[{ on := 15, ground := Go.Ground.guard }], guard := some (15, true) }) (v := ?vt17) rfl (by kernel_rfl) (by kernel_rfl) (by kernel_rfl) (fun _ _ _ h => h) (Or.inl ⟨by rfl, ?yt17⟩) (by assumption) ?rt17
  case yt17 => (intro w hSw; (try dsimp only at hSw); go_simp; (try with_reducible rfl))
  (try simp only [Act.put, List.setIfInBounds_toArray, List.set_cons_zero, List.set_cons_succ])
  refine wpAnyH_take (i := 19) (oi := { dst := some 66, op := Go.Op.load 23 (Go.Operand.tmp 4), type := 23, pos := "law.go:37", after := #[{ on := 15, ground := Go.Ground.guard }], guard := some (15, true) }) (v := ?vt18) rfl (by kernel_rfl) (by kernel_rfl) (by kernel_rfl) (fun _ _ _ h => h) (Or.inl ⟨by rfl, ?yt18⟩) (by assumption) ?rt18
  case yt18 => (intro w hSw; (try dsimp only at hSw); go_simp; (try with_reducible rfl))
  (try simp only [Act.put, List.setIfInBounds_toArray, List.set_cons_zero, List.set_cons_succ])
  refine wpAnyH_take (i := 20) (oi := { dst := some 67, op := Go.Op.move (Go.Operand.tmp 1), type := 25, pos := "law.go:37", after := #[{ on := 15, ground := Go.Ground.guard }], guard := some (15, true) }) (v := ?vt19) rfl (by kernel_rfl) (by kernel_rfl) (by kernel_rfl) (fun _ _ _ h => h) (Or.inl ⟨by rfl, ?yt19⟩) (by assumption) ?rt19
  case yt19 => (intro w hSw; (try dsimp only at hSw); go_simp; (try with_reducible rfl))
  (try simp only [Act.put, List.setIfInBounds_toArray, List.set_cons_zero, List.set_cons_succ])
  refine wpAnyH_ready (rs := [18]) (by kernel_rfl) (by simp) ?_
  refine (AllReadyH.cons (o := { dst := some 65, op := Go.Op.call { callee := Go.Callee.value (Go.Operand.func 15), args := #[Go.Operand.tmp 63, Go.Operand.tmp 64], argTypes := #[23, 25] }, type := 3, pos := "law.go:37", after := #[{ on := 16, ground := Go.Ground.data }, { on := 17, ground := Go.Ground.data }, { on := 15, ground := Go.Ground.chain }, { on := 15, ground := Go.Ground.guard }], guard := some (15, true) }) rfl (fun K hK => ?_) AllReadyH.nil)
  go_simp
  refine (Tells.of (qlen_any W D J S A n c m _ (HLM.out _ hHeld) HN.out HS.out) (v' := .int .i64 k) (by rw [HK0.out])).mono ?_
  rintro e wc ⟨rfl, hb⟩
  go_wp2_with fail
  refine hK.out _ _ (held_call HK.out (fun _ h => h.2.2.2.2.2.2.2.2.2.2.2.2.2.2.2.2.2.2.2.2.2.2.2.2.2) hb hHeld) (fun hHeld2 => ?_)
  clear hK K hHeld
  have hHeld := hHeld2
  clear hHeld2
  (try simp only [Act.put, List.setIfInBounds_toArray, List.set_cons_zero, List.set_cons_succ])
  refine wpAnyH_ready (rs := [21]) (by kernel_rfl) (by simp) ?_
  refine (AllReadyH.cons (o := { dst := some 68, op := Go.Op.call { callee := Go.Callee.value (Go.Operand.func 16), args := #[Go.Operand.tmp 66, Go.Operand.tmp 67], argTypes := #[23, 25] }, type := 3, pos := "law.go:37", after := #[{ on := 19, ground := Go.Ground.data }, { on := 20, ground := Go.Ground.data }, { on := 18, ground := Go.Ground.chain }, { on := 15, ground := Go.Ground.guard }], guard := some (15, true) }) rfl (fun K hK => ?_) AllReadyH.nil)
  go_simp
  refine (Tells.of (rlen_any W D J S A n c m _ (HLM.out _ hHeld) HN.out HUM.out) (v' := .int .i64 k) (by rw [HK0.out])).mono ?_
  rintro e wd ⟨rfl, hb⟩
  go_wp2_with fail
  refine hK.out _ _ (held_call HK.out (fun _ h => h.2.2.2.2.2.2.2.2.2.2.2.2.2.2.2.2.2.2.2.2.2.2.2.2.2) hb hHeld) (fun hHeld2 => ?_)
  clear hK K hHeld
  have hHeld := hHeld2
  clear hHeld2
  (try simp only [Act.put, List.setIfInBounds_toArray, List.set_cons_zero, List.set_cons_succ])
  refine wpAnyH_take (i := 22) (oi := { dst := some 69, op := Go.Op.binOp Go.BinOp.eql 3 (Go.Operand.tmp 65) (Go.Operand.tmp 68) 3, type := 4, pos := "law.go:37", after := #[{ on := 18, ground := Go.Ground.data }, { on := 21, ground := Go.Ground.data }, { on := 15, ground := Go.Ground.guard }], guard := some (15, true) }) (v := ?vt20) rfl (by kernel_rfl) (by kernel_rfl) (by kernel_rfl) (fun _ _ _ h => h) (Or.inl ⟨by rfl, ?yt20⟩) (by assumption) ?rt20
  case yt20 => (intro w hSw; (try dsimp only at hSw); go_simp; (try with_reducible rfl))
  (try simp only [Act.put, List.setIfInBounds_toArray, List.set_cons_zero, List.set_cons_succ])
  refine wpAnyH_take (i := 23) (oi := { dst := some 70, op := Go.Op.pick (Go.Operand.tmp 62) (Go.Operand.tmp 69) (Go.Operand.const (Go.Value.bool false)), type := 4, pos := "law.go:37", after := #[{ on := 15, ground := Go.Ground.data }, { on := 22, ground := Go.Ground.data }], guard := none }) (v := ?vt21) rfl (by kernel_rfl) (by kernel_rfl) (by kernel_rfl) (fun _ _ _ h => h) (Or.inl ⟨by rfl, ?yt21⟩) (by assumption) ?rt21
  case yt21 => (intro w hSw; (try dsimp only at hSw); go_simp; (try with_reducible rfl))
  (try simp only [Act.put, List.setIfInBounds_toArray, List.set_cons_zero, List.set_cons_succ])
  refine wpAnyH_take (i := 24) (oi := { dst := some 8, op := Go.Op.assign (Go.Operand.tmp 70), type := 4, pos := "law.go:37", after := #[{ on := 23, ground := Go.Ground.data }, { on := 21, ground := Go.Ground.chain }, { on := 0, ground := Go.Ground.phase }, { on := 1, ground := Go.Ground.phase }, { on := 2, ground := Go.Ground.phase }, { on := 3, ground := Go.Ground.phase }, { on := 4, ground := Go.Ground.phase }, { on := 5, ground := Go.Ground.phase }, { on := 6, ground := Go.Ground.phase }, { on := 7, ground := Go.Ground.phase }, { on := 8, ground := Go.Ground.phase }, { on := 9, ground := Go.Ground.phase }, { on := 10, ground := Go.Ground.phase }, { on := 11, ground := Go.Ground.phase }, { on := 12, ground := Go.Ground.phase }, { on := 13, ground := Go.Ground.phase }, { on := 14, ground := Go.Ground.phase }, { on := 15, ground := Go.Ground.phase }, { on := 16, ground := Go.Ground.phase }, { on := 17, ground := Go.Ground.phase }, { on := 18, ground := Go.Ground.phase }, { on := 19, ground := Go.Ground.phase }, { on := 20, ground := Go.Ground.phase }, { on := 21, ground := Go.Ground.phase }, { on := 22, ground := Go.Ground.phase }, { on := 23, ground := Go.Ground.phase }], guard := none }) (v := ?vt22) rfl (by kernel_rfl) (by kernel_rfl) (by kernel_rfl) (fun _ _ _ h => h) (Or.inl ⟨by rfl, ?yt22⟩) (by assumption) ?rt22
  case yt22 => (intro w hSw; (try dsimp only at hSw); go_simp; (try with_reducible rfl))
  (try simp only [Act.put, List.setIfInBounds_toArray, List.set_cons_zero, List.set_cons_succ])
  refine wpAnyH_done (by kernel_rfl) ?_ _
  go_wp2
  go_ret
  exact ⟨rfl, HZ.out _ hHeld⟩
theorem tells_walk (W D J S : Int) (A : Option Addr) (n c : Nat) (m : List Int) (f : Fr) (op : Int) (w : World) (hm : Rd w A m) (hn : m.length = n) (hu : UM m) (hf : UF f) : Tells 3 #[cf W D J S, .slice A n c, fv f, .int .i64 op] w (.bool true) := by
  by_cases hs : n ≤ 500
  · exact tells_main W D J S A n c m f op w hm hn hs hu hf
  · exact tells_big W D J S A n c f op w (by omega)
end Go.Proofs.Ytoneifkpjmkokaa
