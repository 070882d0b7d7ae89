/- Contract of poacherlaw17.awake. -/
import Derived.Test.YtobcedlkmnmikaaThK
namespace Go.Proofs.Ytobcedlkmnmikaa.Fo
open Go.RowKit Go.Deep
set_option maxRecDepth 100000 in
theorem eq_act (a b a' b' : Int) (w : World) : (Op.equalIn 10000 31 (.agg #[.int .i64 a, .int .i64 b]) (.agg #[.int .i64 a', .int .i64 b'])).run Try.prog w = .ok (decide ((a, b) = (a', b'))) w := by
  have hst : Try.prog.underlying 31 = some (.struct (Try.prog.fieldsOf 31)) := by kernel_rfl
  have hh : Try.prog.stoodInHeld 31 = false := by kernel_rfl
  have u3 := Try.underlying3
  have a3 := Try.isAgg3
  have z3 := Try.sizeOf3
  rw [show (10000 : Nat) = 9999 + 1 from rfl, run_equalIn_agg w 9999 31 _ _ hst hh]
  simp only [Program.fieldsOf, Try.underlying31]
  go_simp
  by_cases h1 : a = a' <;> by_cases h2 : b = b' <;> simp [h1, h2]
/-- Are two acts the same? -/
def ae (a b a' b' : Int) : Bool := decide ((a, b) = (a', b'))
set_option maxRecDepth 100000 in
theorem ae_yes {a b a' b' : Int} (h : (a, b) = (a', b')) : ae a b a' b' = true := decide_eq_true h
set_option maxRecDepth 100000 in
theorem ae_no {a b a' b' : Int} (h : ¬ (a, b) = (a', b')) : ae a b a' b' = false := decide_eq_false h
set_option maxRecDepth 100000 in
theorem eql_act (a b a' b' : Int) (w : World) : (binOp .eql 31 (.agg #[.int .i64 a, .int .i64 b]) (.agg #[.int .i64 a', .int .i64 b'])).run Try.prog w = .ok (.bool (ae a b a' b')) w := by
  rw [run_eql_struct, eq_act]; rfl
set_option maxRecDepth 100000 in
theorem neq_act (a b a' b' : Int) (w : World) : (binOp .neq 31 (.agg #[.int .i64 a, .int .i64 b]) (.agg #[.int .i64 a', .int .i64 b'])).run Try.prog w = .ok (.bool (!ae a b a' b')) w := by
  rw [run_neq_struct, eq_act]; rfl
set_option maxRecDepth 100000 in
theorem guard_act (op : BinOp) (x y : Operand) (xs ys : Array Value) (w : World) : (eqGuard op 31 x y (.agg xs) (.agg ys)).run Try.prog w = .ok () w := run_eqGuard_agg w op 31 x y xs ys (by kernel_rfl)
attribute [local go_sem ↓] eql_act neq_act guard_act
attribute [local go_sem] field_kind
/-- The chapter's tasks. -/
def ex2 : List Tsk := [(2, [1]), (0, [])]
set_option maxRecDepth 100000 in
theorem ex2_at {W : World} {g : Nat} (h0 : W.heap[g]? = some (.cells #[.int .i64 1] 3 (0, 0))) (h1 : W.heap[g + 1]? = some (.cells #[.int .i64 2, .slice (some ⟨g, 0, none⟩) 1 1, .int .i64 0, .slice none 0 0] 37 (0, 0))) : Tk W.heap.size W (some ⟨g + 1, 0, none⟩) ex2 := fun _ => by
  refine ⟨g + 1, 0, rfl, (Array.getElem?_eq_some_iff.1 h1).1, fun i x hx => ?_⟩
  have hl := (Array.getElem?_eq_some_iff.1 h0).1
  match i, hx with
  | 0, hx =>
    obtain rfl : (2, [1]) = x := by simpa [ex2] using hx
    refine ⟨by simp only [World.cell?, h1]; rfl, some ⟨g, 0, none⟩, 1, by simp only [World.cell?, h1]; rfl, fun _ => ⟨g, 0, rfl, hl, fun j u hu => ?_⟩⟩
    match j, hu with
    | 0, hu =>
      obtain rfl : 1 = u := by simpa using hu
      simp only [World.cell?, h0]; rfl
  | 1, hx =>
    obtain rfl : (0, []) = x := by simpa [ex2] using hx
    exact ⟨by simp only [World.cell?, h1]; rfl, none, 0, by simp only [World.cell?, h1]; rfl, fun h => by simp at h⟩
set_option maxRecDepth 100000 in
theorem ex2_new (w : World) : Tk ((w.alloc (.cells #[.int .i64 1] 3)).alloc (.cells #[.int .i64 2, .slice (some ⟨w.heap.size, 0, none⟩) 1 1, .int .i64 0, .slice none 0 0] 37)).heap.size ((w.alloc (.cells #[.int .i64 1] 3)).alloc (.cells #[.int .i64 2, .slice (some ⟨w.heap.size, 0, none⟩) 1 1, .int .i64 0, .slice none 0 0] 37)) (some ⟨w.heap.size + 1, 0, none⟩) ex2 := by
  refine ex2_at (g := w.heap.size) ?_ ?_
  · rw [Below.heap_alloc _ _ _ (by simp)]; exact heap_alloc_new _ _
  · have := heap_alloc_new (w.alloc (.cells #[.int .i64 1] 3)) (.cells #[.int .i64 2, .slice (some ⟨w.heap.size, 0, none⟩) 1 1, .int .i64 0, .slice none 0 0] 37)
    rwa [show (w.alloc (.cells #[.int .i64 1] 3)).heap.size = w.heap.size + 1 by simp] at this
set_option maxRecDepth 100000 in
theorem ex2_sm : Sm ex2 := by unfold Sm ex2; simp
set_option maxRecDepth 100000 in
theorem ex2_may : may ex2 = true := by decide +kernel
set_option maxHeartbeats 1600000 in
set_option maxRecDepth 100000 in
theorem awake_any (w : World) : Tells 9 #[] w (.bool true) := by
  have ET := Lib.hid (ex2_new w)
  have SM := Lib.hid ex2_sm
  have Z := Lib.hid (((Below.refl w.heap.size w).alloc (Nat.le_refl _) (.cells #[.int .i64 1] 3)).alloc (by simp) (.cells #[.int .i64 2, .slice (some ⟨w.heap.size, 0, none⟩) 1 1, .int .i64 0, .slice none 0 0] 37))
  go_enter Try.func9, Try.ntmps9
  go_upto_region 2 with fail
  generalize (w.alloc (.cells #[.int .i64 1] 3)).alloc (.cells #[.int .i64 2, .slice (some ⟨w.heap.size, 0, none⟩) 1 1, .int .i64 0, .slice none 0 0] 37) = w1 at *
  generalize some (Addr.mk (w.heap.size + 1) 0 none) = A at *
  go_wp2_with fail
  refine (kstart (w := w1) ET.out (Ir.nil _ _ none) SM.out rfl (n := 0) rfl (by decide) (k := [(0, 0, 0)]) (m := 1) (by decide +kernel) rfl).mono ?_
  rintro _ w2 ⟨A1, c1, rfl, h1, _, _, z1⟩
  have H1 := Lib.hid h1
  replace ET := Lib.hid (ET.out.later z1)
  replace Z := Lib.hid (Z.out.trans (z1.mono Z.out.size))
  clear h1 z1
  go_wp2_with fail
  refine (kleft ET.out H1.out SM.out rfl rfl (by decide) (q := 4) (by decide +kernel)).mono ?_
  rintro _ w3 ⟨rfl, z1⟩
  replace ET := Lib.hid (ET.out.later z1)
  replace H1 := Lib.hid (H1.out.later z1)
  replace Z := Lib.hid (Z.out.trans (z1.mono Z.out.size))
  clear z1
  go_wp2_with fail
  refine (knext ET.out H1.out SM.out rfl rfl (by decide) (a := 1) (b := 0) (by decide +kernel)).mono ?_
  rintro _ w4 ⟨rfl, z1⟩
  replace z1 := z1.trans ((bel_new w4 (.cells #[.int .i64 1, .int .i64 0] 31)).mono z1.size)
  have B1 := Lib.hid (Ab.new w4 1 0)
  replace ET := Lib.hid (ET.out.later z1)
  replace H1 := Lib.hid (H1.out.later z1)
  replace Z := Lib.hid (Z.out.trans (z1.mono Z.out.size))
  clear z1
  go_upto_region 5 with fail
  generalize w4.alloc (.cells #[.int .i64 1, .int .i64 0] 31) = w5 at *
  generalize w4.heap.size = g1 at *
  go_wp2_with fail
  refine (kdo ET.out H1.out SM.out rfl rfl (by decide) (k := [(0, 1, 0)]) (m := 1) (by decide +kernel) rfl).mono ?_
  rintro _ w6 ⟨A2, c2, rfl, h1, _, _, z1⟩
  have H2 := Lib.hid h1
  replace ET := Lib.hid (ET.out.later z1)
  replace B1 := Lib.hid (B1.out.below z1 B1.out.lt)
  replace Z := Lib.hid (Z.out.trans (z1.mono Z.out.size))
  clear h1 z1 H1
  go_wp2_with fail
  refine (kdo ET.out H2.out SM.out rfl rfl (by decide) (k := [(0, 2, 0)]) (m := 1) (by decide +kernel) rfl).mono ?_
  rintro _ w7 ⟨A3, c3, rfl, h1, _, _, z1⟩
  have H3 := Lib.hid h1
  replace ET := Lib.hid (ET.out.later z1)
  replace B1 := Lib.hid (B1.out.below z1 B1.out.lt)
  replace Z := Lib.hid (Z.out.trans (z1.mono Z.out.size))
  clear h1 z1 H2
  go_wp2_with fail
  refine (knext ET.out H3.out SM.out rfl rfl (by decide) (a := 2) (b := 1) (by decide +kernel)).mono ?_
  rintro _ w8 ⟨rfl, z1⟩
  replace B1 := Lib.hid ((B1.out.below z1 B1.out.lt).alloc (.cells #[.int .i64 2, .int .i64 1] 31))
  replace z1 := z1.trans ((bel_new w8 (.cells #[.int .i64 2, .int .i64 1] 31)).mono z1.size)
  have B2 := Lib.hid (Ab.new w8 2 1)
  replace ET := Lib.hid (ET.out.later z1)
  replace H3 := Lib.hid (H3.out.later z1)
  replace Z := Lib.hid (Z.out.trans (z1.mono Z.out.size))
  clear z1
  go_upto_region 7 with fail
  generalize w8.alloc (.cells #[.int .i64 2, .int .i64 1] 31) = w9 at *
  generalize w8.heap.size = g2 at *
  go_wp2_with fail
  refine (kdo ET.out H3.out SM.out rfl rfl (by decide) (k := [(0, 2, 1)]) (m := 1) (by decide +kernel) rfl).mono ?_
  rintro _ w10 ⟨A4, c4, rfl, h1, _, _, z1⟩
  have H4 := Lib.hid h1
  replace ET := Lib.hid (ET.out.later z1)
  replace B1 := Lib.hid (B1.out.below z1 B1.out.lt)
  replace B2 := Lib.hid (B2.out.below z1 B2.out.lt)
  replace Z := Lib.hid (Z.out.trans (z1.mono Z.out.size))
  clear h1 z1 H3
  go_wp2_with fail
  refine (knext ET.out H4.out SM.out rfl rfl (by decide) (a := 3) (b := 0) (by decide +kernel)).mono ?_
  rintro _ w11 ⟨rfl, z1⟩
  replace B1 := Lib.hid ((B1.out.below z1 B1.out.lt).alloc (.cells #[.int .i64 3, .int .i64 0] 31))
  replace B2 := Lib.hid ((B2.out.below z1 B2.out.lt).alloc (.cells #[.int .i64 3, .int .i64 0] 31))
  replace z1 := z1.trans ((bel_new w11 (.cells #[.int .i64 3, .int .i64 0] 31)).mono z1.size)
  have B3 := Lib.hid (Ab.new w11 3 0)
  replace ET := Lib.hid (ET.out.later z1)
  replace H4 := Lib.hid (H4.out.later z1)
  replace Z := Lib.hid (Z.out.trans (z1.mono Z.out.size))
  clear z1
  go_upto_region 9 with fail
  generalize w11.alloc (.cells #[.int .i64 3, .int .i64 0] 31) = w12 at *
  generalize w11.heap.size = g3 at *
  go_wp2_with fail
  refine (kdo ET.out H4.out SM.out rfl rfl (by decide) (k := []) (m := 0) (by decide +kernel) rfl).mono ?_
  rintro _ w13 ⟨A5, c5, rfl, h1, _, _, z1⟩
  have H5 := Lib.hid h1
  replace ET := Lib.hid (ET.out.later z1)
  replace B1 := Lib.hid (B1.out.below z1 B1.out.lt)
  replace B2 := Lib.hid (B2.out.below z1 B2.out.lt)
  replace B3 := Lib.hid (B3.out.below z1 B3.out.lt)
  replace Z := Lib.hid (Z.out.trans (z1.mono Z.out.size))
  clear h1 z1 H4
  obtain ⟨b0, b1, _, _⟩ := B1.out.cells
  obtain ⟨b2, b3, _, _⟩ := B2.out.cells
  obtain ⟨b4, b5, _, _⟩ := B3.out.cells
  have hae := ae_yes (a := 2) (b := 1) (a' := 2) (b' := 1) rfl
  go_wp2_with fail
  refine (knext ET.out H5.out SM.out rfl rfl (by decide) (a := 0) (b := 0) (by decide +kernel)).mono ?_
  rintro _ w14 ⟨rfl, z1⟩
  replace ET := Lib.hid (ET.out.later z1)
  replace H5 := Lib.hid (H5.out.later z1)
  replace Z := Lib.hid (Z.out.trans (z1.mono Z.out.size))
  clear z1
  go_wp2_with fail
  refine (kmay ET.out H5.out SM.out rfl rfl (by decide) (q := true) (by decide +kernel)).mono ?_
  rintro _ w15 ⟨rfl, z1⟩
  replace H5 := Lib.hid (H5.out.later z1)
  replace Z := Lib.hid (Z.out.trans (z1.mono Z.out.size))
  clear z1
  go_wp2_with fail
  refine (ksame H5.out (Ir.nil _ _ none) rfl (m := 0) rfl (by decide) (q := true) (by decide +kernel)).mono ?_
  rintro _ w16 ⟨rfl, z1⟩
  replace Z := Lib.hid (Z.out.trans (z1.mono Z.out.size))
  clear z1
  go_wp2
  go_ret
  exact ⟨rfl, Z.out⟩
end Go.Proofs.Ytobcedlkmnmikaa.Fo
