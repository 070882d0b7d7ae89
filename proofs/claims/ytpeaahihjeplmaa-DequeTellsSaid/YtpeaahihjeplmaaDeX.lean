/- Contracts of Play and Rest, whatever comes in. -/
import Derived.Test.YtpeaahihjeplmaaDeP
import Derived.Test.YtpeaahihjeplmaaDeQ
namespace Go.Proofs.Ytpeaahihjeplmaa
open Go.RowKit Go.Deep Go.Shelf
/-- Whether there is such a deque, with so many who steal. -/
def plK (D th : Int) : Bool := may 1 D 1 0 && (decide (0 ≤ th) && decide (th ≤ 8))
/-- What a play comes to. -/
def plO (D th : Int) (own : List Fr) (who : List Int) : PS := if plK D th = true then play D th own who else ⟨[], [], [], 0⟩
/-- What a rest comes to. -/
def rsK (D : Int) (m : List Int) : Bool := may 1 D 1 0 && decide ((m.length : Int) = sz 1 D 1 0)
def rsO (D : Int) (m : List Int) (a : List Fr) : List Int × List Fr := if rsK D m = true then restL 1 D 1 0 m a else ([], [])
theorem ret_nil (w w' : World) (h : Below w.heap.size w w') : RetPl w ⟨[], [], [], 0⟩ (.returned (.tuple #[.slice none 0 0, .slice none 0 0, .slice none 0 0])) w' :=
  ⟨none, 0, none, 0, none, 0, rfl, fun h => by simp at h, Pr.nil _ _ _, Nat.le_refl _, Pr.nil _ _ _, h⟩
theorem ret_nil2 (w w' : World) (h : Below w.heap.size w w') : RetRe w [] [] (.returned (.tuple #[.slice none 0 0, .slice none 0 0])) w' :=
  ⟨none, 0, none, 0, rfl, fun h => by simp at h, Pr.nil _ _ _, h⟩
set_option maxRecDepth 100000 in
set_option maxHeartbeats 1000000 in
theorem play_no (D th : Int) (A B : Option Addr) (ca cw no nw : Nat) (w : World) (h : plK D th = false) :
    Calls Try.prog 13 #[.int .i64 D, .int .i64 th, .slice A no ca, .slice B nw cw] w (RetPl w ⟨[], [], [], 0⟩) := by
  have fin : ∀ (b : Bool), may 1 D 1 0 = b → (b = true → th < 0 ∨ 8 < th) → Calls Try.prog 13 #[.int .i64 D, .int .i64 th, .slice A no ca, .slice B nw cw] w (RetPl w ⟨[], [], [], 0⟩) := by
    intro b hm hx
    have HM := Lib.hid hm
    clear hm
    go_enter Try.func13, Try.ntmps13
    go_wp2_with fail
    refine (layout_any D _).mono ?_
    rintro _ w1 ⟨rfl, z1⟩
    have bx := Bx.mk w1 1 D 1 0 23
    have Z1 := Lib.hid (z1.alloc z1.size (.cells #[.int .i64 1, .int .i64 D, .int .i64 1, .int .i64 0] 23))
    clear z1
    go_wp2_with fail
    refine (Tells.of (may_any 1 D 1 0 _) (v' := .bool b) (by rw [HM.out])).mono ?_
    rintro _ w2 ⟨rfl, z2⟩
    have Z2 := Lib.hid (Z1.out.trans (z2.mono Z1.out.size))
    clear z2 bx Z1
    cases b with
    | false =>
      go_wp2
      refine bodyPost_ret (v := .tuple #[.slice none 0 0, .slice none 0 0, .slice none 0 0]) (by simp [results, Try.results13, go_sem]; try rfl) rfl ?_
      exact ret_nil _ _ Z2.out
    | true =>
      by_cases h1 : th < 0
      · have d1 : decide (th < 0) = true := decide_eq_true h1
        clear hx
        go_wp2
        refine bodyPost_ret (v := .tuple #[.slice none 0 0, .slice none 0 0, .slice none 0 0]) (by simp [results, Try.results13, go_sem]; try rfl) rfl ?_
        exact ret_nil _ _ Z2.out
      · have h2 : 8 < th := (hx rfl).resolve_left h1
        have d1 : decide (th < 0) = false := decide_eq_false h1
        have d2 : decide (th > 8) = true := decide_eq_true h2
        clear hx h1 h2
        go_wp2
        refine bodyPost_ret (v := .tuple #[.slice none 0 0, .slice none 0 0, .slice none 0 0]) (by simp [results, Try.results13, go_sem]; try rfl) rfl ?_
        exact ret_nil _ _ Z2.out
  refine fin _ rfl fun hb => ?_
  unfold plK at h
  rw [hb] at h
  simp at h
  omega
theorem play_any (D th : Int) (A B : Option Addr) (ca cw no nw : Nat) (own : List Fr) (who : List Int) (w : World) (hP : Pr w.heap.size w A own) (hW : Ri w B who) (hca : no ≤ ca) (hno : own.length = no) (hnw : who.length = nw) (hw5 : nw ≤ 504) (hu : ∀ f ∈ own, UF f) :
    Calls Try.prog 13 #[.int .i64 D, .int .i64 th, .slice A no ca, .slice B nw cw] w (RetPl w (plO D th own who)) := by
  unfold plO
  cases hk : plK D th
  · exact play_no D th A B ca cw no nw w hk
  · rw [if_pos rfl]
    unfold plK at hk
    simp only [Bool.and_eq_true, decide_eq_true_eq] at hk
    obtain ⟨h1, h2, h3⟩ := hk
    obtain ⟨t, rfl⟩ := Int.eq_ofNat_of_zero_le h2
    exact callsIn_wide.1 (play_in 0 D t (by omega) A B ca cw no nw own who w hP hW hca hno hnw hw5 h1 hu)
set_option maxRecDepth 100000 in
set_option maxHeartbeats 2000000 in
theorem rest_no1 (D : Int) (A B : Option Addr) (nm cm na ca : Nat) (w : World) (hm : may 1 D 1 0 = false) :
    Calls Try.prog 15 #[.int .i64 D, .slice A nm cm, .slice B na ca] w (RetRe w [] []) := by
  go_enter Try.func15, Try.ntmps15
  go_wp2_with fail
  have n1 := Boxed.new w 25 (.slice A nm cm)
  have n2 := Boxed.new (w.alloc (.cells #[.slice A nm cm] 25)) 29 (.slice B na ca)
  rw [World.size_alloc] at n2
  have n1' := n1.alloc (.cells #[.slice B na ca] 29)
  have z0 : Below w.heap.size w ((w.alloc (.cells #[.slice A nm cm] 25)).alloc (.cells #[.slice B na ca] 29)) := ((Below.refl _ _).alloc (Nat.le_refl _) _).alloc (by simp) _
  have hz0 : ((w.alloc (.cells #[.slice A nm cm] 25)).alloc (.cells #[.slice B na ca] 29)).heap.size = w.heap.size + 2 := by simp
  generalize (w.alloc (.cells #[.slice A nm cm] 25)).alloc (.cells #[.slice B na ca] 29) = w0 at n2 n1' z0 hz0 ⊢
  refine (layout_any D _).mono ?_
  rintro _ w1 ⟨rfl, z1⟩
  have hz1 : w.heap.size + 2 ≤ w1.heap.size := by have := z1.size; omega
  have m1 : Boxed w1 _ _ _ := (z1.block _ (by omega)).trans n1'
  have m2 : Boxed w1 _ _ _ := (z1.block _ (by omega)).trans n2
  have bx := Bx.mk w1 1 D 1 0 23
  have m1' := m1.alloc (.cells #[.int .i64 1, .int .i64 D, .int .i64 1, .int .i64 0] 23)
  have m2' := m2.alloc (.cells #[.int .i64 1, .int .i64 D, .int .i64 1, .int .i64 0] 23)
  have zz : Below w.heap.size w (w1.alloc (.cells #[.int .i64 1, .int .i64 D, .int .i64 1, .int .i64 0] 23)) := (z0.trans (z1.mono (by omega))).alloc (by omega) _
  have hz2 : (w1.alloc (.cells #[.int .i64 1, .int .i64 D, .int .i64 1, .int .i64 0] 23)).heap.size = w1.heap.size + 1 := by simp
  go_wp2
  generalize w1.alloc (.cells #[.int .i64 1, .int .i64 D, .int .i64 1, .int .i64 0] 23) = w2 at bx m1' m2' zz hz2 ⊢
  have BX := Lib.hid bx
  have M1 := Lib.hid m1'
  have M2 := Lib.hid m2'
  have Z2 := Lib.hid zz
  have hlc : w1.heap.size < w2.heap.size := by omega
  have hlm : w.heap.size < w2.heap.size := by omega
  have hla : w.heap.size + 1 < w2.heap.size := by omega
  clear n1 n2 n1' z0 hz0 z1 m1 m2 bx m1' m2' zz hz2
  have hmay := hm
  have HK := Lib.hid (show ∀ x', Below w2.heap.size w2 x' → (fun w' => w'.cell? ⟨w.heap.size, 0, none⟩ = some (.slice A nm cm) ∧ w'.cell? ⟨w1.heap.size, 0, none⟩ = some (.int .i64 1) ∧ w'.cell? ⟨w1.heap.size, 1, none⟩ = some (.int .i64 D) ∧ w'.cell? ⟨w1.heap.size, 2, none⟩ = some (.int .i64 1) ∧ w'.cell? ⟨w1.heap.size, 3, none⟩ = some (.int .i64 0) ∧ Below w2.heap.size w2 w') x' from fun x' hx => by
    obtain ⟨_, e0, e1, e2, e3⟩ := BX.out.below hx
    exact ⟨(show Boxed x' _ _ _ from (hx.block _ hlm).trans M1.out).cell, e0, e1, e2, e3, hx⟩)
  have hHeld0 := HK.out _ (Below.refl _ _)
  have hn0 : w2.heap.size ≤ w2.heap.size := Nat.le_refl _
  refine wp_region_held_drew (S := fun w' => w'.cell? ⟨w.heap.size, 0, none⟩ = some (.slice A nm cm) ∧ w'.cell? ⟨w1.heap.size, 0, none⟩ = some (.int .i64 1) ∧ w'.cell? ⟨w1.heap.size, 1, none⟩ = some (.int .i64 D) ∧ w'.cell? ⟨w1.heap.size, 2, none⟩ = some (.int .i64 1) ∧ w'.cell? ⟨w1.heap.size, 3, none⟩ = some (.int .i64 0) ∧ Below w2.heap.size w2 w') (by kernel_rfl) (hd_drew HK.out (fun _ h => h.2.2.2.2.2) hHeld0) (fun hHeld => ?_)
  refine wpAnyH_take (i := 0) (oi := { dst := some 12, op := Go.Op.load 23 (Go.Operand.tmp 8), type := 23, pos := "deque.go:67", after := #[], guard := none }) (v := ?vrn_0) rfl (by kernel_rfl) (by kernel_rfl) (by kernel_rfl) (fun _ _ _ h => h) (Or.inl ⟨by rfl, ?yrn_0⟩) (by assumption) ?rrn_0
  case yrn_0 => (intro w hSw; (try dsimp only at hSw); go_simp; (try with_reducible rfl))
  (try simp only [Act.put, List.setIfInBounds_toArray, List.set_cons_zero, List.set_cons_succ])
  refine wpAnyH_ready (rs := [1]) (by kernel_rfl) (by simp) ?_
  refine AllReadyH.cons (o := { dst := some 13, op := Go.Op.call { callee := Go.Callee.value (Go.Operand.func 33), args := #[Go.Operand.tmp 12], argTypes := #[23] }, type := 4, pos := "deque.go:67", after := #[{ on := 0, ground := Go.Ground.data }], guard := none }) rfl (fun K hK => ?_) AllReadyH.nil
  go_simp
  refine (Tells.of (may_any 1 D 1 0 _) (v' := .bool false) (by rw [hmay])).mono ?_
  rintro e w' ⟨rfl, hb⟩
  go_wp2_with fail
  refine hK.out _ _ (hd_call HK.out (fun _ h => h.2.2.2.2.2) hb hHeld hn0) (fun hHeld2 => ?_)
  clear hK K hHeld
  have hHeld := hHeld2
  clear hHeld2
  (try simp only [Act.put, List.setIfInBounds_toArray, List.set_cons_zero, List.set_cons_succ])
  refine wpAnyH_take (i := 2) (oi := { dst := some 14, op := Go.Op.unOp Go.UnOp.not 4 (Go.Operand.tmp 13), type := 4, pos := "deque.go:67", after := #[{ on := 1, ground := Go.Ground.data }], guard := none }) (v := ?vrn_2) rfl (by kernel_rfl) (by kernel_rfl) (by kernel_rfl) (fun _ _ _ h => h) (Or.inl ⟨by rfl, ?yrn_2⟩) (by assumption) ?rrn_2
  case yrn_2 => (intro w hSw; (try dsimp only at hSw); go_simp; (try with_reducible rfl))
  (try simp only [Act.put, List.setIfInBounds_toArray, List.set_cons_zero, List.set_cons_succ])
  refine wpAnyH_take (i := 3) (oi := { dst := some 15, op := Go.Op.move (Go.Operand.tmp 14), type := 4, pos := "deque.go:67", after := #[{ on := 2, ground := Go.Ground.data }, { on := 1, ground := Go.Ground.chain }], guard := none }) (v := ?vrn_3) rfl (by kernel_rfl) (by kernel_rfl) (by kernel_rfl) (fun _ _ _ h => h) (Or.inl ⟨by rfl, ?yrn_3⟩) (by assumption) ?rrn_3
  case yrn_3 => (intro w hSw; (try dsimp only at hSw); go_simp; (try with_reducible rfl))
  (try simp only [Act.put, List.setIfInBounds_toArray, List.set_cons_zero, List.set_cons_succ])
  refine wpAnyH_take (i := 4) (oi := { dst := some 16, op := Go.Op.load 25 (Go.Operand.tmp 4), type := 25, pos := "deque.go:67", after := #[{ on := 3, ground := Go.Ground.guard }], guard := some (3, false) }) (v := undef) rfl (by kernel_rfl) (by kernel_rfl) (by kernel_rfl) (fun _ _ _ h => h) (Or.inr ⟨by rfl, rfl⟩) (by assumption) ?_
  (try simp only [Act.put, List.setIfInBounds_toArray, List.set_cons_zero, List.set_cons_succ])
  refine wpAnyH_take (i := 5) (oi := { dst := some 17, op := Go.Op.call { callee := Go.Callee.builtin Go.Builtin.len, args := #[Go.Operand.tmp 16], argTypes := #[25] }, type := 3, pos := "deque.go:67", after := #[{ on := 4, ground := Go.Ground.data }, { on := 3, ground := Go.Ground.guard }], guard := some (3, false) }) (v := undef) rfl (by kernel_rfl) (by kernel_rfl) (by kernel_rfl) (fun _ _ _ h => h) (Or.inr ⟨by rfl, rfl⟩) (by assumption) ?_
  (try simp only [Act.put, List.setIfInBounds_toArray, List.set_cons_zero, List.set_cons_succ])
  refine wpAnyH_take (i := 6) (oi := { dst := some 18, op := Go.Op.load 23 (Go.Operand.tmp 8), type := 23, pos := "deque.go:67", after := #[{ on := 3, ground := Go.Ground.guard }], guard := some (3, false) }) (v := undef) rfl (by kernel_rfl) (by kernel_rfl) (by kernel_rfl) (fun _ _ _ h => h) (Or.inr ⟨by rfl, rfl⟩) (by assumption) ?_
  (try simp only [Act.put, List.setIfInBounds_toArray, List.set_cons_zero, List.set_cons_succ])
  refine wpAnyH_take (i := 7) (oi := { dst := some 19, op := Go.Op.call { callee := Go.Callee.value (Go.Operand.func 43), args := #[Go.Operand.tmp 18], argTypes := #[23] }, type := 3, pos := "deque.go:67", after := #[{ on := 6, ground := Go.Ground.data }, { on := 3, ground := Go.Ground.chain }, { on := 3, ground := Go.Ground.guard }], guard := some (3, false) }) (v := undef) rfl (by kernel_rfl) (by kernel_rfl) (by kernel_rfl) (fun _ _ _ h => h) (Or.inr ⟨by rfl, rfl⟩) (by assumption) ?_
  (try simp only [Act.put, List.setIfInBounds_toArray, List.set_cons_zero, List.set_cons_succ])
  refine wpAnyH_take (i := 8) (oi := { dst := some 20, op := Go.Op.binOp Go.BinOp.neq 3 (Go.Operand.tmp 17) (Go.Operand.tmp 19) 3, type := 4, pos := "deque.go:67", after := #[{ on := 5, ground := Go.Ground.data }, { on := 7, ground := Go.Ground.data }, { on := 3, ground := Go.Ground.guard }], guard := some (3, false) }) (v := undef) rfl (by kernel_rfl) (by kernel_rfl) (by kernel_rfl) (fun _ _ _ h => h) (Or.inr ⟨by rfl, rfl⟩) (by assumption) ?_
  (try simp only [Act.put, List.setIfInBounds_toArray, List.set_cons_zero, List.set_cons_succ])
  refine wpAnyH_take (i := 9) (oi := { dst := some 21, op := Go.Op.pick (Go.Operand.tmp 15) (Go.Operand.const (Go.Value.bool true)) (Go.Operand.tmp 20), type := 4, pos := "deque.go:67", after := #[{ on := 3, ground := Go.Ground.data }, { on := 8, ground := Go.Ground.data }], guard := none }) (v := ?vrn_9) rfl (by kernel_rfl) (by kernel_rfl) (by kernel_rfl) (fun _ _ _ h => h) (Or.inl ⟨by rfl, ?yrn_9⟩) (by assumption) ?rrn_9
  case yrn_9 => (intro w hSw; (try dsimp only at hSw); go_simp; (try with_reducible rfl))
  (try simp only [Act.put, List.setIfInBounds_toArray, List.set_cons_zero, List.set_cons_succ])
  refine wpAnyH_done (by kernel_rfl) ?_ _
  have hz9 := hHeld.2.2.2.2.2
  go_wp2
  refine bodyPost_ret (v := .tuple #[.slice none 0 0, .slice none 0 0]) (by simp [results, Try.results15, go_sem]; try rfl) rfl ?_
  exact ret_nil2 _ _ (Z2.out.trans (hz9.mono Z2.out.size))
set_option maxRecDepth 100000 in
set_option maxHeartbeats 2000000 in
theorem rest_no2 (D : Int) (A B : Option Addr) (nm cm na ca : Nat) (w : World) (hm : may 1 D 1 0 = true) (hs : ((nm : Int) != sz 1 D 1 0) = true) :
    Calls Try.prog 15 #[.int .i64 D, .slice A nm cm, .slice B na ca] w (RetRe w [] []) := by
  go_enter Try.func15, Try.ntmps15
  go_wp2_with fail
  have n1 := Boxed.new w 25 (.slice A nm cm)
  have n2 := Boxed.new (w.alloc (.cells #[.slice A nm cm] 25)) 29 (.slice B na ca)
  rw [World.size_alloc] at n2
  have n1' := n1.alloc (.cells #[.slice B na ca] 29)
  have z0 : Below w.heap.size w ((w.alloc (.cells #[.slice A nm cm] 25)).alloc (.cells #[.slice B na ca] 29)) := ((Below.refl _ _).alloc (Nat.le_refl _) _).alloc (by simp) _
  have hz0 : ((w.alloc (.cells #[.slice A nm cm] 25)).alloc (.cells #[.slice B na ca] 29)).heap.size = w.heap.size + 2 := by simp
  generalize (w.alloc (.cells #[.slice A nm cm] 25)).alloc (.cells #[.slice B na ca] 29) = w0 at n2 n1' z0 hz0 ⊢
  refine (layout_any D _).mono ?_
  rintro _ w1 ⟨rfl, z1⟩
  have hz1 : w.heap.size + 2 ≤ w1.heap.size := by have := z1.size; omega
  have m1 : Boxed w1 _ _ _ := (z1.block _ (by omega)).trans n1'
  have m2 : Boxed w1 _ _ _ := (z1.block _ (by omega)).trans n2
  have bx := Bx.mk w1 1 D 1 0 23
  have m1' := m1.alloc (.cells #[.int .i64 1, .int .i64 D, .int .i64 1, .int .i64 0] 23)
  have m2' := m2.alloc (.cells #[.int .i64 1, .int .i64 D, .int .i64 1, .int .i64 0] 23)
  have zz : Below w.heap.size w (w1.alloc (.cells #[.int .i64 1, .int .i64 D, .int .i64 1, .int .i64 0] 23)) := (z0.trans (z1.mono (by omega))).alloc (by omega) _
  have hz2 : (w1.alloc (.cells #[.int .i64 1, .int .i64 D, .int .i64 1, .int .i64 0] 23)).heap.size = w1.heap.size + 1 := by simp
  go_wp2
  generalize w1.alloc (.cells #[.int .i64 1, .int .i64 D, .int .i64 1, .int .i64 0] 23) = w2 at bx m1' m2' zz hz2 ⊢
  have BX := Lib.hid bx
  have M1 := Lib.hid m1'
  have M2 := Lib.hid m2'
  have Z2 := Lib.hid zz
  have hlc : w1.heap.size < w2.heap.size := by omega
  have hlm : w.heap.size < w2.heap.size := by omega
  have hla : w.heap.size + 1 < w2.heap.size := by omega
  clear n1 n2 n1' z0 hz0 z1 m1 m2 bx m1' m2' zz hz2
  have hmay := hm
  have HK := Lib.hid (show ∀ x', Below w2.heap.size w2 x' → (fun w' => w'.cell? ⟨w.heap.size, 0, none⟩ = some (.slice A nm cm) ∧ w'.cell? ⟨w1.heap.size, 0, none⟩ = some (.int .i64 1) ∧ w'.cell? ⟨w1.heap.size, 1, none⟩ = some (.int .i64 D) ∧ w'.cell? ⟨w1.heap.size, 2, none⟩ = some (.int .i64 1) ∧ w'.cell? ⟨w1.heap.size, 3, none⟩ = some (.int .i64 0) ∧ Below w2.heap.size w2 w') x' from fun x' hx => by
    obtain ⟨_, e0, e1, e2, e3⟩ := BX.out.below hx
    exact ⟨(show Boxed x' _ _ _ from (hx.block _ hlm).trans M1.out).cell, e0, e1, e2, e3, hx⟩)
  have hHeld0 := HK.out _ (Below.refl _ _)
  have hn0 : w2.heap.size ≤ w2.heap.size := Nat.le_refl _
  go_region_held3 (fun w' => w'.cell? ⟨w.heap.size, 0, none⟩ = some (.slice A nm cm) ∧ w'.cell? ⟨w1.heap.size, 0, none⟩ = some (.int .i64 1) ∧ w'.cell? ⟨w1.heap.size, 1, none⟩ = some (.int .i64 D) ∧ w'.cell? ⟨w1.heap.size, 2, none⟩ = some (.int .i64 1) ∧ w'.cell? ⟨w1.heap.size, 3, none⟩ = some (.int .i64 0) ∧ Below w2.heap.size w2 w')
    (first | with_reducible exact hd_drew HK.out (fun _ h => h.2.2.2.2.2) (by assumption) | with_reducible exact hd_call HK.out (fun _ h => h.2.2.2.2.2) (by assumption) (by assumption) hn0)
    (first
    | (go_at_call 33; (refine (Tells.of (may_any 1 D 1 0 _) (v' := .bool true) (by rw [hmay])).mono ?_); rintro _ w3 ⟨rfl, z3⟩)
    | (go_at_call 43; (refine (size_any 1 D 1 0 _).mono ?_); rintro _ w4 ⟨rfl, z4⟩))
  have z5 : Below w2.heap.size w2 w4 := ((Below.refl w2.heap.size w2).drew.trans z3).trans (z4.mono z3.size)
  have Z9 := Lib.hid (Z2.out.trans (z5.mono Z2.out.size))
  go_wp2
  refine bodyPost_ret (v := .tuple #[.slice none 0 0, .slice none 0 0]) (by simp [results, Try.results15, go_sem]; try rfl) rfl ?_
  exact ret_nil2 _ _ Z9.out
theorem rest_no (D : Int) (A B : Option Addr) (nm cm na ca : Nat) (m : List Int) (w : World) (hnm : m.length = nm) (h : rsK D m = false) :
    Calls Try.prog 15 #[.int .i64 D, .slice A nm cm, .slice B na ca] w (RetRe w [] []) := by
  unfold rsK at h
  cases hm : may 1 D 1 0
  · exact rest_no1 D A B nm cm na ca w hm
  · rw [hm] at h
    refine rest_no2 D A B nm cm na ca w hm ?_
    simp only [Bool.true_and, decide_eq_false_iff_not] at h
    rw [← hnm]
    simpa using h
theorem rest_any (D : Int) (A B : Option Addr) (nm cm na ca : Nat) (m : List Int) (a : List Fr) (w : World) (hM : Rd w A m) (hP : Pr w.heap.size w B a) (hnm : m.length = nm) (hna : a.length = na) (hna5 : na ≤ 100) (hnm5 : nm ≤ 500) (hu : UM m) (hf : ∀ i, UF (a.getD i fno)) :
    Calls Try.prog 15 #[.int .i64 D, .slice A nm cm, .slice B na ca] w (RetRe w (rsO D m a).1 (rsO D m a).2) := by
  unfold rsO
  cases hk : rsK D m
  · exact rest_no D A B nm cm na ca m w hnm hk
  · rw [if_pos rfl]
    unfold rsK at hk
    simp only [Bool.and_eq_true, decide_eq_true_eq] at hk
    exact callsIn_wide.1 (rest_in 0 D A B nm cm na ca m a w hM hP hnm hna hna5 hnm5 hk.1 (by rw [← hnm]; simpa using hk.2) hu hf)
end Go.Proofs.Ytpeaahihjeplmaa
