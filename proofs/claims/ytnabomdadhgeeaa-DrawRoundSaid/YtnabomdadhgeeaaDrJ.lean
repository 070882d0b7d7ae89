/- Contract of Fair. -/
import Derived.Test.YtnabomdadhgeeaaDrI
import Derived.WalkMore
namespace Go.Proofs.Ytnabomdadhgeeaa
open Go.RowKit Go.Deep Go.Shelf
attribute [local go_sem] Oper.semAt_some
theorem fair_off (A : Option Addr) (c n : Nat) (nw ns f : Int) (w : World) (h : mt nw ns = false ∨ f < 1) : Tells 21 #[.slice A n c, .int .i64 nw, .int .i64 ns, .int .i64 f] w (.bool false) := by
  cases hm : mt nw ns
  · have C := Lib.hid (Gives.of (mt_any nw ns w) (v' := .bool false) (by rw [hm]))
    clear hm h
    go_enter Try.func21, Try.ntmps21
    go_wp2_with fail
    go_step3
    go_wp2_with fail
    refine C.out.mono ?_
    rintro _ w1 ⟨rfl, e1⟩
    rw [e1]
    clear e1 w1
    go_wp2
    rw [Exit.noGoto_ret]
    go_ret
    exact ⟨rfl, Below.refl _ _⟩
  · have hf : f < 1 := by
      rcases h with h | h
      · rw [hm] at h; cases h
      · exact h
    have hd : decide (f < 1) = true := decide_eq_true hf
    have C := Lib.hid (Gives.of (mt_any nw ns w) (v' := .bool true) (by rw [hm]))
    clear hm h
    go_enter Try.func21, Try.ntmps21
    go_wp2_with fail
    go_step3
    go_wp2_with fail
    refine C.out.mono ?_
    rintro _ w1 ⟨rfl, e1⟩
    rw [e1]
    clear e1 w1
    go_wp2
    rw [Exit.noGoto_ret]
    go_ret
    exact ⟨rfl, Below.refl _ _⟩
theorem boxed_kept {W W' : World} {B : Nat} {t : TypeId} {v : Value} {row : Option Nat} (h : Boxed W B t v) (hg : W.grownBy W' row) (hr : ∀ r, row = some r → ∃ o : Obj, W.heap[r]? = some o ∧ o.isCells = false) : Boxed W' B t v :=
  (grownBy_keeps_cells hg hr (k := B) h rfl).trans h

set_option maxRecDepth 100000 in
set_option maxHeartbeats 4000000 in
theorem fair_in (n : Nat) (hn : 3 ≤ n) (A : Option Addr) (c n₀ : Nat) (l : List Pk) (m q f : Nat) (w : World) (ha : Pr n₀ w A l) (hn₀ : n₀ ≤ w.heap.size) (hs : l.length ≤ 1000) (hm : m ≤ 20) (hq : q ≤ 20) (hf : 1 ≤ f) (hfm : f ≤ 9223372036854775807) :
    CallsIn Fence.wide n Try.prog 21 #[.slice A l.length c, .int .i64 m, .int .i64 q, .int .i64 f] w fun e w' => e = .returned (.bool (fairN l m q f)) ∧ Below w.heap.size w w' := by
  have h1 : 1 ≤ n := by omega
  have hd : decide ((f : Int) < 1) = false := decide_eq_false (by omega)
  have HA := Lib.hid ha
  have C := Lib.hid (Gives.of (mt_any m q w) (v' := .bool true) (by rw [mt_iff.2 (by omega)]))
  clear ha
  refine callsIn_of_wp_marks Try.func21 rfl trivial ?_ rfl
  simp only [Try.ntmps21, List.size_toArray, List.length_cons, List.length_nil, Nat.reduceAdd, Nat.reduceSub, Array.replicate_succ, Array.replicate_zero, List.push_toArray, List.append_toArray, List.nil_append, List.cons_append]
  gi_wp2_with fail
  refine wpIn_wide.2 (wp_scope_straight ((wpIn_wide (n := n)).1 ?_))
  gi_wp2_with fail
  refine ⟨trivial, ?_⟩
  refine (callsIn_wide.2 C.out).mono ?_
  rintro _ w1 ⟨rfl, e1⟩
  rw [e1]
  clear e1 w1 C
  gi_wp2_with fail
  refine wpIn_label ?_
  gi_wp2_with (refine ⟨trivial, ?_⟩; gi_at_call 25; refine (str_in _ _ _ _ _ _ _ _).mono ?_; rintro e w' ⟨rfl, rfl⟩)
  have b0 := (((Boxed.new w 4 (.bool true)).alloc (.cells #[.slice A l.length c] 26)).alloc (.cells #[.int .i64 (m : Int)] 3)).alloc (.cells #[.int .i64 (q : Int)] 3) |>.alloc (.cells #[.int .i64 (f : Int)] 3)
  have b1 := ((Boxed.new (w.alloc (.cells #[.bool true] 4)) 26 (.slice A l.length c)).alloc (.cells #[.int .i64 (m : Int)] 3)).alloc (.cells #[.int .i64 (q : Int)] 3) |>.alloc (.cells #[.int .i64 (f : Int)] 3)
  have b2 := (Boxed.new ((w.alloc (.cells #[.bool true] 4)).alloc (.cells #[.slice A l.length c] 26)) 3 (.int .i64 m)).alloc (.cells #[.int .i64 (q : Int)] 3) |>.alloc (.cells #[.int .i64 (f : Int)] 3)
  have b3 := (Boxed.new (((w.alloc (.cells #[.bool true] 4)).alloc (.cells #[.slice A l.length c] 26)).alloc (.cells #[.int .i64 (m : Int)] 3)) 3 (.int .i64 q)).alloc (.cells #[.int .i64 (f : Int)] 3)
  have b4 := Boxed.new ((((w.alloc (.cells #[.bool true] 4)).alloc (.cells #[.slice A l.length c] 26)).alloc (.cells #[.int .i64 (m : Int)] 3)).alloc (.cells #[.int .i64 (q : Int)] 3)) 3 (.int .i64 f)
  have hB := ((((Below.refl w.heap.size w).alloc (Nat.le_refl _) (.cells #[.bool true] 4)).alloc (by simp) (.cells #[.slice A l.length c] 26)).alloc (by simp; omega) (.cells #[.int .i64 (m : Int)] 3)).alloc (by simp; omega) (.cells #[.int .i64 (q : Int)] 3) |>.alloc (by simp; omega) (.cells #[.int .i64 (f : Int)] 3)
  have hz : (((((w.alloc (.cells #[.bool true] 4)).alloc (.cells #[.slice A l.length c] 26)).alloc (.cells #[.int .i64 (m : Int)] 3)).alloc (.cells #[.int .i64 (q : Int)] 3)).alloc (.cells #[.int .i64 (f : Int)] 3)).heap.size = w.heap.size + 5 := by simp
  simp only [World.size_alloc] at b1 b2 b3 b4
  generalize ((((w.alloc (.cells #[.bool true] 4)).alloc (.cells #[.slice A l.length c] 26)).alloc (.cells #[.int .i64 (m : Int)] 3)).alloc (.cells #[.int .i64 (q : Int)] 3)).alloc (.cells #[.int .i64 (f : Int)] 3) = W0 at *
  refine range_str (T := l.length + 1 - f) (gf := 26) (lb := #[.pointer (some ⟨w.heap.size + 1 + 1, 0, none⟩), .pointer (some ⟨w.heap.size + 1 + 1 + 1, 0, none⟩), .pointer (some ⟨w.heap.size + 1, 0, none⟩), .pointer (some ⟨w.heap.size + 1 + 1 + 1 + 1, 0, none⟩)]) (enc := sEnc (m + q)) (Rdy := sRdy l m q f)
    rfl (enters_of Try.func26 (by kernel_rfl) rfl) h1 (fun _ _ => rfl) (fun _ _ _ _ h _ e => e.trans h) (fun _ _ _ _ h e => by unfold sRdy Bk at h; rw [h] at e; cases e) ?seq
    (fun k W => (∀ i, i < k → okAt l m q f i = true) ∧ Boxed W w.heap.size 4 (.bool true) ∧ Below w.heap.size w W)
    (fun id W => id = 0 ∧ fairN l m q f = false ∧ Boxed W w.heap.size 4 (.bool false) ∧ Below w.heap.size w W)
    ?abI ?abX ⟨fun i h => by omega, b0, hB⟩ (fun g k => { tmps := #[.slice A l.length c, .int .i64 m, .int .i64 q, .int .i64 f, undef, undef, undef, undef, .bool false, .pointer (some ⟨w.heap.size, 0, none⟩), .int .i64 (k : Int), .slice (some ⟨g, 0, none⟩) (m + q) (m + q), undef, undef, .int .i64 m, .int .i64 q, .bool true, .bool false, .bool false, .int .i64 f, .bool false, .bool false, .slice A l.length c, .int .i64 m, .int .i64 q, .int .i64 f,
      .func (.func 26) #[] #[.pointer (some ⟨w.heap.size + 1 + 1, 0, none⟩), .pointer (some ⟨w.heap.size + 1 + 1 + 1, 0, none⟩), .pointer (some ⟨w.heap.size + 1, 0, none⟩), .pointer (some ⟨w.heap.size + 1 + 1 + 1 + 1, 0, none⟩)], .int .i64 (k : Int), .slice (some ⟨g, 0, none⟩) (m + q) (m + q), undef, undef, undef, undef, undef, undef, undef, undef, undef, undef, undef], defers := [] }) ?assign ?body ?done ?stop
  case seq =>
    intro l' J Jx W hJ hJx hb hY h0
    exact str1_in (n - 1) (by omega) l' _ _ _ _ m q f c A l hm hq hf hfm hs J Jx W hJ hY ((hb.block _ b2.lt).trans b2) ((hb.block _ b3.lt).trans b3) ((hb.block _ b1.lt).trans b1) ((hb.block _ b4.lt).trans b4)
      ((HA.out.below ((hB.mono hn₀).trans (hb.mono (by omega)))).mono (by have := hb.size; omega)) h0
  case abI =>
    rintro k W W' ⟨h1, h2, h3⟩ hb
    exact ⟨h1, (hb.block _ (by omega)).trans h2, h3.trans (hb.mono (by omega))⟩
  case abX =>
    rintro k W W' ⟨h0, h1, h2, h3⟩ hb
    exact ⟨h0, h1, (hb.block _ (by omega)).trans h2, h3.trans (hb.mono (by omega))⟩
  case assign =>
    intro l' g k W K hK
    simp only [sEnc]
    gi_wp2
    exact hK
  case body =>
    rintro l' g k W ⟨hok, hbx, hbl⟩ hk hR
    unfold sRdy at hR
    have HO := Lib.hid hok
    have HX := Lib.hid hbx
    have HL := Lib.hid hbl
    have HR := Lib.hid hR
    have x1 := hbx.cell
    have x2 := hbx.frozen
    clear hok hbx hbl hR b0 b1 b2 b3 b4 hB hz
    gi_wp2
    gi_loopw [31] (fun p wr => ∃ i : Nat, p = .int .i64 i ∧ i ≤ m + q ∧ wr = W ∧ ∀ i', i' < i → (k : Int) ≤ li l m q i' (k + f)) (fun p _ => m + q - (intOf p).toNat)
    case atStart => exact ⟨0, rfl, Nat.zero_le _, rfl, fun i h => by omega⟩
    case round =>
      obtain ⟨i, rfl, hi, hwr, hall⟩ := hrel
      have HLL := Lib.hid hall
      clear hall
      rw [hwr]
      clear hwr
      by_cases hlt : i < m + q
      · have y1 := HR.out.cell i _ (lv_at l m q (k + f) i hlt)
        have y2 := li_lt l m q i (k + f)
        have LE := Lib.hid (show li l m q i (k + f) = li l m q i (k + f) from rfl)
        generalize hv : li l m q i (k + f) = v at y1 y2
        have HV := Lib.hid hv
        clear hv LE
        by_cases hvk : v < (k : Int)
        · have hvk' : decide (v < (k : Int)) = true := decide_eq_true hvk
          have FE := Lib.hid (show fairN l m q f = false from bool_no (fun h => by
            have := okAt_li.1 ((fairN_iff hf).1 h k (by omega)) i hlt
            rw [HV.out] at this
            omega))
          gi_wp2
          exact ⟨KeepsOthers.setCell _ _ _, rfl, FE.out, HX.out.set _, HL.out.setCell (p := ⟨w.heap.size, 0, none⟩) (Nat.le_refl _) _⟩
        · have hvk' : decide (v < (k : Int)) = false := decide_eq_false hvk
          have VK := Lib.hid (show (k : Int) ≤ v by omega)
          gi_wp2
          go_roundw
          case rel => exact ⟨i + 1, by go_num, by omega, trivial, fun i' h => by
            by_cases e : i' = i
            · subst e; rw [HV.out]; exact VK.out
            · exact HLL.out i' (by omega)⟩
          case measure => simp only [intOf]; omega
      · have OK := Lib.hid (show okAt l m q f k = true from okAt_li.2 (fun i' h => HLL.out i' (by omega)))
        gi_wp2
        exact ⟨rfl, fun i' h => by
          by_cases e : i' = k
          · subst e; exact OK.out
          · exact HO.out i' (by omega), HX.out, HL.out⟩
  case done =>
    rintro D W hD ⟨hok, hbx, hbl⟩ hK
    have FE := Lib.hid (show fairN l m q f = true from (fairN_iff hf).2 (fun i h => hok i (by omega)))
    have x1 := hbx.cell
    have HX := Lib.hid hbx
    have HL := Lib.hid hbl
    clear hok hbx hbl b0 b1 b2 b3 b4 hB
    gi_wp2
    rw [Exit.noGoto_ret]
    refine ⟨by simp, .inl ⟨_, _, rfl, run_takeDeferred hK, ?_⟩⟩
    exact ⟨_, results_tmp rfl _ _ _, by rw [FE.out]; rfl, HL.out.trans (below_put W _ (by omega) (Array.getElem?_eq_some_iff.1 hK).1)⟩
  case stop =>
    rintro D id W hD ⟨rfl, hno, hbx, hbl⟩ hK
    have FE := Lib.hid hno
    have x1 := hbx.cell
    have HX := Lib.hid hbx
    have HL := Lib.hid hbl
    clear hno hbx hbl b0 b1 b2 b3 b4 hB
    gi_wp2
    rw [Exit.noGoto_ret]
    refine ⟨by simp, .inl ⟨_, _, rfl, run_takeDeferred hK, ?_⟩⟩
    exact ⟨_, results_tmp rfl _ _ _, by rw [FE.out]; rfl, HL.out.trans (below_put W _ (by omega) (Array.getElem?_eq_some_iff.1 hK).1)⟩
theorem fair_any (A : Option Addr) (c n₀ : Nat) (l : List Pk) (nw ns f : Int) (w : World) (ha : Pr n₀ w A l) (hn₀ : n₀ ≤ w.heap.size) (hs : l.length ≤ 1000) (hf : I f) :
    Tells 21 #[.slice A l.length c, .int .i64 nw, .int .i64 ns, .int .i64 f] w (.bool (fair l nw ns f)) := by
  unfold I at hf
  by_cases h : mt nw ns = false ∨ f < 1
  · rw [fair_no h]
    exact fair_off A c _ nw ns f w h
  · have h1 : mt nw ns = true := by cases e : mt nw ns; exact absurd (.inl e) h; rfl
    have hr := mt_iff.1 h1
    have h2 : ¬ f < 1 := fun e => h (.inr e)
    obtain ⟨m, rfl⟩ : ∃ m : Nat, nw = m := ⟨nw.toNat, by omega⟩
    obtain ⟨q, rfl⟩ : ∃ q : Nat, ns = q := ⟨ns.toNat, by omega⟩
    obtain ⟨g, rfl⟩ : ∃ g : Nat, f = g := ⟨f.toNat, by omega⟩
    rw [fair_yes (by omega) (by omega) (by omega)]
    exact (callsIn_wide (n := 3)).1 (fair_in 3 (Nat.le_refl _) A c n₀ l m q g w ha hn₀ hs (by omega) (by omega) (by omega) (by omega))
end Go.Proofs.Ytnabomdadhgeeaa
