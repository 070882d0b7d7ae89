/- The walk of ForestFewer. -/
import Derived.Test.YtajbnpjdhmeeiaaFoQ
import Derived.Deep.RegionLaw
namespace Go.Proofs.Ytajbnpjdhmeeiaa
open Go.RowKit Go.Deep
/-- A task without the kid m. -/
def cut (m : Int) (x : Tsk) : Tsk := (x.1, x.2.filter fun k => decide (k ≠ m))
/-- The first j tasks, without the kid m. -/
def lessN (T : List Tsk) (m : Int) (j : Nat) : List Tsk := (T.take j).map (cut m)
theorem lessN_len {T : List Tsk} {m : Int} {j : Nat} (h : j ≤ T.length) : (lessN T m j).length = j := by unfold lessN; simp; omega
theorem lessN_succ {T : List Tsk} {m : Int} {j : Nat} (h : j < T.length) : lessN T m (j + 1) = lessN T m j ++ [cut m T[j]] := by
  unfold lessN; rw [List.take_succ_eq_append_getElem h, List.map_append]; rfl
theorem lessN_at {T : List Tsk} {m : Int} {j i : Nat} (h : i < j) (hj : j ≤ T.length) : (lessN T m j)[i]? = some (cut m (T[i]'(by omega))) := by
  unfold lessN
  rw [List.getElem?_map, List.getElem?_take, if_pos h, List.getElem?_eq_getElem (by omega)]; rfl
theorem kids_less {T : List Tsk} {m : Int} {j i : Nat} (h : i < j) (hj : j ≤ T.length) : kids (lessN T m j) i = (kids T i).filter fun k => decide (k ≠ m) := by
  rw [kids_eq (show i < T.length by omega)]
  unfold kids
  rw [List.getD_eq_getElem?_getD, lessN_at h hj]; rfl
theorem spN_less {T : List Tsk} {m : Int} {j : Nat} (hj : j ≤ T.length) (i : Nat) (hi : i ≤ j) : spN (lessN T m j) i = (spN T i).filter fun p => decide (p.2 ≠ m) := by
  induction i with
  | zero => rfl
  | succ i ih =>
    rw [spN, spN, ih (by omega), List.filter_append, kids_less (by omega) hj, List.filter_map]
    rfl
theorem may_less {T : List Tsk} {m : Nat} (hm : may T = true) (hl : T.length = m + 1) : may (lessN T m m) = true := by
  obtain ⟨h1, h2, h3⟩ := may_parts hm
  have h4 := okP_pre (spN_pre T (show m ≤ T.length by omega)) h3
  refine may_yes (by rw [lessN_len (by omega)]; omega) ?_ ?_
  · unfold wk at *
    rw [List.all_eq_true] at *
    intro x hx
    obtain ⟨y, hy, rfl⟩ := List.mem_map.1 hx
    exact h2 y (List.mem_of_mem_take hy)
  · unfold sp
    rw [lessN_len (by omega), spN_less (by omega) m (Nat.le_refl _)]
    refine ⟨fun p hp => ?_, ?_⟩
    · obtain ⟨g1, g2⟩ := List.mem_filter.1 hp
      have := h4.1 p g1
      simp at g2
      exact ⟨this.1, by omega⟩
    · exact List.Nodup.sublist (List.Sublist.map _ List.filter_sublist) h4.2
theorem smN_less {T : List Tsk} {m : Int} {j : Nat} (hj : j ≤ T.length) (i : Nat) (hi : i ≤ j) : smN (lessN T m j) i = smN T i := by
  induction i with
  | zero => rfl
  | succ i ih =>
    rw [smN, ih (by omega), smN_succ (show i < T.length by omega), List.getD_eq_getElem?_getD, lessN_at (by omega) hj]; rfl
theorem sm_less {T : List Tsk} {m : Int} {j : Nat} (h : Sm T) (hj : j ≤ T.length) : Sm (lessN T m j) := by
  refine ⟨by rw [lessN_len hj]; have := h.1; omega, fun x hx => ?_⟩
  obtain ⟨y, hy, rfl⟩ := List.mem_map.1 hx
  have := h.2 y (List.mem_of_mem_take hy)
  exact Nat.le_trans (List.length_filter_le _ _) this
/-- An append whose run is known, as one step of a region that draws. -/
theorem step_append_run {P : Program} {ops : Array Oper} {o : Oper} {a : Act} {w : World} {K : Act → World → Prop} {Q : Exit → Act → World → Prop} {E : Prop} {t u : TypeId} {v xv v' : Value} {w' : World}
    (hrun : (Builtin.append_ #[t, t] u #[v, xv]).run P w = .ok v' w')
    (ho : ∃ s x, o.op = .call { callee := .builtin .append, args := #[s, x], argTypes := #[t, t] } ∧ a.eval s = v ∧ a.eval x = xv) (hu : o.type = u) (hg : o.guard = none)
    (hK : K (a.put o.dst v') w') : if Region.wanted o (yielded ops a.tmps) = true then Oper.wp P o a w K Q else E := by
  obtain ⟨s, x, hop, hs, hx⟩ := ho
  subst hu
  have hw : Region.wanted o (yielded ops a.tmps) = true := by simp [Region.wanted, hg]
  rw [if_pos hw]
  unfold Oper.wp
  simp [execOp, hop, resolve, invoke, builtin, hs, hx, hrun, Result.andThen]
  exact hK
/-- A task in its box. -/
def Bx2 (w : World) (g : Nat) (k : Int) (K : Option Addr) (n e : Nat) : Prop := w.heap[g]? = some (.cells #[.int .i64 k, .slice K n e] 36 (0, 0))
theorem Bx2.cells {w : World} {g : Nat} {k : Int} {K : Option Addr} {n e : Nat} (h : Bx2 w g k K n e) : w.cell? ⟨g, 0, none⟩ = some (.int .i64 k) ∧ w.cell? ⟨g, 1, none⟩ = some (.slice K n e) ∧ w.frozen? ⟨g, 1, none⟩ = false := by
  unfold Bx2 at h
  refine ⟨?_, ?_, ?_⟩ <;> simp [World.cell?, World.frozen?, h]
theorem Bx2.set {w : World} {g : Nat} {k : Int} {K : Option Addr} {n e : Nat} (h : Bx2 w g k K n e) (K' : Option Addr) (n' e' : Nat) : Bx2 (w.setCell ⟨g, 1, none⟩ (.slice K' n' e')) g k K' n' e' := by
  unfold Bx2 at h ⊢
  simp [World.setCell, Array.getElem?_modify, h]
theorem src_two (w : World) (k : Int) (l : List Int) (K : Option Addr) (e : Nat) : Src (w.alloc (.cells #[.int .i64 k, .slice K l.length e] 36)) (some ⟨w.heap.size, 0, none⟩) [(k, l)] [(K, e)] := by
  refine ⟨rfl, (fun e => by cases e), fun ad e j v hv => ?_⟩
  cases e
  rw [add_zero']
  have h := World.alloc_heap_new w (.cells #[.int .i64 k, .slice K l.length e] 36)
  simp only [World.cell?, h]
  have hj := (List.getElem?_eq_some_iff.1 hv).1
  simp [flat] at hj
  match j, hj, hv with
  | 0, _, hv => simpa [flat] using hv
  | 1, _, hv => simpa [flat] using hv
theorem fewer_few (A : Option Addr) (c : Nat) (T : List Tsk) (w : World) (ha : Came w A T.length T) (h : few T = false) : Tells 6 #[.slice A T.length c] w (.bool true) := by
  have HA := Lib.hid ha
  have H := Lib.hid h
  clear ha h
  go_enter Try.func6, Try.ntmps6
  go_wp2_with fail
  refine (awake_any _).mono ?_
  rintro _ w1 ⟨rfl, z1⟩
  have Z := Lib.hid z1
  clear z1
  go_wp2_with fail
  refine (Gives.of (few_any A c w.heap.size T w1 (HA.out.2.2.2.below Z.out) HA.out.2.1 HA.out.2.2.1) (v' := .bool false) (by rw [H.out])).mono ?_
  rintro _ _ ⟨rfl, rfl⟩
  go_wp2
  go_ret
  exact ⟨rfl, Z.out⟩
theorem fewer_may (A : Option Addr) (c : Nat) (T : List Tsk) (w : World) (ha : Came w A T.length T) (h : few T = true) (hm : may T = false) : Tells 6 #[.slice A T.length c] w (.bool true) := by
  have HA := Lib.hid ha
  have H := Lib.hid h
  have HS := Lib.hid (few_sm h)
  have hs1 := (few_sm h).1
  have HM := Lib.hid hm
  clear ha h hm
  go_enter Try.func6, Try.ntmps6
  go_wp2_with fail
  refine (awake_any _).mono ?_
  rintro _ w1 ⟨rfl, z1⟩
  have Z := Lib.hid z1
  clear z1
  go_wp2_with fail
  refine (Gives.of (few_any A c w.heap.size T w1 (HA.out.2.2.2.below Z.out) HA.out.2.1 HA.out.2.2.1) (v' := .bool true) (by rw [H.out])).mono ?_
  rintro _ _ ⟨rfl, rfl⟩
  go_wp2_with fail
  refine (Tells.of (may_any A c w.heap.size T _ (HA.out.2.2.2.below Z.out) Z.out.size HS.out) (v' := .bool false) (by rw [HM.out])).mono ?_
  rintro _ w2 ⟨rfl, z2⟩
  replace Z := Lib.hid (Z.out.trans (z2.mono Z.out.size))
  clear z2
  go_wp2
  go_ret
  exact ⟨rfl, Z.out⟩
theorem fewer_nil (A : Option Addr) (c : Nat) (T : List Tsk) (w : World) (ha : Came w A T.length T) (h : few T = true) (hm : may T = true) (h0 : T.length = 0) : Tells 6 #[.slice A T.length c] w (.bool true) := by
  have hne : (T.length == 0) = true := by rw [h0]; rfl
  have hne' : ((T.length : Int) == 0) = true := by rw [h0]; rfl
  clear h0
  have HA := Lib.hid ha
  have H := Lib.hid h
  have HS := Lib.hid (few_sm h)
  have hs1 := (few_sm h).1
  have HM := Lib.hid hm
  clear ha h hm
  go_enter Try.func6, Try.ntmps6
  go_wp2_with fail
  refine (awake_any _).mono ?_
  rintro _ w1 ⟨rfl, z1⟩
  have Z := Lib.hid z1
  clear z1
  go_wp2_with fail
  refine (Gives.of (few_any A c w.heap.size T w1 (HA.out.2.2.2.below Z.out) HA.out.2.1 HA.out.2.2.1) (v' := .bool true) (by rw [H.out])).mono ?_
  rintro _ _ ⟨rfl, rfl⟩
  go_wp2_with fail
  refine (Tells.of (may_any A c w.heap.size T _ (HA.out.2.2.2.below Z.out) Z.out.size HS.out) (v' := .bool true) (by rw [HM.out])).mono ?_
  rintro _ w2 ⟨rfl, z2⟩
  replace Z := Lib.hid (Z.out.trans (z2.mono Z.out.size))
  clear z2
  go_wp2
  go_ret
  exact ⟨rfl, Z.out⟩
set_option maxRecDepth 100000 in
set_option maxHeartbeats 4000000 in
theorem fewer_all (A : Option Addr) (c : Nat) (T : List Tsk) (m : Nat) (w : World) (ha : Came w A T.length T) (h : few T = true) (hm : may T = true) (hl : T.length = m + 1) : Tells 6 #[.slice A T.length c] w (.bool true) := by
  have h30 := (may_parts hm).1
  have hne : (T.length == 0) = false := by rw [hl]; rfl
  have hne' : ((T.length : Int) == 0) = false := by rw [hl]; simp; omega
  have HL := Lib.hid hl
  have hml : m < T.length := by omega
  have ML := Lib.hid (may_less hm hl)
  clear hl
  have HA := Lib.hid ha
  have H := Lib.hid h
  have HS := Lib.hid (few_sm h)
  have hs1 := (few_sm h).1
  have HM := Lib.hid hm
  clear ha h hm
  go_enter Try.func6, Try.ntmps6
  go_wp2_with fail
  refine (awake_any _).mono ?_
  rintro _ w1 ⟨rfl, z1⟩
  have Z := Lib.hid z1
  clear z1
  go_wp2_with fail
  refine (Gives.of (few_any A c w.heap.size T w1 (HA.out.2.2.2.below Z.out) HA.out.2.1 HA.out.2.2.1) (v' := .bool true) (by rw [H.out])).mono ?_
  rintro _ _ ⟨rfl, rfl⟩
  go_wp2_with fail
  refine (Tells.of (may_any A c w.heap.size T _ (HA.out.2.2.2.below Z.out) Z.out.size HS.out) (v' := .bool true) (by rw [HM.out])).mono ?_
  rintro _ w2 ⟨rfl, z2⟩
  replace Z := Lib.hid (Z.out.trans (z2.mono Z.out.size))
  clear z2
  go_wp2_with fail
  have hz2 := Z.out.size
  go_loopw [5, 6] (fun s v wr => ∃ (j : Nat) (Q : Option Addr) (d : Nat) (Ks : List (Option Addr × Nat)), j ≤ m ∧ v = .int .i64 j ∧ s = .slice Q j d ∧ Blt wr w2.heap.size Q j d (lessN T m j) Ks ∧ Below w2.heap.size w2 wr) (fun _ v _ => m - (intOf v).toNat)
  case atStart => exact ⟨0, none, 0, [], Nat.zero_le _, rfl, rfl, Blt.nil _ _, Below.refl _ _⟩
  case round =>
    obtain ⟨wo, hwo⟩ : ∃ wo, wo = wr := ⟨_, rfl⟩
    subst hwo
    obtain ⟨j, Q, d, Ks, hj, rfl, rfl, hblt, hb⟩ := hrel
    have BLT := Lib.hid hblt
    have HB := Lib.hid hb
    have hzr := hb.size
    clear hblt hb
    by_cases hjm : j < m
    · have hjl : j < T.length := by omega
      have hlt : (j : Int) < (T.length : Int) - 1 := by omega
      have hlt' : (j : Int) + 1 < (T.length : Int) := by omega
      have ZZ := Lib.hid (Z.out.trans (HB.out.mono Z.out.size))
      obtain ⟨tb, to, tK, tc, rfl, htl, t0, t1, tr⟩ := (HA.out.2.2.2.below ZZ.out).at hjl
      have hkl := HS.out.at hjl
      have TR := Lib.hid tr
      have B0 := Lib.hid (show Bx2 (wo.alloc (.cells #[.int .i64 T[j].1, .slice none 0 0] 36)) wo.heap.size T[j].1 none 0 0 from World.alloc_heap_new wo _)
      clear tr
      go_wp2
      go_loopw [8] (fun v wx => ∃ (q : Nat) (K : Option Addr) (e : Nat), q ≤ T[j].2.length ∧ v = .int .i64 q ∧ Bx2 wx wo.heap.size T[j].1 K ((T[j].2.take q).filter fun k => decide (k ≠ (m : Int))).length e ∧ Own wx (wo.heap.size + 1) K ((T[j].2.take q).filter fun k => decide (k ≠ (m : Int))).length e ((T[j].2.take q).filter fun k => decide (k ≠ (m : Int))) ∧ Below wo.heap.size wo wx) (fun v _ => T[j].2.length - (intOf v).toNat)
      case atStart => exact ⟨0, none, 0, Nat.zero_le _, rfl, B0.out, World.ownsRow_nil _ _ _ _, (Below.refl _ _).alloc (Nat.le_refl _) _⟩
      case round =>
        obtain ⟨q, K, e, hq, rfl, hbx, hown, hbw⟩ := hrel
        have BX := Lib.hid hbx
        have OW := Lib.hid hown
        have BW := Lib.hid hbw
        obtain ⟨x0, x1, xf⟩ := hbx.cells
        have htb : tb < wo.heap.size := by omega
        have t0' : wr.cell? ⟨tb, to + j * 2, none⟩ = some (.int .i64 T[j].1) := (hbw.cell (p := ⟨tb, to + j * 2, none⟩) htb).trans t0
        have t1' : wr.cell? ⟨tb, to + j * 2 + 1, none⟩ = some (.slice tK T[j].2.length tc) := (hbw.cell (p := ⟨tb, to + j * 2 + 1, none⟩) htb).trans t1
        have hbl : wo.heap.size < wr.heap.size := (Array.getElem?_eq_some_iff.1 hbx).1
        clear hbx hown hbw
        by_cases hql : q < T[j].2.length
        · obtain ⟨kb, ko, rfl, hkb, kc⟩ := TR.out.at hql
          have kc' : wr.cell? ⟨kb, ko + q, none⟩ = some (.int .i64 T[j].2[q]) := (BW.out.cell (p := ⟨kb, ko + q, none⟩) (show kb < wo.heap.size by omega)).trans kc
          have hfs := List.take_succ_eq_append_getElem hql
          have hfl : ((T[j].2.take q).filter fun k => decide (k ≠ (m : Int))).length ≤ 1000 := by
            have h1 := List.length_filter_le (fun k => decide (k ≠ (m : Int))) (T[j].2.take q)
            have h2 : (T[j].2.take q).length ≤ T[j].2.length := by simp; omega
            omega
          generalize hx : T[j].2[q] = x at *
          have FS := Lib.hid hfs
          clear hx hfs kc
          by_cases hxm : x = m
          · have hxe : (x != (T.length : Int) - 1) = false := by rw [HL.out, hxm]; simp
            have E1 := Lib.hid (show ((T[j].2.take (q + 1)).filter fun k => decide (k ≠ (m : Int))) = ((T[j].2.take q).filter fun k => decide (k ≠ (m : Int))) by rw [FS.out, List.filter_append, hxm]; simp)
            clear hxm
            go_wp2
            go_roundw
            case rel => exact ⟨q + 1, K, e, by omega, by go_num, by rw [E1.out]; exact BX.out, by rw [E1.out]; exact OW.out, BW.out⟩
            case measure => simp [intOf]; omega
          · have hxe : (x != (T.length : Int) - 1) = true := by
              have : ¬ x = (T.length : Int) - 1 := by rw [HL.out]; omega
              simpa using this
            have E1 := Lib.hid (show ((T[j].2.take (q + 1)).filter fun k => decide (k ≠ (m : Int))) = ((T[j].2.take q).filter fun k => decide (k ≠ (m : Int))) ++ [x] by rw [FS.out, List.filter_append]; simp [hxm])
            clear hxm
            generalize hP : ((T[j].2.take q).filter fun k => decide (k ≠ (m : Int))) = P at *
            have OWd : Own wr.drew (wo.heap.size + 1) K P.length e P := OW.out
            obtain ⟨K', e', w7, hrun, hown7, hg7, hblk⟩ := app_one (OWd.alloc (.cells #[.int .i64 x] 3)) x (Boxed.new wr.drew 3 (.int .i64 x)).cell (by omega) (by show wo.heap.size + 1 ≤ (wr.heap.push _).size; rw [Array.size_push]; omega)
            have hnb : some wo.heap.size ≠ (Value.slice K P.length e).ownBlock := fun h => by have := (World.ownsRow.lt OW.out _ h.symm).1; omega
            have hbx7 : Bx2 w7 wo.heap.size T[j].1 K P.length e := (hg7.block _ (by show wo.heap.size < (wr.heap.push _).size; rw [Array.size_push]; omega) hnb).trans ((Below.heap_alloc wr.drew _ _ (show wo.heap.size < wr.heap.size from hbl)).trans BX.out)
            obtain ⟨_, y1, yf⟩ := hbx7.cells
            have hb7 : Below wo.heap.size wo w7 := (BW.out.drew.alloc (show wo.heap.size ≤ wr.heap.size by omega) (.cells #[.int .i64 x] 3)).grown hg7 (by show wo.heap.size ≤ (wr.heap.push _).size; rw [Array.size_push]; omega) (fun k e => by have := (World.ownsRow.lt OW.out k e).1; omega)
            have RUN := Lib.hid hrun
            have OW7 := Lib.hid hown7
            have BX7 := Lib.hid hbx7
            have B7 := Lib.hid hb7
            have HP := Lib.hid hP
            clear hrun hown7 hg7 hblk hbx7 hb7 OWd hP
            go_wp2
            go_region_law (refine step_append_run RUN.out ⟨_, _, rfl, rfl, rfl⟩ rfl rfl ?_)
            all_goals
              go_wp2
              go_roundw
              case rel => exact ⟨q + 1, K', e', by omega, by go_num, by rw [E1.out, List.length_append]; exact BX7.out.set _ _ _, by rw [E1.out, List.length_append]; exact OW7.out.kept (fun k hk => Below.heap_setCell _ _ _ k (fun e => by have := (World.ownsRow.lt OW7.out k hk).1; simp only at e; omega)), B7.out.setCell (p := ⟨wo.heap.size, 1, none⟩) (Nat.le_refl _) _⟩
              case measure => simp [intOf]; omega
        · obtain rfl : q = T[j].2.length := by omega
          have E2 : T[j].2.take T[j].2.length = T[j].2 := List.take_length
          have OW2 := OW.out
          have BX2' := BX.out
          rw [E2] at OW2 BX2' x1
          clear OW BX E2
          have hfl : (T[j].2.filter fun k => decide (k ≠ (m : Int))).length ≤ 1000 := by
            have h1 := List.length_filter_le (fun k => decide (k ≠ (m : Int))) T[j].2
            omega
          have hcut : Hid (cut (m : Int) T[j] = (T[j].1, T[j].2.filter fun k => decide (k ≠ (m : Int)))) := rfl
          generalize (T[j].2.filter fun k => decide (k ≠ (m : Int))) = P at *
          have blt1 := (BLT.out.kept BW.out).kept ((Below.refl wr.heap.size wr).alloc (Nat.le_refl _) (.cells #[.int .i64 T[j].1, .slice K P.length e] 36))
          have hlb := World.ownsRow.lt BLT.out.2.2.1
          obtain ⟨Q', d', w9, hrun, blt9, g9⟩ := app_tasks (m := 1) (T' := [(T[j].1, P)]) (Ks' := [(K, e)]) blt1 1 (src_two wr T[j].1 P K e) (fun i y kk hy hkk => by
            have hi := (List.getElem?_eq_some_iff.1 hy).1
            have : i = 0 := by simp at hi; omega
            subst this
            cases hy
            cases hkk
            intro hp
            obtain ⟨b, off, eb, hb1, hb2⟩ := (OW2.alloc (.cells #[.int .i64 T[j].1, .slice K P.length e] 36)).rd.rdB hp
            refine ⟨b, off, eb, hb1, fun hbq => ?_, hb2⟩
            have h1 := (hlb b hbq.symm).2
            have h2 := (World.ownsRow.lt OW2 b (by rw [show K = _ from eb]; rfl)).1
            omega) rfl (by omega) (by simp; omega)
          have hb9 : Below w2.heap.size w2 w9 := ((HB.out.trans (BW.out.mono hzr)).alloc (by omega) _).grown g9 (by simp; omega) (fun k e => (World.ownsRow.lt blt1.2.2.1 k e).1)
          have RUN := Lib.hid hrun
          have BL9 := Lib.hid blt9
          have B9 := Lib.hid hb9
          have LS := Lib.hid (lessN_succ (m := (m : Int)) hjl)
          clear hrun blt9 hb9 g9 blt1 OW2 BX2' hlb
          go_wp2_with (at_builtin; (with_reducible refine wpList_append_run RUN.out ?_ ?_ ?_ ?_); exact ⟨_, _, rfl, rfl, rfl⟩; rfl; rfl)
          go_roundw
          case rel => exact ⟨j + 1, Q', d', _, by omega, by go_num, rfl, by rw [LS.out, hcut.out]; exact BL9.out, B9.out⟩
          case measure => simp [intOf]; omega
    · obtain rfl : j = m := by omega
      have ZZ := Lib.hid (Z.out.trans (HB.out.mono Z.out.size))
      have hnl : ¬ (j : Int) < (T.length : Int) - 1 := by rw [HL.out]; omega
      have hnl' : ¬ (j : Int) + 1 < (T.length : Int) := by rw [HL.out]; omega
      have hwk := (may_parts HM.out).2.1
      obtain ⟨n1, n2⟩ := wk_at hwk hml
      obtain ⟨m1, m2⟩ := smN_le hwk (show j ≤ T.length by omega)
      have SL := Lib.hid (smN_less (T := T) (m := (j : Int)) (show j ≤ T.length by omega) j (Nat.le_refl _))
      have SS := Lib.hid (show smN T T.length = smN T j + T[j].1 by rw [HL.out]; exact smN_succ hml)
      have LL := Lib.hid (lessN_len (T := T) (m := (j : Int)) (show j ≤ T.length by omega))
      clear hwk
      go_wp2_with fail
      refine (Tells.of (sums_any A c w.heap.size T _ (HA.out.2.2.2.below ZZ.out) ZZ.out.size HS.out) (v' := .tuple #[.int .i64 T.length, .int .i64 (smN T j + T[j].1)]) (by unfold sms; rw [HM.out, if_pos rfl]; show Value.tuple #[_, .int .i64 (smN T T.length)] = _; rw [SS.out])).mono ?_
      rintro _ w6 ⟨rfl, z6⟩
      replace ZZ := Lib.hid (ZZ.out.trans (z6.mono ZZ.out.size))
      replace BLT := Lib.hid (BLT.out.kept z6)
      clear z6
      go_wp2_with fail
      have C := sums_any Q d _ (lessN T j j) _ BLT.out.tk (Nat.le_refl _) (sm_less HS.out (by omega))
      unfold sms at C
      rw [if_pos ML.out, LL.out, SL.out] at C
      refine C.mono ?_
      rintro _ w7 ⟨rfl, z7⟩
      replace ZZ := Lib.hid (ZZ.out.trans (z7.mono ZZ.out.size))
      replace BLT := Lib.hid (BLT.out.kept z7)
      clear z7 C
      go_wp2_with fail
      have C := may_any Q d _ (lessN T j j) _ BLT.out.tk (Nat.le_refl _) (sm_less HS.out (by omega))
      rw [LL.out, ML.out] at C
      refine C.mono ?_
      rintro _ w8 ⟨rfl, z8⟩
      replace ZZ := Lib.hid (ZZ.out.trans (z8.mono ZZ.out.size))
      clear z8 C
      obtain ⟨tb, to, tK, tc, rfl, htl, t0, _, _⟩ := (HA.out.2.2.2.below ZZ.out).at hml
      have hx1 : (T.length : Int) - 1 = (j : Int) := by rw [HL.out]; omega
      have hx2 : ((T.length : Int) == (j : Int) + 1) = true := by rw [HL.out]; simp
      go_wp2
      go_ret
      exact ⟨rfl, ZZ.out⟩
theorem forestFewer_walk (A : Option Addr) (n c : Nat) (T : List Tsk) (w : World) (ha : Came w A n T) : Tells 6 #[.slice A n c] w (.bool true) := by
  obtain rfl := ha.1
  cases h : few T
  · exact fewer_few A c T w ha h
  · cases hm : may T
    · exact fewer_may A c T w ha h hm
    · by_cases h0 : T.length = 0
      · exact fewer_nil A c T w ha h hm h0
      · exact fewer_all A c T (T.length - 1) w ha h hm (by omega)
end Go.Proofs.Ytajbnpjdhmeeiaa
