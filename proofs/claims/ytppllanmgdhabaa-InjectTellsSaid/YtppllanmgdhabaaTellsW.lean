/- The walk of InjectTells. -/
import Derived.Test.YtppllanmgdhabaaIkJ
import Derived.Test.YtppllanmgdhabaaIkUZ
import Derived.Test.YtppllanmgdhabaaSameR
namespace Go.Proofs.Ytppllanmgdhabaa
open Go.RowKit Go.Deep Go.Shelf
attribute [local go_sem ↓] eql_fr guard_fr
set_option maxRecDepth 100000 in
theorem restIR_lens {J : Int} : ∀ (k : Nat) (m : List Int) (a : List Fr), (restIR J k m a).1.length = m.length ∧ (restIR J k m a).2.length = a.length
  | 0, _, _ => ⟨rfl, rfl⟩
  | k + 1, m, a => by
    obtain ⟨h1, h2⟩ := restIR_lens (J := J) k (restIL J m a).1 (restIL J m a).2
    obtain ⟨h3, h4⟩ := restIL_len J a m
    rw [restIR_succ]
    exact ⟨h1.trans h3, h2.trans h4⟩
set_option maxRecDepth 100000 in
theorem rsI_lens (J : Int) (m : List Int) (a : List Fr) : (rsI J m a).1.length ≤ m.length ∧ (rsI J m a).2.length ≤ a.length := by
  unfold rsI
  split
  · obtain ⟨h1, h2⟩ := restIR_lens (J := J) 10 m a
    exact ⟨by omega, by omega⟩
  · simp
set_option maxRecDepth 100000 in
theorem same_n {A B : Option Addr} {n c d : Nat} {l : List Int} {w : World} (ha : Rd w A l) (hb : Rd w B l) (hn : l.length = n) (hs : n ≤ 501) : Tells 18 #[.slice A n c, .slice B n d] w (.bool true) :=
  (rsame_eq A B n c d l l w ha hb hn hn hs).mono fun _ _ h => ⟨h.1.trans (by simp), h.2⟩
set_option maxRecDepth 100000 in
theorem frames_n {A B : Option Addr} {n c d : Nat} {l : List Fr} {w : World} (ha : Pr w.heap.size w A l) (hb : Pr w.heap.size w B l) (hn : l.length = n) (hs : n ≤ 1000) : Tells 19 #[.slice A n c, .slice B n d] w (.bool true) :=
  frames_same A B n c d l w ha hb hn hs
set_option maxRecDepth 100000 in
theorem ristep_t {W D J S : Int} {A : Option Addr} {n c : Nat} {l : List Int} {f : Fr} {w : World} (h : Rd w A l) (hn : l.length = n) (hs : n ≤ 500) (hu : UM l) (hf : UF f) {l' : List Int} {f' : Fr} (e : insS W D J S l f = (l', f')) :
    Calls Try.prog 13 #[cf W D J S, .slice A n c, fv f] w (RetT w n l' f') := (ristep_n h hn hs hu hf e).mono fun _ _ hr => hr.t h
/-- What a play leaves, its lengths known. -/
def RetPn (w : World) (s : List Int × List Fr × List Fr) (k1 k2 k3 : Nat) (e : Ending) (w' : World) : Prop :=
  ∃ Am cm Ao co Aa ca, e = .returned (.tuple #[.slice Am k1 cm, .slice Ao k2 co, .slice Aa k3 ca]) ∧ Rd w' Am s.1 ∧ Pr w'.heap.size w' Ao s.2.2 ∧ Pr w'.heap.size w' Aa s.2.1 ∧ Below w.heap.size w w'
set_option maxRecDepth 100000 in
theorem RetPl.n {w : World} {s : List Int × List Fr × List Fr} {k1 k2 k3 : Nat} {e : Ending} {w' : World} (h1 : s.1.length = k1) (h2 : s.2.2.length = k2) (h3 : s.2.1.length = k3) (h : RetPl w s.1 s.2.1 s.2.2 e w') : RetPn w s k1 k2 k3 e w' := by
  obtain ⟨Am, cm, Ao, co, Aa, ca, he, x1, x2, _, x3, z⟩ := h
  rw [h1, h2, h3] at he
  exact ⟨Am, cm, Ao, co, Aa, ca, he, x1, x2, x3, z⟩
set_option maxRecDepth 100000 in
theorem play_n {J : Int} {A B : Option Addr} {nc cc nw cw k1 k2 k3 : Nat} {vs : List Value} {calls : List (List Fr)} {who : List Int} {s : List Int × List Fr × List Fr} {w : World} (hA : Rv w A vs) (hL : Ls w.heap.size w vs calls) (hB : Ri w B who) (hnc : calls.length = nc) (hnw : who.length = nw) (hw5 : nw ≤ 504) (hu : (∀ l ∈ calls, ∀ f ∈ l, UF f) ∧ ∀ l ∈ calls, l.length ≤ 500) (e : plI J calls who = s) (h1 : s.1.length = k1) (h2 : s.2.2.length = k2) (h3 : s.2.1.length = k3) :
    Calls Try.prog 14 #[.int .i64 J, .slice A nc cc, .slice B nw cw] w (RetPn w s k1 k2 k3) := by
  subst e
  exact (play_any J A B nc cc nw cw vs calls who w hA hL hB hnc hnw hw5 hu.1 hu.2).mono fun _ _ h => RetPl.n h1 h2 h3 h
set_option maxRecDepth 100000 in
theorem rplay_n {J : Int} {A B : Option Addr} {nc cc nw cw k1 k2 k3 : Nat} {vs : List Value} {calls : List (List Fr)} {who : List Int} {s : List Int × List Fr × List Fr} {w : World} (hA : Rv w A vs) (hL : Ls w.heap.size w vs calls) (hB : Ri w B who) (hnc : calls.length = nc) (hnw : who.length = nw) (hw5 : nw ≤ 504) (hu : (∀ l ∈ calls, ∀ f ∈ l, UF f) ∧ ∀ l ∈ calls, l.length ≤ 500) (e : plI J calls who = s) (h1 : s.1.length = k1) (h2 : s.2.2.length = k2) (h3 : s.2.1.length = k3) :
    Calls Try.prog 15 #[.int .i64 J, .slice A nc cc, .slice B nw cw] w (RetPn w s k1 k2 k3) := by
  subst e
  exact (rplay_any J A B nc cc nw cw vs calls who w hA hL hB hnc hnw hw5 hu.1 hu.2).mono fun _ _ h => RetPl.n h1 h2 h3 h
/-- What a rest leaves, its lengths known. -/
def RetRn (w : World) (m : List Int) (a : List Fr) (k1 k2 : Nat) (e : Ending) (w' : World) : Prop :=
  ∃ A c B d, e = .returned (.tuple #[.slice A k1 c, .slice B k2 d]) ∧ Rd w' A m ∧ Pr w'.heap.size w' B a ∧ Below w.heap.size w w'
set_option maxRecDepth 100000 in
theorem RetRe.n {w : World} {m : List Int} {a : List Fr} {k1 k2 : Nat} {e : Ending} {w' : World} (h1 : m.length = k1) (h2 : a.length = k2) (h : RetRe w m a e w') : RetRn w m a k1 k2 e w' := by
  unfold RetRe at h
  rw [h1, h2] at h
  exact h
set_option maxRecDepth 100000 in
theorem rest_n {J : Int} {A B : Option Addr} {nm cm na ca k1 k2 : Nat} {m r : List Int} {a q : List Fr} {w : World} (hM : Rd w A m) (hP : Pr w.heap.size w B a) (hnm : m.length = nm) (hna : a.length = na) (hna5 : na ≤ 100) (hnm5 : nm ≤ 500) (hu : UM m) (hf : ∀ f ∈ a, UF f) (e : rsI J m a = (r, q)) (h1 : r.length = k1) (h2 : q.length = k2) :
    Calls Try.prog 16 #[.int .i64 J, .slice A nm cm, .slice B na ca] w (RetRn w r q k1 k2) := by
  have h := rest_any J A B nm cm na ca m a w hM hP hnm hna hna5 hnm5 hu hf
  rw [e] at h
  exact h.mono fun _ _ h => RetRe.n h1 h2 h
set_option maxRecDepth 100000 in
theorem rrest_n {J : Int} {A B : Option Addr} {nm cm na ca k1 k2 : Nat} {m r : List Int} {a q : List Fr} {w : World} (hM : Rd w A m) (hP : Pr w.heap.size w B a) (hnm : m.length = nm) (hna : a.length = na) (hna5 : na ≤ 100) (hnm5 : nm ≤ 500) (hu : UM m) (hf : ∀ f ∈ a, UF f) (e : rsI J m a = (r, q)) (h1 : r.length = k1) (h2 : q.length = k2) :
    Calls Try.prog 17 #[.int .i64 J, .slice A nm cm, .slice B na ca] w (RetRn w r q k1 k2) := by
  have h := rrest_any J A B nm cm na ca m a w hM hP hnm hna hna5 hnm5 hu hf
  rw [e] at h
  exact h.mono fun _ _ h => RetRe.n h1 h2 h
set_option maxRecDepth 100000 in
theorem tells_big (W D J S : Int) (A B C E : Option Addr) (n c nc cc nw cw na ca : Nat) (vs : List Value) (calls : List (List Fr)) (f : Fr) (w : World) (hA : Rv w B vs) (hL : Ls w.heap.size w vs calls) (hnc : calls.length = nc) (hn : fewC calls = false ∨ 500 < n ∨ 500 < nw ∨ 10 < na) : Tells 3 #[cf W D J S, .slice A n c, fv f, .slice B nc cc, .slice C nw cw, .slice E na ca] w (.bool true) := by
  obtain ⟨BX, BF, Z0, hz⟩ := boxes2 w W D J S f
  have HA := Lib.hid hA
  have HL := Lib.hid hL
  have HNC := Lib.hid hnc
  clear hA hL hnc
  obtain ⟨o, p, q, v, x, y, s⟩ := f
  go_enter Try.func3, Try.ntmps3
  go_wp2_with fail
  change Calls _ _ _ (bxc w W D J S ⟨o, p, q, v, x, y, s⟩) _
  generalize bxc w W D J S ⟨o, p, q, v, x, y, s⟩ = w0 at BX BF Z0 hz ⊢
  refine (awake_any _).mono ?_
  rintro _ w1 ⟨rfl, z⟩
  have Z := Lib.hid (Z0.trans (z.mono (by omega)))
  clear z Z0
  obtain ⟨fb, hfb⟩ : ∃ fb, fewC calls = fb := ⟨_, rfl⟩
  rw [hfb] at hn
  have HFB := Lib.hid hfb
  clear hfb
  go_wp2_with fail
  refine (Tells.of (fewcalls_any B nc cc vs calls _ (HA.out.below Z.out) (HL.out.later Z.out) HNC.out) (v' := .bool fb) (by rw [HFB.out])).mono ?_
  rintro _ w2 ⟨rfl, z⟩
  replace Z := Lib.hid (Z.out.trans (z.mono Z.out.size))
  clear z
  cases fb
  · clear hn
    go_wp2
    go_ret
    exact ⟨rfl, Z.out⟩
  by_cases h1 : 500 < n
  · have d1 : decide ((n : Int) > 500) = true := decide_eq_true (by omega)
    clear hn
    go_wp2
    go_ret
    exact ⟨rfl, Z.out⟩
  · have d1 : decide ((n : Int) > 500) = false := decide_eq_false (by omega)
    by_cases h2 : 500 < nw
    · have d2 : decide ((nw : Int) > 500) = true := decide_eq_true (by omega)
      clear hn
      go_wp2
      go_ret
      exact ⟨rfl, Z.out⟩
    · have d2 : decide ((nw : Int) > 500) = false := decide_eq_false (by omega)
      have d3 : decide ((na : Int) > 10) = true := decide_eq_true (by rcases hn with h | h | h | h <;> first | omega | cases h)
      clear h1 h2 hn
      go_wp2
      go_ret
      exact ⟨rfl, Z.out⟩
set_option maxRecDepth 100000 in
set_option maxHeartbeats 4000000 in
theorem tells_main (W D J S : Int) (A B C E : Option Addr) (n c nc cc nw cw na ca : Nat) (m : List Int) (vs : List Value) (calls : List (List Fr)) (own : List Fr) (who : List Int) (f : Fr) (w : World) (hm : Rd w A m) (hn : m.length = n) (hA : Rv w B vs) (hL : Ls w.heap.size w vs calls) (hnc : calls.length = nc) (hW : Ri w C who) (hnw : who.length = nw) (hPr : Pr w.heap.size w E own) (hna : own.length = na) (hfew : fewC calls = true) (hs : n ≤ 500) (hw : nw ≤ 500) (ho : na ≤ 10) (hu : UM m) (hf : UF f) (huc : ∀ l ∈ calls, ∀ f ∈ l, UF f) (huo : ∀ f ∈ own, UF f) : Tells 3 #[cf W D J S, .slice A n c, fv f, .slice B nc cc, .slice C nw cw, .slice E na ca] w (.bool true) := by
  obtain ⟨BX0, BF0, Z0, hz⟩ := boxes2 w W D J S f
  have hlen2 := (insS_len W D J S m f).trans hn
  obtain ⟨l', f', hP⟩ : ∃ l' f', insS W D J S m f = (l', f') := ⟨_, _, rfl⟩
  rw [hP] at hlen2
  simp only at hlen2
  have hfc := fewC_of hfew
  have hun : (∀ l ∈ calls, ∀ f ∈ l, UF f) ∧ ∀ l ∈ calls, l.length ≤ 500 := ⟨huc, fun l hl => Nat.le_trans (hfc.2 l hl) (by omega)⟩
  obtain ⟨us, ua, lm, la, lo⟩ := plI_U (J := J) hun.1 hun.2 who
  obtain ⟨S1, hS1⟩ : ∃ S1, plI J calls who = S1 := ⟨_, rfl⟩
  rw [hS1] at us ua lm la lo
  obtain ⟨lr1, lr2⟩ := rsI_lens J S1.1 S1.2.1
  obtain ⟨r1, r2, hR⟩ : ∃ r1 r2, rsI J S1.1 S1.2.1 = (r1, r2) := ⟨_, _, rfl⟩
  rw [hR] at lr1 lr2
  simp only at lr1 lr2
  obtain ⟨lq1, lq2⟩ := rsI_lens J m own
  obtain ⟨q1, q2, hQ⟩ : ∃ q1 q2, rsI J m own = (q1, q2) := ⟨_, _, rfl⟩
  rw [hQ] at lq1 lq2
  simp only at lq1 lq2
  obtain ⟨k1, hk1⟩ : ∃ k1, S1.1.length = k1 := ⟨_, rfl⟩
  obtain ⟨k2, hk2⟩ : ∃ k2, S1.2.2.length = k2 := ⟨_, rfl⟩
  obtain ⟨k3, hk3⟩ : ∃ k3, S1.2.1.length = k3 := ⟨_, rfl⟩
  obtain ⟨k4, hk4⟩ : ∃ k4, r1.length = k4 := ⟨_, rfl⟩
  obtain ⟨k5, hk5⟩ : ∃ k5, r2.length = k5 := ⟨_, rfl⟩
  obtain ⟨k6, hk6⟩ : ∃ k6, q1.length = k6 := ⟨_, rfl⟩
  obtain ⟨k7, hk7⟩ : ∃ k7, q2.length = k7 := ⟨_, rfl⟩
  have g1 : k1 ≤ 500 := by omega
  have g2 : k2 ≤ 1000 := by omega
  have g3 : k3 ≤ 100 := by omega
  have g4 : k4 ≤ 501 := by omega
  have g5 : k5 ≤ 1000 := by omega
  have g6 : k6 ≤ 501 := by omega
  have g7 : k7 ≤ 1000 := by omega
  have g0 : na ≤ 100 := by omega
  have g8 : nw ≤ 504 := by omega
  have g9 : n ≤ 501 := by omega
  have g10 : k1 ≤ 501 := by omega
  have g12 : k3 ≤ 1000 := by omega
  have d1 : decide ((n : Int) > 500) = false := decide_eq_false (by omega)
  have d2 : decide ((nw : Int) > 500) = false := decide_eq_false (by omega)
  have d3 : decide ((na : Int) > 10) = false := decide_eq_false (by omega)
  obtain ⟨o, p, q, v, x, y, s⟩ := f
  have HP := Lib.hid hP
  have HN := Lib.hid hn
  have HU := Lib.hid hf
  have HUM := Lib.hid hu
  have HS := Lib.hid hs
  have HL2 := Lib.hid hlen2
  have LM0 := Lib.hid hm
  have OW0 := Lib.hid hPr
  have WH0 := Lib.hid hW
  have RV0 := Lib.hid hA
  have LS0 := Lib.hid hL
  have HNO := Lib.hid hna
  have HNW := Lib.hid hnw
  have HNC := Lib.hid hnc
  have HUO := Lib.hid huo
  have HUN := Lib.hid hun
  have HUS := Lib.hid us
  have HUA := Lib.hid ua
  have HS1 := Lib.hid hS1
  have HR := Lib.hid hR
  have HQ := Lib.hid hQ
  have HFW := Lib.hid hfew
  have HK1 := Lib.hid hk1
  have HK2 := Lib.hid hk2
  have HK3 := Lib.hid hk3
  have HK4 := Lib.hid hk4
  have HK5 := Lib.hid hk5
  have HK6 := Lib.hid hk6
  have HK7 := Lib.hid hk7
  have G0 := Lib.hid g0
  have G1 := Lib.hid g1
  have G2 := Lib.hid g2
  have G3 := Lib.hid g3
  have G4 := Lib.hid g4
  have G5 := Lib.hid g5
  have G6 := Lib.hid g6
  have G7 := Lib.hid g7
  have G8 := Lib.hid g8
  have G9 := Lib.hid g9
  have G10 := Lib.hid g10
  have G12 := Lib.hid g12
  clear hP hn hf hu hs hlen2 hm hPr hW hA hL hna hnw hnc huo hun us ua hS1 hR hQ hfew hk1 hk2 hk3 hk4 hk5 hk6 hk7 g0 g1 g2 g3 g4 g5 g6 g7 g8 g9 g10 g12 lm la lo lr1 lr2 lq1 lq2 ho hw huc hfc
  go_enter Try.func3, Try.ntmps3
  go_wp2_with fail
  change Calls _ _ _ (bxc w W D J S ⟨o, p, q, v, x, y, s⟩) _
  generalize bxc w W D J S ⟨o, p, q, v, x, y, s⟩ = w0 at BX0 BF0 Z0 hz ⊢
  refine (awake_any _).mono ?_
  rintro _ w1 ⟨rfl, z⟩
  have Z := Lib.hid (Z0.trans (z.mono (by omega)))
  have BX := Lib.hid (BX0.below z)
  have BF := Lib.hid (BF0.after z)
  have LM := Lib.hid (LM0.out.below Z.out)
  have OW := Lib.hid (OW0.out.later Z.out)
  have WH := Lib.hid (WH0.out.below Z.out)
  have RV := Lib.hid (RV0.out.below Z.out)
  have LS := Lib.hid (LS0.out.later Z.out)
  clear z Z0 BX0 BF0 hz LM0 OW0 WH0 RV0 LS0
  go_wp2_with fail
  refine (Tells.of (fewcalls_any B nc cc vs calls _ RV.out LS.out HNC.out) (v' := .bool true) (by rw [HFW.out])).mono ?_
  rintro _ w2 ⟨rfl, z⟩
  replace Z := Lib.hid (Z.out.trans (z.mono Z.out.size))
  replace BX := Lib.hid (BX.out.below z)
  replace BF := Lib.hid (BF.out.after z)
  replace LM := Lib.hid (LM.out.below z)
  replace OW := Lib.hid (OW.out.later z)
  replace WH := Lib.hid (WH.out.below z)
  replace RV := Lib.hid (RV.out.below z)
  replace LS := Lib.hid (LS.out.later z)
  clear z
  obtain ⟨gx, x_0, x_1, x_2, x_3⟩ := BX.out
  obtain ⟨a0, a1, a2, a3, a4, a5, a6⟩ := BF.out.cells
  have la := BF.out.lt
  simp only at a0 a1 a2 a3 a4 a5 a6
  go_wp2_with fail
  refine (istep_n LM.out HN.out HS.out HUM.out HU.out HP.out).mono ?_
  rintro _ w3 ⟨A3, c3, rfl, hn3, z⟩
  clear gx x_0 x_1 x_2 x_3 a0 a1 a2 a3 a4 a5 a6 la
  replace Z := Lib.hid (Z.out.trans (z.mono Z.out.size))
  replace BX := Lib.hid (BX.out.below z)
  replace BF := Lib.hid (BF.out.after z)
  replace LM := Lib.hid (LM.out.below z)
  replace OW := Lib.hid (OW.out.later z)
  replace WH := Lib.hid (WH.out.below z)
  replace RV := Lib.hid (RV.out.below z)
  replace LS := Lib.hid (LS.out.later z)
  have LA := Lib.hid hn3.rd
  clear hn3 z
  obtain ⟨gx, x_0, x_1, x_2, x_3⟩ := BX.out
  obtain ⟨a0, a1, a2, a3, a4, a5, a6⟩ := BF.out.cells
  have la := BF.out.lt
  simp only at a0 a1 a2 a3 a4 a5 a6
  go_wp2_with fail
  refine (ristep_t (LM.out.alloc _) HN.out HS.out HUM.out HU.out HP.out).mono ?_
  rintro _ w4 ⟨A4, c4, rfl, hn4, z⟩
  clear gx x_0 x_1 x_2 x_3 a0 a1 a2 a3 a4 a5 a6 la
  have BG := Lib.hid ((Bf.new w3 f').after z)
  replace z := keep_call z (bel_alloc w3 _)
  replace Z := Lib.hid (Z.out.trans (z.mono Z.out.size))
  replace BX := Lib.hid (BX.out.below z)
  replace BF := Lib.hid (BF.out.after z)
  replace LM := Lib.hid (LM.out.below z)
  replace OW := Lib.hid (OW.out.later z)
  replace WH := Lib.hid (WH.out.below z)
  replace RV := Lib.hid (RV.out.below z)
  replace LS := Lib.hid (LS.out.later z)
  replace LA := Lib.hid (LA.out.below z)
  have LB := Lib.hid hn4
  clear hn4 z
  obtain ⟨gx, x_0, x_1, x_2, x_3⟩ := BX.out
  go_wp2_with fail
  refine (play_n (RV.out.below (bel_alloc _ _)) (LS.out.later (bel_alloc _ _)) (WH.out.below (bel_alloc _ _)) HNC.out HNW.out G8.out HUN.out HS1.out HK1.out HK2.out HK3.out).mono ?_
  rintro _ w5 ⟨A5, c5, B5, d5, C5, e5, rfl, hma, hpa, hqa, z⟩
  clear gx x_0 x_1 x_2 x_3
  have BH := Lib.hid ((Bf.new w4 f').after z)
  replace z := keep_call z (bel_alloc w4 _)
  replace Z := Lib.hid (Z.out.trans (z.mono Z.out.size))
  replace BX := Lib.hid (BX.out.below z)
  replace BF := Lib.hid (BF.out.after z)
  replace LM := Lib.hid (LM.out.below z)
  replace OW := Lib.hid (OW.out.later z)
  replace WH := Lib.hid (WH.out.below z)
  replace RV := Lib.hid (RV.out.below z)
  replace LS := Lib.hid (LS.out.later z)
  replace LA := Lib.hid (LA.out.below z)
  replace BG := Lib.hid (BG.out.after z)
  replace LB := Lib.hid (LB.out.below z)
  have Ma := Lib.hid hma
  have Oa := Lib.hid hpa
  have Qa := Lib.hid hqa
  clear hma hpa hqa z
  obtain ⟨gx, x_0, x_1, x_2, x_3⟩ := BX.out
  go_wp2_with fail
  refine (rplay_n RV.out LS.out WH.out HNC.out HNW.out G8.out HUN.out HS1.out HK1.out HK2.out HK3.out).mono ?_
  rintro _ w6 ⟨A6, c6, B6, d6, C6, e6, rfl, hmb, hpb, hqb, z⟩
  clear gx x_0 x_1 x_2 x_3
  replace Z := Lib.hid (Z.out.trans (z.mono Z.out.size))
  replace BX := Lib.hid (BX.out.below z)
  replace BF := Lib.hid (BF.out.after z)
  replace LM := Lib.hid (LM.out.below z)
  replace OW := Lib.hid (OW.out.later z)
  replace WH := Lib.hid (WH.out.below z)
  replace RV := Lib.hid (RV.out.below z)
  replace LS := Lib.hid (LS.out.later z)
  replace LA := Lib.hid (LA.out.below z)
  replace BG := Lib.hid (BG.out.after z)
  replace LB := Lib.hid (LB.out.below z)
  replace BH := Lib.hid (BH.out.after z)
  replace Ma := Lib.hid (Ma.out.below z)
  replace Oa := Lib.hid (Oa.out.later z)
  replace Qa := Lib.hid (Qa.out.later z)
  have Mb := Lib.hid hmb
  have Ob := Lib.hid hpb
  have Qb := Lib.hid hqb
  clear hmb hpb hqb z
  obtain ⟨gx, x_0, x_1, x_2, x_3⟩ := BX.out
  go_wp2_with fail
  refine (rest_n Ma.out Qa.out HK1.out HK3.out G3.out G1.out HUS.out HUA.out HR.out HK4.out HK5.out).mono ?_
  rintro _ w7 ⟨A7, c7, B7, d7, rfl, hma, hpa, z⟩
  clear gx x_0 x_1 x_2 x_3
  replace Z := Lib.hid (Z.out.trans (z.mono Z.out.size))
  replace BX := Lib.hid (BX.out.below z)
  replace BF := Lib.hid (BF.out.after z)
  replace LM := Lib.hid (LM.out.below z)
  replace OW := Lib.hid (OW.out.later z)
  replace WH := Lib.hid (WH.out.below z)
  replace RV := Lib.hid (RV.out.below z)
  replace LS := Lib.hid (LS.out.later z)
  replace LA := Lib.hid (LA.out.below z)
  replace BG := Lib.hid (BG.out.after z)
  replace LB := Lib.hid (LB.out.below z)
  replace BH := Lib.hid (BH.out.after z)
  replace Ma := Lib.hid (Ma.out.below z)
  replace Oa := Lib.hid (Oa.out.later z)
  replace Qa := Lib.hid (Qa.out.later z)
  replace Mb := Lib.hid (Mb.out.below z)
  replace Ob := Lib.hid (Ob.out.later z)
  replace Qb := Lib.hid (Qb.out.later z)
  have Xa := Lib.hid hma
  have Ya := Lib.hid hpa
  clear hma hpa z
  obtain ⟨gx, x_0, x_1, x_2, x_3⟩ := BX.out
  go_wp2_with fail
  refine (rrest_n Mb.out Qb.out HK1.out HK3.out G3.out G1.out HUS.out HUA.out HR.out HK4.out HK5.out).mono ?_
  rintro _ w8 ⟨A8, c8, B8, d8, rfl, hmb, hpb, z⟩
  clear gx x_0 x_1 x_2 x_3
  replace Z := Lib.hid (Z.out.trans (z.mono Z.out.size))
  replace BX := Lib.hid (BX.out.below z)
  replace BF := Lib.hid (BF.out.after z)
  replace LM := Lib.hid (LM.out.below z)
  replace OW := Lib.hid (OW.out.later z)
  replace WH := Lib.hid (WH.out.below z)
  replace RV := Lib.hid (RV.out.below z)
  replace LS := Lib.hid (LS.out.later z)
  replace LA := Lib.hid (LA.out.below z)
  replace BG := Lib.hid (BG.out.after z)
  replace LB := Lib.hid (LB.out.below z)
  replace BH := Lib.hid (BH.out.after z)
  replace Ma := Lib.hid (Ma.out.below z)
  replace Oa := Lib.hid (Oa.out.later z)
  replace Qa := Lib.hid (Qa.out.later z)
  replace Mb := Lib.hid (Mb.out.below z)
  replace Ob := Lib.hid (Ob.out.later z)
  replace Qb := Lib.hid (Qb.out.later z)
  replace Xa := Lib.hid (Xa.out.below z)
  replace Ya := Lib.hid (Ya.out.later z)
  have Xb := Lib.hid hmb
  have Yb := Lib.hid hpb
  clear hmb hpb z
  obtain ⟨gx, x_0, x_1, x_2, x_3⟩ := BX.out
  go_wp2_with fail
  refine (rest_n LM.out OW.out HN.out HNO.out G0.out HS.out HUM.out HUO.out HQ.out HK6.out HK7.out).mono ?_
  rintro _ w9 ⟨A9, c9, B9, d9, rfl, hmc, hpc, z⟩
  clear gx x_0 x_1 x_2 x_3
  replace Z := Lib.hid (Z.out.trans (z.mono Z.out.size))
  replace BX := Lib.hid (BX.out.below z)
  replace BF := Lib.hid (BF.out.after z)
  replace LM := Lib.hid (LM.out.below z)
  replace OW := Lib.hid (OW.out.later z)
  replace WH := Lib.hid (WH.out.below z)
  replace RV := Lib.hid (RV.out.below z)
  replace LS := Lib.hid (LS.out.later z)
  replace LA := Lib.hid (LA.out.below z)
  replace BG := Lib.hid (BG.out.after z)
  replace LB := Lib.hid (LB.out.below z)
  replace BH := Lib.hid (BH.out.after z)
  replace Ma := Lib.hid (Ma.out.below z)
  replace Oa := Lib.hid (Oa.out.later z)
  replace Qa := Lib.hid (Qa.out.later z)
  replace Mb := Lib.hid (Mb.out.below z)
  replace Ob := Lib.hid (Ob.out.later z)
  replace Qb := Lib.hid (Qb.out.later z)
  replace Xa := Lib.hid (Xa.out.below z)
  replace Ya := Lib.hid (Ya.out.later z)
  replace Xb := Lib.hid (Xb.out.below z)
  replace Yb := Lib.hid (Yb.out.later z)
  have Xc := Lib.hid hmc
  have Yc := Lib.hid hpc
  clear hmc hpc z
  obtain ⟨gx, x_0, x_1, x_2, x_3⟩ := BX.out
  go_wp2_with fail
  refine (rrest_n LM.out OW.out HN.out HNO.out G0.out HS.out HUM.out HUO.out HQ.out HK6.out HK7.out).mono ?_
  rintro _ w10 ⟨A10, c10, B10, d10, rfl, hmd, hpd, z⟩
  clear gx x_0 x_1 x_2 x_3
  replace Z := Lib.hid (Z.out.trans (z.mono Z.out.size))
  replace BX := Lib.hid (BX.out.below z)
  replace BF := Lib.hid (BF.out.after z)
  replace LM := Lib.hid (LM.out.below z)
  replace OW := Lib.hid (OW.out.later z)
  replace WH := Lib.hid (WH.out.below z)
  replace RV := Lib.hid (RV.out.below z)
  replace LS := Lib.hid (LS.out.later z)
  replace LA := Lib.hid (LA.out.below z)
  replace BG := Lib.hid (BG.out.after z)
  replace LB := Lib.hid (LB.out.below z)
  replace BH := Lib.hid (BH.out.after z)
  replace Ma := Lib.hid (Ma.out.below z)
  replace Oa := Lib.hid (Oa.out.later z)
  replace Qa := Lib.hid (Qa.out.later z)
  replace Mb := Lib.hid (Mb.out.below z)
  replace Ob := Lib.hid (Ob.out.later z)
  replace Qb := Lib.hid (Qb.out.later z)
  replace Xa := Lib.hid (Xa.out.below z)
  replace Ya := Lib.hid (Ya.out.later z)
  replace Xb := Lib.hid (Xb.out.below z)
  replace Yb := Lib.hid (Yb.out.later z)
  replace Xc := Lib.hid (Xc.out.below z)
  replace Yc := Lib.hid (Yc.out.later z)
  have Xd := Lib.hid hmd
  have Yd := Lib.hid hpd
  clear hmd hpd z
  clear RV LS WH OW LM
  go_wp2_with fail
  refine (same_n (l := l') LA.out LB.out HL2.out G9.out).mono ?_
  rintro _ w11 ⟨rfl, z⟩
  replace Z := Lib.hid (Z.out.trans (z.mono Z.out.size))
  replace BX := Lib.hid (BX.out.below z)
  replace BF := Lib.hid (BF.out.after z)
  replace LA := Lib.hid (LA.out.below z)
  replace BG := Lib.hid (BG.out.after z)
  replace LB := Lib.hid (LB.out.below z)
  replace BH := Lib.hid (BH.out.after z)
  replace Ma := Lib.hid (Ma.out.below z)
  replace Oa := Lib.hid (Oa.out.later z)
  replace Qa := Lib.hid (Qa.out.later z)
  replace Mb := Lib.hid (Mb.out.below z)
  replace Ob := Lib.hid (Ob.out.later z)
  replace Qb := Lib.hid (Qb.out.later z)
  replace Xa := Lib.hid (Xa.out.below z)
  replace Ya := Lib.hid (Ya.out.later z)
  replace Xb := Lib.hid (Xb.out.below z)
  replace Yb := Lib.hid (Yb.out.later z)
  replace Xc := Lib.hid (Xc.out.below z)
  replace Yc := Lib.hid (Yc.out.later z)
  replace Xd := Lib.hid (Xd.out.below z)
  replace Yd := Lib.hid (Yd.out.later z)
  clear z
  go_wp2_with fail
  refine (same_n (l := S1.1) Ma.out Mb.out HK1.out G10.out).mono ?_
  rintro _ w12 ⟨rfl, z⟩
  replace Z := Lib.hid (Z.out.trans (z.mono Z.out.size))
  replace BX := Lib.hid (BX.out.below z)
  replace BF := Lib.hid (BF.out.after z)
  replace LA := Lib.hid (LA.out.below z)
  replace BG := Lib.hid (BG.out.after z)
  replace LB := Lib.hid (LB.out.below z)
  replace BH := Lib.hid (BH.out.after z)
  replace Ma := Lib.hid (Ma.out.below z)
  replace Oa := Lib.hid (Oa.out.later z)
  replace Qa := Lib.hid (Qa.out.later z)
  replace Mb := Lib.hid (Mb.out.below z)
  replace Ob := Lib.hid (Ob.out.later z)
  replace Qb := Lib.hid (Qb.out.later z)
  replace Xa := Lib.hid (Xa.out.below z)
  replace Ya := Lib.hid (Ya.out.later z)
  replace Xb := Lib.hid (Xb.out.below z)
  replace Yb := Lib.hid (Yb.out.later z)
  replace Xc := Lib.hid (Xc.out.below z)
  replace Yc := Lib.hid (Yc.out.later z)
  replace Xd := Lib.hid (Xd.out.below z)
  replace Yd := Lib.hid (Yd.out.later z)
  clear z
  go_wp2_with fail
  refine (frames_n (l := S1.2.2) Oa.out Ob.out HK2.out G2.out).mono ?_
  rintro _ w13 ⟨rfl, z⟩
  replace Z := Lib.hid (Z.out.trans (z.mono Z.out.size))
  replace BX := Lib.hid (BX.out.below z)
  replace BF := Lib.hid (BF.out.after z)
  replace LA := Lib.hid (LA.out.below z)
  replace BG := Lib.hid (BG.out.after z)
  replace LB := Lib.hid (LB.out.below z)
  replace BH := Lib.hid (BH.out.after z)
  replace Ma := Lib.hid (Ma.out.below z)
  replace Oa := Lib.hid (Oa.out.later z)
  replace Qa := Lib.hid (Qa.out.later z)
  replace Mb := Lib.hid (Mb.out.below z)
  replace Ob := Lib.hid (Ob.out.later z)
  replace Qb := Lib.hid (Qb.out.later z)
  replace Xa := Lib.hid (Xa.out.below z)
  replace Ya := Lib.hid (Ya.out.later z)
  replace Xb := Lib.hid (Xb.out.below z)
  replace Yb := Lib.hid (Yb.out.later z)
  replace Xc := Lib.hid (Xc.out.below z)
  replace Yc := Lib.hid (Yc.out.later z)
  replace Xd := Lib.hid (Xd.out.below z)
  replace Yd := Lib.hid (Yd.out.later z)
  clear z
  go_wp2_with fail
  refine (frames_n (l := S1.2.1) Qa.out Qb.out HK3.out G12.out).mono ?_
  rintro _ w14 ⟨rfl, z⟩
  replace Z := Lib.hid (Z.out.trans (z.mono Z.out.size))
  replace BX := Lib.hid (BX.out.below z)
  replace BF := Lib.hid (BF.out.after z)
  replace LA := Lib.hid (LA.out.below z)
  replace BG := Lib.hid (BG.out.after z)
  replace LB := Lib.hid (LB.out.below z)
  replace BH := Lib.hid (BH.out.after z)
  replace Ma := Lib.hid (Ma.out.below z)
  replace Oa := Lib.hid (Oa.out.later z)
  replace Qa := Lib.hid (Qa.out.later z)
  replace Mb := Lib.hid (Mb.out.below z)
  replace Ob := Lib.hid (Ob.out.later z)
  replace Qb := Lib.hid (Qb.out.later z)
  replace Xa := Lib.hid (Xa.out.below z)
  replace Ya := Lib.hid (Ya.out.later z)
  replace Xb := Lib.hid (Xb.out.below z)
  replace Yb := Lib.hid (Yb.out.later z)
  replace Xc := Lib.hid (Xc.out.below z)
  replace Yc := Lib.hid (Yc.out.later z)
  replace Xd := Lib.hid (Xd.out.below z)
  replace Yd := Lib.hid (Yd.out.later z)
  clear z
  go_wp2_with fail
  refine (same_n (l := r1) Xa.out Xb.out HK4.out G4.out).mono ?_
  rintro _ w15 ⟨rfl, z⟩
  replace Z := Lib.hid (Z.out.trans (z.mono Z.out.size))
  replace BX := Lib.hid (BX.out.below z)
  replace BF := Lib.hid (BF.out.after z)
  replace LA := Lib.hid (LA.out.below z)
  replace BG := Lib.hid (BG.out.after z)
  replace LB := Lib.hid (LB.out.below z)
  replace BH := Lib.hid (BH.out.after z)
  replace Ma := Lib.hid (Ma.out.below z)
  replace Oa := Lib.hid (Oa.out.later z)
  replace Qa := Lib.hid (Qa.out.later z)
  replace Mb := Lib.hid (Mb.out.below z)
  replace Ob := Lib.hid (Ob.out.later z)
  replace Qb := Lib.hid (Qb.out.later z)
  replace Xa := Lib.hid (Xa.out.below z)
  replace Ya := Lib.hid (Ya.out.later z)
  replace Xb := Lib.hid (Xb.out.below z)
  replace Yb := Lib.hid (Yb.out.later z)
  replace Xc := Lib.hid (Xc.out.below z)
  replace Yc := Lib.hid (Yc.out.later z)
  replace Xd := Lib.hid (Xd.out.below z)
  replace Yd := Lib.hid (Yd.out.later z)
  clear z
  go_wp2_with fail
  refine (frames_n (l := r2) Ya.out Yb.out HK5.out G5.out).mono ?_
  rintro _ w16 ⟨rfl, z⟩
  replace Z := Lib.hid (Z.out.trans (z.mono Z.out.size))
  replace BX := Lib.hid (BX.out.below z)
  replace BF := Lib.hid (BF.out.after z)
  replace LA := Lib.hid (LA.out.below z)
  replace BG := Lib.hid (BG.out.after z)
  replace LB := Lib.hid (LB.out.below z)
  replace BH := Lib.hid (BH.out.after z)
  replace Ma := Lib.hid (Ma.out.below z)
  replace Oa := Lib.hid (Oa.out.later z)
  replace Qa := Lib.hid (Qa.out.later z)
  replace Mb := Lib.hid (Mb.out.below z)
  replace Ob := Lib.hid (Ob.out.later z)
  replace Qb := Lib.hid (Qb.out.later z)
  replace Xa := Lib.hid (Xa.out.below z)
  replace Ya := Lib.hid (Ya.out.later z)
  replace Xb := Lib.hid (Xb.out.below z)
  replace Yb := Lib.hid (Yb.out.later z)
  replace Xc := Lib.hid (Xc.out.below z)
  replace Yc := Lib.hid (Yc.out.later z)
  replace Xd := Lib.hid (Xd.out.below z)
  replace Yd := Lib.hid (Yd.out.later z)
  clear z
  go_wp2_with fail
  refine (same_n (l := q1) Xc.out Xd.out HK6.out G6.out).mono ?_
  rintro _ w17 ⟨rfl, z⟩
  replace Z := Lib.hid (Z.out.trans (z.mono Z.out.size))
  replace BX := Lib.hid (BX.out.below z)
  replace BF := Lib.hid (BF.out.after z)
  replace LA := Lib.hid (LA.out.below z)
  replace BG := Lib.hid (BG.out.after z)
  replace LB := Lib.hid (LB.out.below z)
  replace BH := Lib.hid (BH.out.after z)
  replace Ma := Lib.hid (Ma.out.below z)
  replace Oa := Lib.hid (Oa.out.later z)
  replace Qa := Lib.hid (Qa.out.later z)
  replace Mb := Lib.hid (Mb.out.below z)
  replace Ob := Lib.hid (Ob.out.later z)
  replace Qb := Lib.hid (Qb.out.later z)
  replace Xa := Lib.hid (Xa.out.below z)
  replace Ya := Lib.hid (Ya.out.later z)
  replace Xb := Lib.hid (Xb.out.below z)
  replace Yb := Lib.hid (Yb.out.later z)
  replace Xc := Lib.hid (Xc.out.below z)
  replace Yc := Lib.hid (Yc.out.later z)
  replace Xd := Lib.hid (Xd.out.below z)
  replace Yd := Lib.hid (Yd.out.later z)
  clear z
  go_wp2_with fail
  refine (frames_n (l := q2) Yc.out Yd.out HK7.out G7.out).mono ?_
  rintro _ w18 ⟨rfl, z⟩
  replace Z := Lib.hid (Z.out.trans (z.mono Z.out.size))
  replace BX := Lib.hid (BX.out.below z)
  replace BF := Lib.hid (BF.out.after z)
  replace LA := Lib.hid (LA.out.below z)
  replace BG := Lib.hid (BG.out.after z)
  replace LB := Lib.hid (LB.out.below z)
  replace BH := Lib.hid (BH.out.after z)
  replace Ma := Lib.hid (Ma.out.below z)
  replace Oa := Lib.hid (Oa.out.later z)
  replace Qa := Lib.hid (Qa.out.later z)
  replace Mb := Lib.hid (Mb.out.below z)
  replace Ob := Lib.hid (Ob.out.later z)
  replace Qb := Lib.hid (Qb.out.later z)
  replace Xa := Lib.hid (Xa.out.below z)
  replace Ya := Lib.hid (Ya.out.later z)
  replace Xb := Lib.hid (Xb.out.below z)
  replace Yb := Lib.hid (Yb.out.later z)
  replace Xc := Lib.hid (Xc.out.below z)
  replace Yc := Lib.hid (Yc.out.later z)
  replace Xd := Lib.hid (Xd.out.below z)
  replace Yd := Lib.hid (Yd.out.later z)
  clear z
  obtain ⟨b0, b1, b2, b3, b4, b5, b6⟩ := BG.out.cells
  have lb := BG.out.lt
  obtain ⟨d0, d1, d2, d3, d4, d5, d6⟩ := BH.out.cells
  have ld := BH.out.lt
  go_wp2
  go_ret
  exact ⟨rfl, Z.out⟩
set_option maxRecDepth 100000 in
theorem tells_walk (W D J S : Int) (A B C E : Option Addr) (n c nc cc nw cw na ca : Nat) (m : List Int) (vs : List Value) (calls : List (List Fr)) (own : List Fr) (who : List Int) (f : Fr) (w : World) (hm : Rd w A m) (hn : m.length = n) (hA : Rv w B vs) (hL : Ls w.heap.size w vs calls) (hnc : calls.length = nc) (hW : Ri w C who) (hnw : who.length = nw) (hPr : Pr w.heap.size w E own) (hna : own.length = na) (hu : UM m) (hf : UF f) (huc : ∀ l ∈ calls, ∀ f ∈ l, UF f) (huo : ∀ f ∈ own, UF f) : Tells 3 #[cf W D J S, .slice A n c, fv f, .slice B nc cc, .slice C nw cw, .slice E na ca] w (.bool true) := by
  by_cases h : fewC calls = false ∨ 500 < n ∨ 500 < nw ∨ 10 < na
  · exact tells_big W D J S A B C E n c nc cc nw cw na ca vs calls f w hA hL hnc h
  · simp only [not_or, Nat.not_lt, Bool.not_eq_false] at h
    exact tells_main W D J S A B C E n c nc cc nw cw na ca m vs calls own who f w hm hn hA hL hnc hW hnw hPr hna h.1 h.2.1 h.2.2.1 h.2.2.2 hu hf huc huo
end Go.Proofs.Ytppllanmgdhabaa
