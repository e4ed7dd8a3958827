import Derived.Test.YtnbccoflcoaoaaaGreatGAcb
import Derived.Test.YtnbccoflcoaoaaaGreatGFlo
import Derived.Test.YtnbccoflcoaoaaaGreatGSnd
import Derived.Deep.RegionWith
namespace Go.Proofs.YtnbccoflcoaoaaaGreat
open Go.RowKit Go.Deep
set_option linter.unusedSimpArgs false
set_option linter.unusedVariables false

theorem Ints.take {w : World} {a : Option Addr} {n k : Nat} {l : List Int} (h : Ints w a n l) (hk : k ≤ n) : Ints w a k (l.take k) := by
  refine ⟨by rw [List.length_take, h.len]; omega, Nat.le_trans hk h.small, fun x hx => h.wf x (List.mem_of_mem_take hx), ?_⟩
  by_cases h0 : k = 0
  · exact .inl h0
  · obtain ⟨b, off, e, hl, hc⟩ := h.lies.resolve_left (by omega)
    refine .inr ⟨b, off, e, hl, fun i hi => ?_⟩
    rw [hc i (by omega)]
    simp [List.getD, List.getElem?_take, hi]

set_option maxHeartbeats 2000000 in
theorem refGood_any (sa aa ca : Option Addr) (sn sc an ac cn cc : Nat) (xs : List Int) (es : List A5) (l : List Int) (w : World) (he : Arcs w aa an es) (hc : Ints w ca cn l) (hn : NetOK xs es) (hle : cn ≤ cc) :
    Calls Tryz.prog 75 #[.agg #[.slice sa sn sc, .slice aa an ac], .slice ca cn cc] w fun e w' => e = .returned (.bool (goodB es l)) ∧ Below w.heap.size w w' := by
  have hL : Hid (es.length = an ∧ l.length = cn) := ⟨he.len, hc.len⟩
  have hN := hide hn
  have hsm := hc.small
  have h24 : an ≤ 24 := by rw [← he.len]; exact hn.arcs
  clear hn
  go_enter Tryz.func75, Tryz.ntmps75
  go_wp2
  go_loopw [5, 6, 7] (fun s i tw wr => ∃ k : Nat, k ≤ cn ∧ i = .int .i64 k ∧ s = .int .i64 (circTo es l k) ∧ Hid (∀ j, j < k → onceAt es.length l j = true) ∧ Hid (∀ j, j < k → unlAt es l j = true) ∧ wr.cell? ⟨w.heap.size, 1, none⟩ = some (.slice aa an ac) ∧ Below w.heap.size w wr) (fun _ i _ _ => cn - (intOf i).toNat)
  case atStart => exact ⟨0, Nat.zero_le _, rfl, rfl, fun j hj => absurd hj (Nat.not_lt_zero j), fun j hj => absurd hj (Nat.not_lt_zero j), by simp, (Below.refl _ _).alloc (Nat.le_refl _) _⟩
  case round =>
    obtain ⟨k, hk, rfl, rfl, hg, hg2, c1, hbel⟩ := hrel
    have bd := circ_bd hN.out l k
    by_cases hlt : k < cn
    · obtain ⟨b, off, x, rfl, hX, hb, ex⟩ := (hc.below hbel).get hlt
      have hO := onceAt_eq (m := es.length) hX
      rw [hL.out.1] at hO
      have HX := hide hX
      have bad : (decide (0 ≤ x ∧ x < (an : Int)) && !inB (l.take k) x) = false → Hid (goodB es l = false) := fun h => by
        have : onceB es.length l = false := all_f (k := k) (by rw [hL.out.2]; exact hlt) (by rw [hL.out.1, hO]; exact h)
        show goodB es l = false
        unfold goodB; rw [this]; rfl
      have good : (decide (0 ≤ x ∧ x < (an : Int)) && !inB (l.take k) x) = true → Hid (∀ j, j < k + 1 → onceAt es.length l j = true) := by
        intro h j hj
        by_cases hjk : j = k
        · subst hjk; rw [hL.out.1, hO]; exact h
        · exact hg.out j (by omega)
      clear hX hO hg
      have hlt3 : (k : Int) < (cn : Int) := by omega
      have hlt6 : (k : Int) ≤ (cc : Int) := by omega
      have hT : Hid (Ints wr (some ⟨b, off, none⟩) k (l.take k)) := (hc.below hbel).take hk
      obtain ⟨I, hI⟩ : ∃ I, inB (l.take k) x = I := ⟨_, rfl⟩
      have cI : n0 (∀ (c' n' : Nat), Calls Tryz.prog 60 #[.slice (some ⟨b, off, none⟩) k c', .int .i64 x] (wr.drewN n') fun e w' => e = .returned (.bool I) ∧ w' = wr.drewN n') := fun c' n' => by rw [← hI]; exact refIn_any (some ⟨b, off, none⟩) k c' x (l.take k) _ (hT.out.below (Joins.below_draws _ _ _))
      rw [hI] at bad good
      have HI := hide hI
      clear hI
      go_wp2
      go_quiet ((go_at_call 60; exact Calls.quiet_of_same (cI.out _ _)))
      go_wp2
      have hB1 : Below w.heap.size w (wr.drewN nq) := hbel.trans (Joins.below_draws _ _ _)
      have c1' : (wr.drewN nq).cell? ⟨w.heap.size, 1, none⟩ = some (.slice aa an ac) := by simpa using c1
      have ex' : (wr.drewN nq).cell? ⟨b, off + k, none⟩ = some (.int .i64 x) := by simpa using ex
      clear c1 ex hbel hT cI
      generalize wr.drewN nq = wb at *
      by_cases h1 : x < 0
      · have HF := bad (by rw [decide_eq_false (by omega)]; rfl)
        clear bad good
        go_quiet (fail)
        go_wp2
        go_ret
        exact ⟨ret_b HF.out.symm, hB1.trans (Joins.below_draws _ _ _)⟩
      have d1 : decide (x < 0) = false := by simpa using h1
      by_cases h2 : (an : Int) ≤ x
      · have HF := bad (by rw [decide_eq_false (by omega)]; rfl)
        clear bad good
        go_quiet (fail)
        go_wp2
        go_ret
        exact ⟨ret_b HF.out.symm, hB1.trans (Joins.below_draws _ _ _)⟩
      have d2 : decide ((an : Int) ≤ x) = false := by simpa using h2
      cases I with
      | true =>
        have HF := bad (by simp)
        clear bad good
        go_quiet (fail)
        go_wp2
        go_ret
        exact ⟨ret_b HF.out.symm, hB1.trans (Joins.below_draws _ _ _)⟩
      | false =>
        have HG := good (by simp; omega)
        clear bad good
        go_quiet (fail)
        go_wp2
        obtain ⟨v, rfl⟩ := nat_of (show 0 ≤ x by omega)
        have hvs : v < an := by omega
        have hlt4 : (v : Int) < (an : Int) := by omega
        have hB2 : Below w.heap.size w (wb.drewN nq) := hB1.trans (Joins.below_draws _ _ _)
        have c2 : (wb.drewN nq).cell? ⟨w.heap.size, 1, none⟩ = some (.slice aa an ac) := by simpa using c1'
        have ex2 : (wb.drewN nq).cell? ⟨b, off + k, none⟩ = some (.int .i64 (v : Int)) := by simpa using ex'
        clear c1' ex' hB1 d1 d2 h1 h2
        generalize wb.drewN nq = wc at *
        have hq := cost_bd1 hN.out v
        obtain ⟨b', off', f, t, lo, c, q, rfl, hA, hb', e0, e1, e2, e3, e4⟩ := (he.below hB2).get hvs
        rw [hA] at hq
        simp only [] at hq
        have hAr := (arcOf_get (es := es) HX.out).trans hA
        have HS : Hid (circTo es l (k + 1) = circTo es l k + q) := by show circTo es l (k + 1) = _; simp only [circTo, hAr]
        have HU : Hid (unlAt es l k = (c == -1)) := by show unlAt es l k = _; simp only [unlAt, hAr]
        clear hA hAr
        generalize circTo es l k = S at *
        go_quiet (fail)
        go_wp2
        cases hcc : (c == -1) with
        | true =>
          have hcn : (c != -1) = false := by simpa using hcc
          go_quiet (fail)
          go_wp2
          refine ⟨⟨k + 1, by omega, by go_num, val_i HS.out.symm, HG.out, ?_, by simpa using c2, hB2.trans (Joins.below_draws _ _ _)⟩, by simp [intOf]; omega⟩
          intro j hj
          by_cases hjk : j = k
          · subst hjk; rw [HU.out]; exact hcc
          · exact hg2.out j (by omega)
        | false =>
          have hcn : (c != -1) = true := by simpa using hcc
          have HF : Hid (goodB es l = false) := by
            have : unlB es l = false := all_f (k := k) (by rw [hL.out.2]; exact hlt) (by rw [HU.out]; exact hcc)
            show goodB es l = false
            unfold goodB; rw [this]; simp
          go_quiet (fail)
          go_wp2
          go_ret
          exact ⟨ret_b HF.out.symm, (hB2.trans (Joins.below_draws _ _ _)).trans (Joins.below_draws _ _ _)⟩
    · have hkn : k = cn := by omega
      subst hkn
      have HO : Hid (onceB es.length l = true) := all_t (by rw [hL.out.2]; exact hg.out)
      have HU : Hid (unlB es l = true) := all_t (by rw [hL.out.2]; exact hg2.out)
      have HC : Hid (circTo es l l.length = circTo es l k) := by show circTo es l l.length = _; rw [hL.out.2]
      clear hg hg2
      generalize circTo es l k = S at *
      go_wp2
      go_loopw [8, 9] (fun i nx wr => ∃ m : Nat, m ≤ k ∧ i = .int .i64 m ∧ Hid (∀ j, j < m → nextAt es l j = true) ∧ wr.cell? ⟨w.heap.size, 1, none⟩ = some (.slice aa an ac) ∧ Below w.heap.size w wr) (fun i _ _ => k - (intOf i).toNat)
      case atStart => exact ⟨0, Nat.zero_le _, rfl, fun j hj => absurd hj (Nat.not_lt_zero j), c1, hbel⟩
      case round =>
        clear c1 hbel
        obtain ⟨m, hm, rfl, hg, c1, hbel⟩ := hrel
        by_cases hlt : m < k
        · have hri := once_out HO.out (i := m) (by rw [hL.out.2]; exact hlt)
          have hrj := once_out HO.out (i := (m + 1) % k) (by rw [hL.out.2]; exact Nat.mod_lt _ (by omega))
          rw [hL.out.1] at hri hrj
          obtain ⟨b, off, x, rfl, hX, hb, ex⟩ := (hc.below hbel).get hlt
          obtain ⟨b2, off2, y, e5, hY, hb2, ey⟩ := (hc.below hbel).get (k := (m + 1) % k) (Nat.mod_lt _ (by omega))
          obtain ⟨rfl, rfl⟩ : b = b2 ∧ off = off2 := by simpa using e5
          rw [hX] at hri
          rw [hY] at hrj
          obtain ⟨v, rfl⟩ := nat_of hri.1
          obtain ⟨u, rfl⟩ := nat_of hrj.1
          obtain ⟨b', off', f, t, lo, c, q, rfl, hA, hb', g0, g1, g2, g3, g4⟩ := (he.below hbel).get (show v < an by omega)
          obtain ⟨b3, off3, f2, t2, lo2, c2, q2, e6, hA2, hb3, i0, i1, i2, i3, i4⟩ := (he.below hbel).get (show u < an by omega)
          obtain ⟨rfl, rfl⟩ : b' = b3 ∧ off' = off3 := by simpa using e6
          have HP : Hid (nextAt es l m = (t == f2)) := by
            show nextAt es l m = (t == f2)
            simp only [nextAt, hL.out.2, (arcOf_get (es := es) hX).trans hA, (arcOf_get (es := es) hY).trans hA2]
          have hlt3 : (m : Int) < (k : Int) := by omega
          have hlt4 : (v : Int) < (an : Int) := by omega
          have hlt5 : (u : Int) < (an : Int) := by omega
          have hlt7 : (((m + 1) % k : Nat) : Int) < (k : Int) := by have := Nat.mod_lt (m + 1) (show k > 0 by omega); omega
          clear e5 e6 hX hY hA hA2 hri hrj
          have h8 : ((m : Int) + 1) % (k : Int) < (k : Int) := Int.emod_lt_of_pos _ (by omega)
          have h9 : 0 ≤ ((m : Int) + 1) % (k : Int) := Int.emod_nonneg _ (by omega)
          have h11 : ((k : Int) == 0) = false := by simp; omega
          cases hd : (t != f2) with
          | true =>
            have HF : Hid (goodB es l = false) := by
              have : nextB es l = false := all_f (k := m) (by rw [hL.out.2]; exact hlt) (by rw [HP.out]; simpa using hd)
              show goodB es l = false
              unfold goodB; rw [this]; simp
            go_wp2
            go_quiet (fail)
            go_wp2
            go_ret
            exact ⟨ret_b HF.out.symm, hbel.trans (Joins.below_draws _ _ _)⟩
          | false =>
            go_wp2
            go_quiet (fail)
            go_wp2
            refine ⟨⟨m + 1, by omega, by go_num, ?_, by simpa using c1, hbel.trans (Joins.below_draws _ _ _)⟩, by simp [intOf]; omega⟩
            intro j hj
            by_cases hjk : j = m
            · subst hjk; rw [HP.out]; simpa using hd
            · exact hg.out j (by omega)
        · have hkn : m = k := by omega
          subst hkn
          have HT : Hid (nextB es l = true) := all_t (by rw [hL.out.2]; exact hg.out)
          have HE : Hid (goodB es l = (decide (0 < m) && decide (S < 0))) := by
            show goodB es l = _
            unfold goodB; rw [HO.out, HU.out, HT.out, HC.out, hL.out.2]; simp
          by_cases h0 : 0 < m
          · have h12 : (0 : Int) < (m : Int) := by omega
            go_wp2
            go_ret
            exact ⟨ret_b (by rw [HE.out, decide_eq_true h0]; rfl), hbel⟩
          · have h12 : decide ((0 : Int) < (m : Int)) = false := decide_eq_false (by omega)
            have h13 : m = 0 := by omega
            go_wp2
            all_goals
              go_ret
              exact ⟨ret_b (by rw [HE.out, decide_eq_false h0]; rfl), hbel⟩
end Go.Proofs.YtnbccoflcoaoaaaGreat

namespace Go.Proofs.YtnbccoflcoaoaaaGreat
open Go.RowKit Go.Deep
set_option linter.unusedSimpArgs false
set_option linter.unusedVariables false

theorem dec_cast (a b : Nat) : decide ((a : Int) = (b : Int)) = decide (a = b) := by rw [decide_eq_decide]; omega

/-- An answer's four lists lie in w. -/
structure Ans (w : World) (fa pa ca ra : Option Addr) (fn pn cn rn : Nat) (fl po cu ci : List Int) : Prop where
  fl : Ints w fa fn fl
  po : Ints w pa pn po
  cu : Ints w ca cn cu
  ci : Ints w ra rn ci
theorem Ans.below {w w' : World} {fa pa ca ra : Option Addr} {fn pn cn rn : Nat} {fl po cu ci : List Int} (h : Ans w fa pa ca ra fn pn cn rn fl po cu ci) (hb : Below w.heap.size w w') : Ans w' fa pa ca ra fn pn cn rn fl po cu ci :=
  ⟨h.fl.below hb, h.po.below hb, h.cu.below hb, h.ci.below hb⟩

/-- The boxes of a net and of an answer, at block g and behind it. -/
structure Boxed (w : World) (g : Nat) (sv av : Value) (v0 v1 v2 v3 v4 v5 : Value) : Prop where
  n0 : w.cell? ⟨g, 0, none⟩ = some sv
  n1 : w.cell? ⟨g, 1, none⟩ = some av
  a0 : w.cell? ⟨g + 1, 0, none⟩ = some v0
  a1 : w.cell? ⟨g + 1, 1, none⟩ = some v1
  a2 : w.cell? ⟨g + 1, 2, none⟩ = some v2
  a3 : w.cell? ⟨g + 1, 3, none⟩ = some v3
  a4 : w.cell? ⟨g + 1, 4, none⟩ = some v4
  a5 : w.cell? ⟨g + 1, 5, none⟩ = some v5
  lt : g + 1 < w.heap.size
theorem Boxed.below {w w' : World} {g : Nat} {sv av v0 v1 v2 v3 v4 v5 : Value} (h : Boxed w g sv av v0 v1 v2 v3 v4 v5) (hb : Below w.heap.size w w') : Boxed w' g sv av v0 v1 v2 v3 v4 v5 := by
  have hl := h.lt
  have hs := hb.size
  exact ⟨(hb.cell (p := ⟨g, 0, none⟩) (show g < w.heap.size by omega)).trans h.n0, (hb.cell (p := ⟨g, 1, none⟩) (show g < w.heap.size by omega)).trans h.n1,
    (hb.cell (p := ⟨g + 1, 0, none⟩) hl).trans h.a0, (hb.cell (p := ⟨g + 1, 1, none⟩) hl).trans h.a1, (hb.cell (p := ⟨g + 1, 2, none⟩) hl).trans h.a2,
    (hb.cell (p := ⟨g + 1, 3, none⟩) hl).trans h.a3, (hb.cell (p := ⟨g + 1, 4, none⟩) hl).trans h.a4, (hb.cell (p := ⟨g + 1, 5, none⟩) hl).trans h.a5, by omega⟩
theorem boxed_new (w : World) (sv av v0 v1 v2 v3 v4 v5 : Value) (t u : TypeId) : Boxed ((w.alloc (.cells #[sv, av] t)).alloc (.cells #[v0, v1, v2, v3, v4, v5] u)) w.heap.size sv av v0 v1 v2 v3 v4 v5 := by
  constructor <;> first | (simp; done) | (rw [World.cell?_alloc_lt _ _ _ (by simp)]; simp)

set_option maxHeartbeats 2000000 in
theorem gAcceptBest_any (sa aa fa pa ca ra : Option Addr) (sn sc an ac fn fc pn pc cn cc rn rc : Nat) (kd cs : Int) (xs : List Int) (es : List A5) (fl po cu ci : List Int) (w : World) (hx : Ints w sa sn xs) (he : Arcs w aa an es) (hn : NetOK xs es)
    (ha : Ans w fa pa ca ra fn pn cn rn fl po cu ci) :
    Calls Tryz.prog 71 #[.agg #[.slice sa sn sc, .slice aa an ac], .agg #[.int .i64 kd, .int .i64 cs, .slice fa fn fc, .slice pa pn pc, .slice ca cn cc, .slice ra rn rc]] w fun e w' => e = .returned (.bool (bestB xs es ⟨kd, cs, fl, po, cu, ci⟩)) ∧ Below w.heap.size w w' := by
  have hL : Hid (cu.length = cn ∧ ci.length = rn) := ⟨ha.cu.len, ha.ci.len⟩
  have hsc := ha.cu.small
  have hsr := ha.ci.small
  have hbx := boxed_new w (.slice sa sn sc) (.slice aa an ac) (.int .i64 kd) (.int .i64 cs) (.slice fa fn fc) (.slice pa pn pc) (.slice ca cn cc) (.slice ra rn rc) 48 35
  have hb0 := Joins.below_alloc2 w (.cells #[.slice sa sn sc, .slice aa an ac] 48) (.cells #[.int .i64 kd, .int .i64 cs, .slice fa fn fc, .slice pa pn pc, .slice ca cn cc, .slice ra rn rc] 35)
  have hN := hide hn
  by_cases hz : cn = 0 ∧ rn = 0
  · obtain ⟨rfl, rfl⟩ := hz
    have HZ : Hid (decide (cu.length = 0) = true ∧ decide (ci.length = 0) = true) := ⟨decide_eq_true hL.out.1, decide_eq_true hL.out.2⟩
    go_enter Tryz.func71, Tryz.ntmps71
    go_wp2_with fail
    refine (gFlowError_any sa aa fa sn sc an ac fn fc xs es fl _ (hx.below hb0) (he.below hb0) (ha.fl.below hb0) hn).mono ?_
    rintro e w1 ⟨rfl, hb1⟩
    have hB1 : Below w.heap.size w w1 := hb0.trans (hb1.mono (by simp; omega))
    have hx1 := hbx.below hb1
    clear hb1 hb0 hbx
    obtain ⟨m0, m1, m2, m3, m4, m5, m6, m7, m8⟩ := hx1
    have hx1 := hide (Boxed.mk m0 m1 m2 m3 m4 m5 m6 m7 m8)
    obtain ⟨c, hc⟩ : ∃ c, flowErr xs es fl = c := ⟨_, rfl⟩
    rw [hc]
    cases hcz : (c != 0) with
    | true =>
      have HF : Hid (bestB xs es ⟨kd, cs, fl, po, cu, ci⟩ = false) := by
        show bestB xs es ⟨kd, cs, fl, po, cu, ci⟩ = false
        unfold bestB
        simp only []
        rw [hc, decide_eq_false (show ¬ c = 0 by simpa using hcz)]
        rfl
      clear hc
      go_wp2
      go_ret
      exact ⟨ret_b HF.out.symm, hB1⟩
    | false =>
      have h0 := hc.trans (show c = 0 by simpa using hcz)
      have H0 := hide h0
      obtain ⟨hl, hbd, -⟩ := flowErr_zero h0
      have hfn : fn = an := by rw [← ha.fl.len, ← he.len]; exact hl
      subst hfn
      have hM : Mild fl fn := by have := hn.mild hbd; rw [he.len] at this; exact this
      have HM := hide hM
      clear hc h0 hl hbd hM
      go_wp2
      obtain ⟨k, hk⟩ : ∃ k, costTo es fl es.length = k := ⟨_, rfl⟩
      have cQ : ∀ d' os, Calls Tryz.prog 70 #[.agg #[.slice sa sn sc, .slice aa fn ac], .slice fa fn fc] (Sort.grow (redrawn w1 d') os) fun e w'' => e = .returned (.int .i64 k) ∧ ∃ p : Regrown, w'' = Sort.grow (redrawn w1 p.d) p.os := fun d' os => Calls.regrown_of (by rw [← hk]; exact gCostOf_any sa aa fa sn sc fn ac fc xs es fl _ ((he.below hB1).below (below_regrown _ _ _)) ((ha.fl.below hB1).below (below_regrown _ _ _)) hn HM.out)
      have HK := hide hk
      have kn0 := cell_regrown m0
      have kn1 := cell_regrown m1
      have ka1 := cell_regrown m3
      have ka2 := cell_regrown m4
      clear hk m0 m1 m2 m3 m4 m5 m6 m7 m8
      refine wp_region_quiet_below (by kernel_rfl) (by kernel_rfl) ?_
      repeat (quiet_step (first | exact cQ _ _))
      refine wpQuiet_nil ?_
      intro _ hw'
      obtain ⟨⟨dq, osq⟩, hw''⟩ := hw'
      subst hw''
      have hbr := below_regrown w1 dq osq
      have hx2 := hx1.out.below hbr
      have hB2 : Below w.heap.size w (Sort.grow (redrawn w1 dq) osq) := hB1.trans (hbr.mono hB1.size)
      clear kn0 kn1 ka1 ka2 cQ hbr hx1 hB1
      generalize Sort.grow (redrawn w1 dq) osq = w2 at *
      cases hkc : (k != cs) with
      | true =>
        have HF : Hid (bestB xs es ⟨kd, cs, fl, po, cu, ci⟩ = false) := by
          show bestB xs es ⟨kd, cs, fl, po, cu, ci⟩ = false
          unfold bestB
          simp only []
          rw [HK.out, decide_eq_false (show ¬ k = cs by simpa using hkc)]
          simp
        go_wp2
        go_ret
        exact ⟨ret_b HF.out.symm, hB2⟩
      | false =>
        have HK2 : Hid (decide (costTo es fl es.length = cs) = true) := decide_eq_true (by rw [HK.out]; simpa using hkc)
        obtain ⟨m0, m1, m2, m3, m4, m5, m6, m7, m8⟩ := hx2
        go_wp2_with fail
        refine (gArePotentials_any pa pn pc sn po _ (ha.po.below hB2)).mono ?_
        rintro e w3 ⟨rfl, rfl⟩
        obtain ⟨B, hB⟩ : ∃ B, (decide ((po.length : Int) = (sn : Int)) && potB po) = B := ⟨_, rfl⟩
        rw [hB]
        cases B with
        | false =>
          have HF : Hid (bestB xs es ⟨kd, cs, fl, po, cu, ci⟩ = false) := by
            show bestB xs es ⟨kd, cs, fl, po, cu, ci⟩ = false
            unfold bestB holdsB
            simp only []
            have : (decide (po.length = xs.length) && potB po) = false := by
              rw [hx.len, ← dec_cast, hB]
            rw [this]; simp
          clear hB
          go_wp2
          go_ret
          exact ⟨ret_b HF.out.symm, hB2⟩
        | true =>
          simp only [Bool.and_eq_true, decide_eq_true_eq] at hB
          have hpn : pn = sn := by have := ha.po.len; omega
          have HPB := hide hB.2
          subst hpn
          clear hB
          go_wp2_with fail
          refine (gHold_any sa aa fa pa pn sc fn ac fc pn pc xs es fl po _ (he.below hB2) (ha.fl.below hB2) (ha.po.below hB2) hn hx.len HPB.out).mono ?_
          rintro e w4 ⟨rfl, hb4⟩
          have hB4 : Below w.heap.size w w4 := hB2.trans (hb4.mono hB2.size)
          have HF : Hid (bestB xs es ⟨kd, cs, fl, po, cu, ci⟩ = holdB es fl po) := by
            show bestB xs es ⟨kd, cs, fl, po, cu, ci⟩ = holdB es fl po
            unfold bestB holdsB
            simp only []
            rw [H0.out, HK2.out, HZ.out.1, HZ.out.2, HPB.out, decide_eq_true (show po.length = xs.length by rw [ha.po.len, hx.len])]
            simp
          generalize holdB es fl po = hb at *
          clear m0 m1 m2 m3 m4 m5 m6 m7 m8 hb4 hn hx he ha
          go_wp2
          go_ret
          exact ⟨ret_b HF.out.symm, hB4⟩
  · have HF : Hid (bestB xs es ⟨kd, cs, fl, po, cu, ci⟩ = false) := by
      show bestB xs es ⟨kd, cs, fl, po, cu, ci⟩ = false
      unfold bestB
      simp only []
      by_cases h1 : cn = 0
      · rw [decide_eq_false (show ¬ ci.length = 0 by rw [hL.out.2]; omega)]; simp
      · rw [decide_eq_false (show ¬ cu.length = 0 by rw [hL.out.1]; omega)]; simp
    by_cases h1 : cn = 0
    · subst h1
      have h2 : ((rn : Int) != 0) = true := by simp; omega
      go_enter Tryz.func71, Tryz.ntmps71
      go_wp2
      go_ret
      exact ⟨ret_b HF.out.symm, hb0⟩
    · have h2 : ((cn : Int) != 0) = true := by simp; omega
      go_enter Tryz.func71, Tryz.ntmps71
      go_wp2
      go_ret
      exact ⟨ret_b HF.out.symm, hb0⟩
end Go.Proofs.YtnbccoflcoaoaaaGreat

namespace Go.Proofs.YtnbccoflcoaoaaaGreat
open Go.RowKit Go.Deep
set_option linter.unusedSimpArgs false
set_option linter.unusedVariables false

set_option maxHeartbeats 2000000 in
theorem gAcceptNone_any (sa aa fa pa ca ra : Option Addr) (sn sc an ac fn fc pn pc cn cc rn rc : Nat) (kd cs : Int) (xs : List Int) (es : List A5) (fl po cu ci : List Int) (w : World) (hx : Ints w sa sn xs) (he : Arcs w aa an es) (hn : NetOK xs es)
    (ha : Ans w fa pa ca ra fn pn cn rn fl po cu ci) :
    Calls Tryz.prog 72 #[.agg #[.slice sa sn sc, .slice aa an ac], .agg #[.int .i64 kd, .int .i64 cs, .slice fa fn fc, .slice pa pn pc, .slice ca cn cc, .slice ra rn rc]] w fun e w' => e = .returned (.bool (noneB xs es ⟨kd, cs, fl, po, cu, ci⟩)) ∧ Below w.heap.size w w' := by
  have hL : Hid (fl.length = fn ∧ po.length = pn ∧ ci.length = rn) := ⟨ha.fl.len, ha.po.len, ha.ci.len⟩
  have hsf := ha.fl.small
  have hsp := ha.po.small
  have hsr := ha.ci.small
  have hbx := boxed_new w (.slice sa sn sc) (.slice aa an ac) (.int .i64 kd) (.int .i64 cs) (.slice fa fn fc) (.slice pa pn pc) (.slice ca cn cc) (.slice ra rn rc) 48 35
  have hb0 := Joins.below_alloc2 w (.cells #[.slice sa sn sc, .slice aa an ac] 48) (.cells #[.int .i64 kd, .int .i64 cs, .slice fa fn fc, .slice pa pn pc, .slice ca cn cc, .slice ra rn rc] 35)
  by_cases hz : cs = 0 ∧ fn = 0 ∧ pn = 0 ∧ rn = 0
  · obtain ⟨rfl, rfl, rfl, rfl⟩ := hz
    have HZ : Hid (decide (fl.length = 0) = true ∧ decide (po.length = 0) = true ∧ decide (ci.length = 0) = true) := ⟨decide_eq_true hL.out.1, decide_eq_true hL.out.2.1, decide_eq_true hL.out.2.2⟩
    go_enter Tryz.func72, Tryz.ntmps72
    go_wp2_with fail
    refine (gIsCut_any ca cn cc sn cu _ (ha.cu.below hb0)).mono ?_
    rintro e w1 ⟨rfl, rfl⟩
    cases hR : risB cu sn with
    | false =>
      have HF : Hid (noneB xs es ⟨kd, 0, fl, po, cu, ci⟩ = false) := by
        show noneB xs es ⟨kd, 0, fl, po, cu, ci⟩ = false
        unfold noneB
        simp only []
        rw [hx.len, hR]; rfl
      clear hR
      go_wp2
      go_ret
      exact ⟨ret_b HF.out.symm, hb0⟩
    | true =>
      have hr : risB cu xs.length = true := by rw [hx.len]; exact hR
      have HR := hide hr
      clear hR hr
      go_wp2_with fail
      refine (gViolated_any sa aa ca sn sc an ac cn cc xs es cu _ (hx.below hb0) (he.below hb0) (ha.cu.below hb0) hn HR.out).mono ?_
      rintro e w2 ⟨rfl, hb2⟩
      have hB2 : Below w.heap.size w w2 := hb0.trans (hb2.mono (by simp; omega))
      have HF : Hid (noneB xs es ⟨kd, 0, fl, po, cu, ci⟩ = violB xs es cu) := by
        show noneB xs es ⟨kd, 0, fl, po, cu, ci⟩ = violB xs es cu
        unfold noneB
        simp only []
        rw [HR.out, HZ.out.1, HZ.out.2.1, HZ.out.2.2]; simp
      generalize violB xs es cu = vb at *
      clear hb2 hn hx he ha hbx hb0
      go_wp2
      go_ret
      exact ⟨ret_b HF.out.symm, hB2⟩
  · have HF : Hid (noneB xs es ⟨kd, cs, fl, po, cu, ci⟩ = false) := by
      show noneB xs es ⟨kd, cs, fl, po, cu, ci⟩ = false
      unfold noneB
      simp only []
      obtain ⟨h1, h2, h3⟩ := hL.out
      rw [h1, h2, h3]
      by_cases g1 : cs = 0
      · by_cases g2 : fn = 0
        · by_cases g3 : pn = 0
          · rw [decide_eq_false (show ¬ rn = 0 by omega)]; simp
          · rw [decide_eq_false g3]; simp
        · rw [decide_eq_false g2]; simp
      · rw [decide_eq_false g1]; simp
    by_cases g1 : cs = 0
    · subst g1
      by_cases g2 : fn = 0
      · subst g2
        by_cases g3 : pn = 0
        · subst g3
          have t4 : ((rn : Int) != 0) = true := by simp; omega
          go_enter Tryz.func72, Tryz.ntmps72
          go_wp2
          go_ret
          exact ⟨ret_b HF.out.symm, hb0⟩
        · have t3 : ((pn : Int) != 0) = true := by simp; omega
          go_enter Tryz.func72, Tryz.ntmps72
          go_wp2
          go_ret
          exact ⟨ret_b HF.out.symm, hb0⟩
      · have t2 : ((fn : Int) != 0) = true := by simp; omega
        go_enter Tryz.func72, Tryz.ntmps72
        go_wp2
        go_ret
        exact ⟨ret_b HF.out.symm, hb0⟩
    · have t1 : (cs != 0) = true := by simpa using g1
      go_enter Tryz.func72, Tryz.ntmps72
      go_wp2
      go_ret
      exact ⟨ret_b HF.out.symm, hb0⟩

set_option maxHeartbeats 2000000 in
theorem gAcceptEndless_any (sa aa fa pa ca ra : Option Addr) (sn sc an ac fn fc pn pc cn cc rn rc : Nat) (kd cs : Int) (xs : List Int) (es : List A5) (fl po cu ci : List Int) (w : World) (hx : Ints w sa sn xs) (he : Arcs w aa an es) (hn : NetOK xs es)
    (ha : Ans w fa pa ca ra fn pn cn rn fl po cu ci) :
    Calls Tryz.prog 73 #[.agg #[.slice sa sn sc, .slice aa an ac], .agg #[.int .i64 kd, .int .i64 cs, .slice fa fn fc, .slice pa pn pc, .slice ca cn cc, .slice ra rn rc]] w fun e w' => e = .returned (.bool (endB xs es ⟨kd, cs, fl, po, cu, ci⟩)) ∧ Below w.heap.size w w' := by
  have hL : Hid (po.length = pn ∧ cu.length = cn) := ⟨ha.po.len, ha.cu.len⟩
  have hsp := ha.po.small
  have hsc := ha.cu.small
  have hbx := boxed_new w (.slice sa sn sc) (.slice aa an ac) (.int .i64 kd) (.int .i64 cs) (.slice fa fn fc) (.slice pa pn pc) (.slice ca cn cc) (.slice ra rn rc) 48 35
  have hb0 := Joins.below_alloc2 w (.cells #[.slice sa sn sc, .slice aa an ac] 48) (.cells #[.int .i64 kd, .int .i64 cs, .slice fa fn fc, .slice pa pn pc, .slice ca cn cc, .slice ra rn rc] 35)
  by_cases hz : cs = 0 ∧ pn = 0 ∧ cn = 0
  · obtain ⟨rfl, rfl, rfl⟩ := hz
    have HZ : Hid (decide (po.length = 0) = true ∧ decide (cu.length = 0) = true) := ⟨decide_eq_true hL.out.1, decide_eq_true hL.out.2⟩
    go_enter Tryz.func73, Tryz.ntmps73
    go_wp2_with fail
    refine (gFlowError_any sa aa fa sn sc an ac fn fc xs es fl _ (hx.below hb0) (he.below hb0) (ha.fl.below hb0) hn).mono ?_
    rintro e w1 ⟨rfl, hb1⟩
    have hB1 : Below w.heap.size w w1 := hb0.trans (hb1.mono (by simp; omega))
    have hx1 := hbx.below hb1
    clear hb1 hb0 hbx
    obtain ⟨m0, m1, m2, m3, m4, m5, m6, m7, m8⟩ := hx1
    obtain ⟨c, hc⟩ : ∃ c, flowErr xs es fl = c := ⟨_, rfl⟩
    rw [hc]
    cases hcz : (c != 0) with
    | true =>
      have HF : Hid (endB xs es ⟨kd, 0, fl, po, cu, ci⟩ = false) := by
        show endB xs es ⟨kd, 0, fl, po, cu, ci⟩ = false
        unfold endB
        simp only []
        rw [hc, decide_eq_false (show ¬ c = 0 by simpa using hcz)]
        rfl
      clear hc
      go_wp2
      go_ret
      exact ⟨ret_b HF.out.symm, hB1⟩
    | false =>
      have H0 := hide (hc.trans (show c = 0 by simpa using hcz))
      clear hc
      have HE : Hid (endB xs es ⟨kd, 0, fl, po, cu, ci⟩ = goodB es ci) := by
        show endB xs es ⟨kd, 0, fl, po, cu, ci⟩ = goodB es ci
        unfold endB
        simp only []
        rw [H0.out, HZ.out.1, HZ.out.2]; simp
      have hx1 := hide (Boxed.mk m0 m1 m2 m3 m4 m5 m6 m7 m8)
      go_wp2_with fail
      refine (gIsCircle_any sa aa ra sn sc an ac rn rc xs es ci _ (he.below hB1) (ha.ci.below hB1) hn).mono ?_
      rintro e w2 ⟨rfl, hb2⟩
      have hB2 : Below w.heap.size w w2 := hB1.trans (hb2.mono hB1.size)
      have hx2 := hx1.out.below hb2
      clear hb2 m0 m1 m2 m3 m4 m5 m6 m7 m8 hx1
      obtain ⟨m0, m1, m2, m3, m4, m5, m6, m7, m8⟩ := hx2
      obtain ⟨B, hB⟩ : ∃ B, (decide (0 < ci.length) && onceB es.length ci && prevB es ci) = B := ⟨_, rfl⟩
      rw [hB]
      cases B with
      | false =>
        have HF : Hid (goodB es ci = false) := by
          show goodB es ci = false
          unfold goodB
          rw [next_prev]
          revert hB
          cases decide (0 < ci.length) <;> cases onceB es.length ci <;> cases prevB es ci <;> simp
        clear hB
        go_wp2
        go_ret
        exact ⟨ret_b (HE.out.trans HF.out).symm, hB2⟩
      | true =>
        have hB' := hB
        simp only [Bool.and_eq_true] at hB'
        have HO := hide hB'.1.2
        have HF : Hid (goodB es ci = (unlB es ci && decide (circTo es ci ci.length < 0))) := by
          show goodB es ci = _
          unfold goodB
          rw [next_prev, hB'.1.2, hB'.2, hB'.1.1]; simp
        clear hB hB'
        go_wp2_with fail
        refine (gGood_any sa aa ra sn sc an ac rn rc xs es ci _ (he.below hB2) (ha.ci.below hB2) hn HO.out).mono ?_
        rintro e w3 ⟨rfl, hb3⟩
        have hB3 : Below w.heap.size w w3 := hB2.trans (hb3.mono hB2.size)
        generalize (unlB es ci && decide (circTo es ci ci.length < 0)) = gb at *
        clear m0 m1 m2 m3 m4 m5 m6 m7 m8 hb3 hn hx he ha
        go_wp2
        go_ret
        exact ⟨ret_b (HE.out.trans HF.out).symm, hB3⟩
  · have HF : Hid (endB xs es ⟨kd, cs, fl, po, cu, ci⟩ = false) := by
      show endB xs es ⟨kd, cs, fl, po, cu, ci⟩ = false
      unfold endB
      simp only []
      obtain ⟨h1, h2⟩ := hL.out
      rw [h1, h2]
      by_cases g1 : cs = 0
      · by_cases g2 : pn = 0
        · rw [decide_eq_false (show ¬ cn = 0 by omega)]; simp
        · rw [decide_eq_false g2]; simp
      · rw [decide_eq_false g1]; simp
    by_cases g1 : cs = 0
    · subst g1
      by_cases g2 : pn = 0
      · subst g2
        have t4 : ((cn : Int) != 0) = true := by simp; omega
        go_enter Tryz.func73, Tryz.ntmps73
        go_wp2
        go_ret
        exact ⟨ret_b HF.out.symm, hb0⟩
      · have t2 : ((pn : Int) != 0) = true := by simp; omega
        go_enter Tryz.func73, Tryz.ntmps73
        go_wp2
        go_ret
        exact ⟨ret_b HF.out.symm, hb0⟩
    · have t1 : (cs != 0) = true := by simpa using g1
      go_enter Tryz.func73, Tryz.ntmps73
      go_wp2
      go_ret
      exact ⟨ret_b HF.out.symm, hb0⟩

theorem accS_check {xs : List Int} {es : List A5} {a : A6} {c : Int} (h : (checkS xs es).1 = c) (hc : c ≠ 0) : accS xs es a = (false, c) := by rw [accS, h, if_pos hc]
theorem accS_ok {xs : List Int} {es : List A5} {a : A6} (hn : NetOK xs es) : accS xs es a = (okB xs es a, 0) := by rw [accS, hn.zero, if_neg (by simp)]
theorem ret_bi {x y : Bool} {c d : Int} (h : x = y) (k : c = d) : Ending.returned (.tuple #[.bool x, .int .i64 c]) = .returned (.tuple #[.bool y, .int .i64 d]) := by rw [h, k]

set_option maxHeartbeats 2000000 in
theorem gAccept_any (sa aa fa pa ca ra : Option Addr) (sn sc an ac fn fc pn pc cn cc rn rc : Nat) (kd cs : Int) (xs : List Int) (es : List A5) (fl po cu ci : List Int) (w : World) (hx : Ints w sa sn xs) (he : Arcs w aa an es)
    (ha : Ans w fa pa ca ra fn pn cn rn fl po cu ci) :
    Calls Tryz.prog 50 #[.agg #[.slice sa sn sc, .slice aa an ac], .agg #[.int .i64 kd, .int .i64 cs, .slice fa fn fc, .slice pa pn pc, .slice ca cn cc, .slice ra rn rc]] w fun e w' =>
      e = .returned (.tuple #[.bool (accS xs es ⟨kd, cs, fl, po, cu, ci⟩).1, .int .i64 (accS xs es ⟨kd, cs, fl, po, cu, ci⟩).2]) ∧ Below w.heap.size w w' := by
  have hbx := boxed_new w (.slice sa sn sc) (.slice aa an ac) (.int .i64 kd) (.int .i64 cs) (.slice fa fn fc) (.slice pa pn pc) (.slice ca cn cc) (.slice ra rn rc) 48 35
  have hb0 := Joins.below_alloc2 w (.cells #[.slice sa sn sc, .slice aa an ac] 48) (.cells #[.int .i64 kd, .int .i64 cs, .slice fa fn fc, .slice pa pn pc, .slice ca cn cc, .slice ra rn rc] 35)
  go_enter Tryz.func50, Tryz.ntmps50
  go_wp2_with fail
  refine (gCheck_any sa aa sn sc an ac xs es _ (hx.below hb0) (he.below hb0)).mono ?_
  rintro e w1 ⟨rfl, hb1⟩
  have hB1 : Below w.heap.size w w1 := hb0.trans (hb1.mono (by simp; omega))
  have hx1 := hbx.below hb1
  clear hb1 hb0 hbx
  obtain ⟨m0, m1, m2, m3, m4, m5, m6, m7, m8⟩ := hx1
  obtain ⟨c, hc⟩ : ∃ c, (checkS xs es).1 = c := ⟨_, rfl⟩
  rw [hc]
  cases hz : (c != 0) with
  | true =>
    have HS := hide (accS_check (a := ⟨kd, cs, fl, po, cu, ci⟩) hc (by simpa using hz))
    clear hc
    go_wp2
    go_ret2
    exact ⟨ret_bi (by rw [HS.out]) (by rw [HS.out]), hB1⟩
  | false =>
    have hn := netOK_of (hc.trans (by simpa using hz))
    have hN := hide hn
    have HS := hide (accS_ok (a := ⟨kd, cs, fl, po, cu, ci⟩) hn)
    clear hc hn
    by_cases k1 : kd = 1
    · subst k1
      have HK : Hid (okB xs es ⟨1, cs, fl, po, cu, ci⟩ = bestB xs es ⟨1, cs, fl, po, cu, ci⟩) := rfl
      go_wp2_with fail
      refine (gAcceptBest_any sa aa fa pa ca ra sn sc an ac fn fc pn pc cn cc rn rc 1 cs xs es fl po cu ci _ (hx.below hB1) (he.below hB1) hN.out (ha.below hB1)).mono ?_
      rintro e w2 ⟨rfl, hb2⟩
      have hB2 : Below w.heap.size w w2 := hB1.trans (hb2.mono hB1.size)
      generalize bestB xs es ⟨1, cs, fl, po, cu, ci⟩ = gb at *
      clear m0 m1 m2 m3 m4 m5 m6 m7 m8 hb2 hx he ha
      go_wp2
      go_ret2
      exact ⟨ret_bi (by rw [HS.out, HK.out]) (by rw [HS.out]), hB2⟩
    have t1 : (kd == 1) = false := by simpa using k1
    by_cases k2 : kd = 2
    · subst k2
      have HK : Hid (okB xs es ⟨2, cs, fl, po, cu, ci⟩ = noneB xs es ⟨2, cs, fl, po, cu, ci⟩) := rfl
      go_wp2_with fail
      refine (gAcceptNone_any sa aa fa pa ca ra sn sc an ac fn fc pn pc cn cc rn rc 2 cs xs es fl po cu ci _ (hx.below hB1) (he.below hB1) hN.out (ha.below hB1)).mono ?_
      rintro e w2 ⟨rfl, hb2⟩
      have hB2 : Below w.heap.size w w2 := hB1.trans (hb2.mono hB1.size)
      generalize noneB xs es ⟨2, cs, fl, po, cu, ci⟩ = gb at *
      clear m0 m1 m2 m3 m4 m5 m6 m7 m8 hb2 hx he ha
      go_wp2
      go_ret2
      exact ⟨ret_bi (by rw [HS.out, HK.out]) (by rw [HS.out]), hB2⟩
    have t2 : (kd == 2) = false := by simpa using k2
    by_cases k3 : kd = 3
    · subst k3
      have HK : Hid (okB xs es ⟨3, cs, fl, po, cu, ci⟩ = endB xs es ⟨3, cs, fl, po, cu, ci⟩) := rfl
      go_wp2_with fail
      refine (gAcceptEndless_any sa aa fa pa ca ra sn sc an ac fn fc pn pc cn cc rn rc 3 cs xs es fl po cu ci _ (hx.below hB1) (he.below hB1) hN.out (ha.below hB1)).mono ?_
      rintro e w2 ⟨rfl, hb2⟩
      have hB2 : Below w.heap.size w w2 := hB1.trans (hb2.mono hB1.size)
      generalize endB xs es ⟨3, cs, fl, po, cu, ci⟩ = gb at *
      clear m0 m1 m2 m3 m4 m5 m6 m7 m8 hb2 hx he ha
      go_wp2
      go_ret2
      exact ⟨ret_bi (by rw [HS.out, HK.out]) (by rw [HS.out]), hB2⟩
    have t3 : (kd == 3) = false := by simpa using k3
    have HK : Hid (okB xs es ⟨kd, cs, fl, po, cu, ci⟩ = false) := by
      show okB xs es ⟨kd, cs, fl, po, cu, ci⟩ = false
      unfold okB
      simp only []
      rw [if_neg k1, if_neg k2, if_neg k3]
    clear k1 k2 k3
    go_wp2
    go_ret2
    exact ⟨ret_bi (by rw [HS.out, HK.out]) (by rw [HS.out]), hB1⟩

set_option maxHeartbeats 400000 in
theorem accept_any (sa aa fa pa ca ra : Option Addr) (sn sc an ac fn fc pn pc cn cc rn rc : Nat) (kd cs : Int) (xs : List Int) (es : List A5) (fl po cu ci : List Int) (w : World) (hx : Ints w sa sn xs) (he : Arcs w aa an es)
    (ha : Ans w fa pa ca ra fn pn cn rn fl po cu ci) :
    Calls Tryz.prog 32 #[.agg #[.slice sa sn sc, .slice aa an ac], .agg #[.int .i64 kd, .int .i64 cs, .slice fa fn fc, .slice pa pn pc, .slice ca cn cc, .slice ra rn rc]] w fun e w' =>
      e = .returned (.tuple #[.bool (accS xs es ⟨kd, cs, fl, po, cu, ci⟩).1, .int .i64 (accS xs es ⟨kd, cs, fl, po, cu, ci⟩).2]) ∧ Below w.heap.size w w' := by
  have hb0 := Joins.below_alloc2 w (.cells #[.slice sa sn sc, .slice aa an ac] 48) (.cells #[.int .i64 kd, .int .i64 cs, .slice fa fn fc, .slice pa pn pc, .slice ca cn cc, .slice ra rn rc] 35)
  go_enter Tryz.func32, Tryz.ntmps32
  go_wp2_with fail
  refine (gAccept_any sa aa fa pa ca ra sn sc an ac fn fc pn pc cn cc rn rc kd cs xs es fl po cu ci _ (hx.below hb0) (he.below hb0) (ha.below hb0)).mono ?_
  rintro e w1 ⟨rfl, hb⟩
  go_wp2
  go_ret2
  exact ⟨rfl, hb0.trans (hb.mono (by simp; omega))⟩
end Go.Proofs.YtnbccoflcoaoaaaGreat

namespace Go.Proofs.YtnbccoflcoaoaaaGreat
open Go.RowKit Go.Deep
set_option linter.unusedSimpArgs false
set_option linter.unusedVariables false

theorem costS_cases {xs : List Int} {es : List A5} (fl : List Int) (hn : NetOK xs es) : (flowErr xs es fl ≠ 0 ∧ costS xs es fl = (0, flowErr xs es fl)) ∨ (flowErr xs es fl = 0 ∧ costS xs es fl = (costTo es fl es.length, 0)) := by
  by_cases h : flowErr xs es fl = 0
  · exact .inr ⟨h, costS_ok hn h⟩
  · exact .inl ⟨h, costS_flow hn rfl h⟩

set_option maxHeartbeats 4000000 in
theorem refAccepted_any (sa aa fa pa ca ra : Option Addr) (sn sc an ac fn fc pn pc cn cc rn rc : Nat) (kd cs : Int) (xs : List Int) (es : List A5) (fl po cu ci : List Int) (w : World) (hx : Ints w sa sn xs) (he : Arcs w aa an es) (hn : NetOK xs es)
    (ha : Ans w fa pa ca ra fn pn cn rn fl po cu ci) (hle : rn ≤ rc) :
    Calls Tryz.prog 51 #[.agg #[.slice sa sn sc, .slice aa an ac], .agg #[.int .i64 kd, .int .i64 cs, .slice fa fn fc, .slice pa pn pc, .slice ca cn cc, .slice ra rn rc]] w fun e w' => e = .returned (.bool (okB xs es ⟨kd, cs, fl, po, cu, ci⟩)) ∧ Below w.heap.size w w' := by
  have hL : Hid (fl.length = fn ∧ po.length = pn ∧ cu.length = cn ∧ ci.length = rn) := ⟨ha.fl.len, ha.po.len, ha.cu.len, ha.ci.len⟩
  have hsf := ha.fl.small
  have hsp := ha.po.small
  have hsc := ha.cu.small
  have hsr := ha.ci.small
  have hbx := boxed_new w (.slice sa sn sc) (.slice aa an ac) (.int .i64 kd) (.int .i64 cs) (.slice fa fn fc) (.slice pa pn pc) (.slice ca cn cc) (.slice ra rn rc) 48 35
  have hb0 := Joins.below_alloc2 w (.cells #[.slice sa sn sc, .slice aa an ac] 48) (.cells #[.int .i64 kd, .int .i64 cs, .slice fa fn fc, .slice pa pn pc, .slice ca cn cc, .slice ra rn rc] 35)
  have hN := hide hn
  have hcase := hide (costS_cases fl hn)
  clear hn
  go_enter Tryz.func51, Tryz.ntmps51
  go_wp2_with fail
  refine (refCost_any sa aa fa sn sc an ac fn fc xs es fl _ (hx.below hb0) (he.below hb0) (ha.fl.below hb0)).mono ?_
  rintro e w1 ⟨rfl, hb1⟩
  have hB1 : Below w.heap.size w w1 := hb0.trans (hb1.mono (by simp; omega))
  have hx1 := hbx.below hb1
  clear hb1 hb0 hbx
  obtain ⟨m0, m1, m2, m3, m4, m5, m6, m7, m8⟩ := hx1
  have hbx := hide (Boxed.mk m0 m1 m2 m3 m4 m5 m6 m7 m8)
  obtain ⟨c, e, hce⟩ : ∃ c e, costS xs es fl = (c, e) := ⟨_, _, rfl⟩
  rw [hce]
  simp only []
  have hCE : Hid ((e ≠ 0 ∧ flowErr xs es fl ≠ 0) ∨ (e = 0 ∧ flowErr xs es fl = 0 ∧ costTo es fl es.length = c)) := by
    rcases hcase.out with ⟨g1, g2⟩ | ⟨g1, g2⟩
    · rw [hce] at g2; cases g2; exact .inl ⟨g1, g1⟩
    · rw [hce] at g2; cases g2; exact .inr ⟨rfl, g1, rfl⟩
  clear hce hcase
  by_cases k1 : kd = 1
  · subst k1
    have HK : Hid (okB xs es ⟨1, cs, fl, po, cu, ci⟩ = bestB xs es ⟨1, cs, fl, po, cu, ci⟩) := rfl
    by_cases ht : e = 0 ∧ c = cs ∧ cn = 0 ∧ rn = 0
    · obtain ⟨rfl, rfl, rfl, rfl⟩ := ht
      obtain ⟨-, g1, g2⟩ := hCE.out.resolve_left (by simp)
      have hfn : fn = an := by rw [← ha.fl.len, ← he.len]; exact (flowErr_zero g1).1
      subst hfn
      have HF : Hid (bestB xs es ⟨1, c, fl, po, cu, ci⟩ = holdsB xs es fl po) := by
        show bestB xs es ⟨1, c, fl, po, cu, ci⟩ = holdsB xs es fl po
        unfold bestB
        simp only []
        rw [g1, g2, decide_eq_true hL.out.2.2.1, decide_eq_true hL.out.2.2.2]; simp
      clear g1 g2
      go_wp2_with fail
      refine (refHolds_any sa aa fa pa sn sc fn ac fc pn pc xs es fl po _ (hx.below hB1) (he.below hB1) (ha.fl.below hB1) (ha.po.below hB1) hN.out).mono ?_
      rintro e w2 ⟨rfl, hb2⟩
      have hB2 : Below w.heap.size w w2 := hB1.trans (hb2.mono hB1.size)
      generalize holdsB xs es fl po = gb at *
      clear m0 m1 m2 m3 m4 m5 m6 m7 m8 hb2 hx he ha
      go_wp2
      go_ret
      exact ⟨ret_b (HK.out.trans HF.out).symm, hB2⟩
    · have HF : Hid (bestB xs es ⟨1, cs, fl, po, cu, ci⟩ = false) := by
        show bestB xs es ⟨1, cs, fl, po, cu, ci⟩ = false
        unfold bestB
        simp only []
        rw [hL.out.2.2.1, hL.out.2.2.2]
        rcases hCE.out with ⟨g1, g2⟩ | ⟨g1, g2, g3⟩
        · rw [decide_eq_false g2]; rfl
        · rw [g3]
          by_cases q1 : c = cs
          · by_cases q2 : cn = 0
            · rw [decide_eq_false (show ¬ rn = 0 from fun q3 => ht ⟨g1, q1, q2, q3⟩)]; simp
            · rw [decide_eq_false q2]; simp
          · rw [decide_eq_false q1]; simp
      by_cases q0 : e = 0
      · subst q0
        by_cases q1 : c = cs
        · subst q1
          by_cases q2 : cn = 0
          · subst q2
            have t4 : (0 : Int) < (rn : Int) := by omega
            clear ht
            go_wp2
            go_ret
            exact ⟨ret_b (HK.out.trans HF.out).symm, hB1⟩
          · have t3 : (0 : Int) < (cn : Int) := by omega
            clear ht
            go_wp2
            go_ret
            exact ⟨ret_b (HK.out.trans HF.out).symm, hB1⟩
        · have t2 : (c != cs) = true := by simpa using q1
          clear ht q1
          go_wp2
          go_ret
          exact ⟨ret_b (HK.out.trans HF.out).symm, hB1⟩
      · have t1 : (e != 0) = true := by simpa using q0
        clear ht q0
        go_wp2
        go_ret
        exact ⟨ret_b (HK.out.trans HF.out).symm, hB1⟩
  have t1 : (kd == 1) = false := by simpa using k1
  by_cases k2 : kd = 2
  · subst k2
    have HK : Hid (okB xs es ⟨2, cs, fl, po, cu, ci⟩ = noneB xs es ⟨2, cs, fl, po, cu, ci⟩) := rfl
    clear k1
    go_wp2_with fail
    refine (refRising_any ca cn cc sn cu _ (ha.cu.below hB1)).mono ?_
    rintro e' w2 ⟨rfl, hb2⟩
    have hB2 : Below w.heap.size w w2 := hB1.trans (hb2.mono hB1.size)
    have hx2 := hbx.out.below hb2
    clear hb2 m0 m1 m2 m3 m4 m5 m6 m7 m8 hbx
    obtain ⟨m0, m1, m2, m3, m4, m5, m6, m7, m8⟩ := hx2
    by_cases ht : risB cu sn = true ∧ cs = 0 ∧ fn = 0 ∧ pn = 0 ∧ rn = 0
    · obtain ⟨hr, rfl, rfl, rfl, rfl⟩ := ht
      have hr' : risB cu xs.length = true := by rw [hx.len]; exact hr
      have HR := hide hr'
      rw [hr]
      clear hr hr'
      have HF : Hid (noneB xs es ⟨2, 0, fl, po, cu, ci⟩ = violB xs es cu) := by
        show noneB xs es ⟨2, 0, fl, po, cu, ci⟩ = violB xs es cu
        unfold noneB
        simp only []
        rw [HR.out, decide_eq_true hL.out.1, decide_eq_true hL.out.2.1, decide_eq_true hL.out.2.2.2]; simp
      go_wp2_with fail
      refine (refViolated_any sa aa ca sn sc an ac cn cc xs es cu _ (hx.below hB2) (he.below hB2) (ha.cu.below hB2) hN.out HR.out).mono ?_
      rintro e w3 ⟨rfl, hb3⟩
      have hB3 : Below w.heap.size w w3 := hB2.trans (hb3.mono hB2.size)
      generalize violB xs es cu = gb at *
      clear m0 m1 m2 m3 m4 m5 m6 m7 m8 hb3 hx he ha
      go_wp2
      go_ret
      exact ⟨ret_b (HK.out.trans HF.out).symm, hB3⟩
    · have HF : Hid (noneB xs es ⟨2, cs, fl, po, cu, ci⟩ = false) := by
        show noneB xs es ⟨2, cs, fl, po, cu, ci⟩ = false
        unfold noneB
        simp only []
        rw [hL.out.1, hL.out.2.1, hL.out.2.2.2, hx.len]
        by_cases q0 : risB cu sn = true
        · by_cases q1 : cs = 0
          · by_cases q2 : fn = 0
            · by_cases q3 : pn = 0
              · rw [decide_eq_false (show ¬ rn = 0 from fun q4 => ht ⟨q0, q1, q2, q3, q4⟩)]; simp
              · rw [decide_eq_false q3]; simp
            · rw [decide_eq_false q2]; simp
          · rw [decide_eq_false q1]; simp
        · rw [show risB cu sn = false by simpa using q0]; rfl
      cases q0 : risB cu sn with
      | false =>
        clear ht q0
        go_wp2
        go_ret
        exact ⟨ret_b (HK.out.trans HF.out).symm, hB2⟩
      | true =>
        by_cases q1 : cs = 0
        · subst q1
          by_cases q2 : fn = 0
          · subst q2
            by_cases q3 : pn = 0
            · subst q3
              have t4 : (0 : Int) < (rn : Int) := by
                rcases Nat.eq_zero_or_pos rn with h | h
                · exact absurd ⟨q0, rfl, rfl, rfl, h⟩ ht
                · omega
              clear ht q0
              go_wp2
              go_ret
              exact ⟨ret_b (HK.out.trans HF.out).symm, hB2⟩
            · have t3 : (0 : Int) < (pn : Int) := by omega
              clear ht q0
              go_wp2
              go_ret
              exact ⟨ret_b (HK.out.trans HF.out).symm, hB2⟩
          · have t2 : (0 : Int) < (fn : Int) := by omega
            clear ht q0
            go_wp2
            go_ret
            exact ⟨ret_b (HK.out.trans HF.out).symm, hB2⟩
        · have t5 : (cs != 0) = true := by simpa using q1
          clear ht q0 q1
          go_wp2
          go_ret
          exact ⟨ret_b (HK.out.trans HF.out).symm, hB2⟩
  have t2 : (kd == 2) = false := by simpa using k2
  by_cases k3 : kd = 3
  · subst k3
    have HK : Hid (okB xs es ⟨3, cs, fl, po, cu, ci⟩ = endB xs es ⟨3, cs, fl, po, cu, ci⟩) := rfl
    clear k1 k2
    by_cases ht : e = 0 ∧ cs = 0 ∧ pn = 0 ∧ cn = 0
    · obtain ⟨rfl, rfl, rfl, rfl⟩ := ht
      obtain ⟨-, g1, g2⟩ := hCE.out.resolve_left (by simp)
      have HF : Hid (endB xs es ⟨3, 0, fl, po, cu, ci⟩ = goodB es ci) := by
        show endB xs es ⟨3, 0, fl, po, cu, ci⟩ = goodB es ci
        unfold endB
        simp only []
        rw [g1, decide_eq_true hL.out.2.1, decide_eq_true hL.out.2.2.1]; simp
      clear g1 g2
      go_wp2_with fail
      refine (refGood_any sa aa ra sn sc an ac rn rc xs es ci _ (he.below hB1) (ha.ci.below hB1) hN.out hle).mono ?_
      rintro e w2 ⟨rfl, hb2⟩
      have hB2 : Below w.heap.size w w2 := hB1.trans (hb2.mono hB1.size)
      generalize goodB es ci = gb at *
      clear m0 m1 m2 m3 m4 m5 m6 m7 m8 hb2 hx he ha
      go_wp2
      go_ret
      exact ⟨ret_b (HK.out.trans HF.out).symm, hB2⟩
    · have HF : Hid (endB xs es ⟨3, cs, fl, po, cu, ci⟩ = false) := by
        show endB xs es ⟨3, cs, fl, po, cu, ci⟩ = false
        unfold endB
        simp only []
        rw [hL.out.2.1, hL.out.2.2.1]
        rcases hCE.out with ⟨g1, g2⟩ | ⟨g1, g2, g3⟩
        · rw [decide_eq_false g2]; rfl
        · by_cases q1 : cs = 0
          · by_cases q2 : pn = 0
            · rw [decide_eq_false (show ¬ cn = 0 from fun q3 => ht ⟨g1, q1, q2, q3⟩)]; simp
            · rw [decide_eq_false q2]; simp
          · rw [decide_eq_false q1]; simp
      by_cases q0 : e = 0
      · subst q0
        by_cases q1 : cs = 0
        · subst q1
          by_cases q2 : pn = 0
          · subst q2
            have t4 : (0 : Int) < (cn : Int) := by omega
            clear ht
            go_wp2
            go_ret
            exact ⟨ret_b (HK.out.trans HF.out).symm, hB1⟩
          · have t3 : (0 : Int) < (pn : Int) := by omega
            clear ht
            go_wp2
            go_ret
            exact ⟨ret_b (HK.out.trans HF.out).symm, hB1⟩
        · have t5 : (cs != 0) = true := by simpa using q1
          clear ht q1
          go_wp2
          go_ret
          exact ⟨ret_b (HK.out.trans HF.out).symm, hB1⟩
      · have t6 : (e != 0) = true := by simpa using q0
        clear ht q0
        go_wp2
        go_ret
        exact ⟨ret_b (HK.out.trans HF.out).symm, hB1⟩
  have t3 : (kd == 3) = false := by simpa using k3
  have HK : Hid (okB xs es ⟨kd, cs, fl, po, cu, ci⟩ = false) := by
    show okB xs es ⟨kd, cs, fl, po, cu, ci⟩ = false
    unfold okB
    simp only []
    rw [if_neg k1, if_neg k2, if_neg k3]
  clear k1 k2 k3
  go_wp2
  go_ret
  exact ⟨ret_b HK.out.symm, hB1⟩

set_option maxHeartbeats 1000000 in
theorem refAccept_any (sa aa fa pa ca ra : Option Addr) (sn sc an ac fn fc pn pc cn cc rn rc : Nat) (kd cs : Int) (xs : List Int) (es : List A5) (fl po cu ci : List Int) (w : World) (hx : Ints w sa sn xs) (he : Arcs w aa an es)
    (ha : Ans w fa pa ca ra fn pn cn rn fl po cu ci) (hle : rn ≤ rc) :
    Calls Tryz.prog 33 #[.agg #[.slice sa sn sc, .slice aa an ac], .agg #[.int .i64 kd, .int .i64 cs, .slice fa fn fc, .slice pa pn pc, .slice ca cn cc, .slice ra rn rc]] w fun e w' =>
      e = .returned (.tuple #[.bool (accS xs es ⟨kd, cs, fl, po, cu, ci⟩).1, .int .i64 (accS xs es ⟨kd, cs, fl, po, cu, ci⟩).2]) ∧ Below w.heap.size w w' := by
  have hbx := boxed_new w (.slice sa sn sc) (.slice aa an ac) (.int .i64 kd) (.int .i64 cs) (.slice fa fn fc) (.slice pa pn pc) (.slice ca cn cc) (.slice ra rn rc) 48 35
  have hb0 := Joins.below_alloc2 w (.cells #[.slice sa sn sc, .slice aa an ac] 48) (.cells #[.int .i64 kd, .int .i64 cs, .slice fa fn fc, .slice pa pn pc, .slice ca cn cc, .slice ra rn rc] 35)
  go_enter Tryz.func33, Tryz.ntmps33
  go_wp2_with fail
  refine (refCheck_any sa aa sn sc an ac xs es _ (hx.below hb0) (he.below hb0)).mono ?_
  rintro e w1 ⟨rfl, hb1⟩
  have hB1 : Below w.heap.size w w1 := hb0.trans (hb1.mono (by simp; omega))
  have hx1 := hbx.below hb1
  clear hb1 hb0 hbx
  obtain ⟨m0, m1, m2, m3, m4, m5, m6, m7, m8⟩ := hx1
  obtain ⟨c, hc⟩ : ∃ c, (checkS xs es).1 = c := ⟨_, rfl⟩
  rw [hc]
  cases hz : (c != 0) with
  | true =>
    have HS := hide (accS_check (a := ⟨kd, cs, fl, po, cu, ci⟩) hc (by simpa using hz))
    clear hc
    go_wp2
    go_ret2
    exact ⟨ret_bi (by rw [HS.out]) (by rw [HS.out]), hB1⟩
  | false =>
    have hn := netOK_of (hc.trans (by simpa using hz))
    have hN := hide hn
    have HS := hide (accS_ok (a := ⟨kd, cs, fl, po, cu, ci⟩) hn)
    clear hc hn
    go_wp2_with fail
    refine (refAccepted_any sa aa fa pa ca ra sn sc an ac fn fc pn pc cn cc rn rc kd cs xs es fl po cu ci _ (hx.below hB1) (he.below hB1) hN.out (ha.below hB1) hle).mono ?_
    rintro e w2 ⟨rfl, hb2⟩
    have hB2 : Below w.heap.size w w2 := hB1.trans (hb2.mono hB1.size)
    generalize okB xs es ⟨kd, cs, fl, po, cu, ci⟩ = gb at *
    clear m0 m1 m2 m3 m4 m5 m6 m7 m8 hb2 hx he ha
    go_wp2
    go_ret2
    exact ⟨ret_bi (by rw [HS.out]) (by rw [HS.out]), hB2⟩
end Go.Proofs.YtnbccoflcoaoaaaGreat

namespace Go.Proofs.YtnbccoflcoaoaaaGreat
open Go.RowKit Go.Deep
set_option linter.unusedSimpArgs false
set_option linter.unusedVariables false

/-- The six cells of an answer. -/
def ansRow (v0 v1 v2 v3 v4 v5 : Value) : Nat → Value
  | 0 => v0
  | 1 => v1
  | 2 => v2
  | 3 => v3
  | 4 => v4
  | _ => v5
theorem ansRow_alloc (w : World) (v0 v1 v2 v3 v4 v5 : Value) (t : TypeId) : (w.alloc (.cells #[v0, v1, v2, v3, v4, v5] t)).rowIs w.heap.size t 6 (ansRow v0 v1 v2 v3 v4 v5) := by
  have := World.rowIs_alloc w #[v0, v1, v2, v3, v4, v5] t (ansRow v0 v1 v2 v3 v4 v5) (fun i hi => by
    match i, hi with
    | 0, _ => rfl
    | 1, _ => rfl
    | 2, _ => rfl
    | 3, _ => rfl
    | 4, _ => rfl
    | 5, _ => rfl)
  simpa using this

/-- The cells and the marks of a row of six. -/
theorem row6 {w : World} {g : Nat} {t : TypeId} {v0 v1 v2 v3 v4 v5 : Value} (h : w.rowIs g t 6 (ansRow v0 v1 v2 v3 v4 v5)) :
    (w.cell? ⟨g, 0, none⟩ = some v0 ∧ w.cell? ⟨g, 1, none⟩ = some v1 ∧ w.cell? ⟨g, 2, none⟩ = some v2 ∧ w.cell? ⟨g, 3, none⟩ = some v3 ∧ w.cell? ⟨g, 4, none⟩ = some v4 ∧ w.cell? ⟨g, 5, none⟩ = some v5) ∧
    (w.frozen? ⟨g, 0, none⟩ = false ∧ w.frozen? ⟨g, 1, none⟩ = false ∧ w.frozen? ⟨g, 2, none⟩ = false ∧ w.frozen? ⟨g, 3, none⟩ = false ∧ w.frozen? ⟨g, 4, none⟩ = false ∧ w.frozen? ⟨g, 5, none⟩ = false) :=
  ⟨⟨h.cell (i := 0) (by omega), h.cell (i := 1) (by omega), h.cell (i := 2) (by omega), h.cell (i := 3) (by omega), h.cell (i := 4) (by omega), h.cell (i := 5) (by omega)⟩,
   ⟨h.frozen 0, h.frozen 1, h.frozen 2, h.frozen 3, h.frozen 4, h.frozen 5⟩⟩

theorem Ints.setCell {w : World} {a : Option Addr} {n lo : Nat} {xs : List Int} (h : Ints w a n xs) (hf : Fresh lo n a) {p : Addr} (hp : p.block < lo) (v : Value) : Ints (w.setCell p v) a n xs :=
  h.keep hf (by simp [World.setCell]) (fun b off hlo _ => World.cell?_of_block (Below.heap_setCell _ _ _ _ (by show b ≠ p.block; omega)))
theorem Fresh.le {lo lo' n : Nat} {a : Option Addr} (h : Fresh lo n a) (hl : lo' ≤ lo) : Fresh lo' n a := h.imp id fun ⟨b, off, e, hb⟩ => ⟨b, off, e, by omega⟩

/-- What the call holds on its way: the answer handed in, the result's place, the copy. -/
structure Way (W w : World) (A Z C : Nat → Value) : Prop where
  a : w.rowIs W.heap.size 35 6 A
  z : w.rowIs (W.heap.size + 1) 35 6 Z
  c : w.rowIs (W.heap.size + 1 + 1) 35 6 C
  b : Below W.heap.size W w
theorem Way.below {W w w' : World} {A Z C : Nat → Value} (h : Way W w A Z C) (hb : Below w.heap.size w w') : Way W w' A Z C :=
  ⟨blockBelow hb h.a.lt h.a, blockBelow hb h.z.lt h.z, blockBelow hb h.c.lt h.c, h.b.trans (hb.mono h.b.size)⟩
theorem Way.set {W w : World} {A Z C C' : Nat → Value} (h : Way W w A Z C) (j : Nat) (v : Value) (hC : ∀ i, i < 6 → (if i = j then v else C i) = C' i) : Way W (w.setCell ⟨W.heap.size + 1 + 1, j, none⟩ v) A Z C' :=
  ⟨h.a.setOther (by show W.heap.size ≠ W.heap.size + 1 + 1; omega) _, h.z.setOther (by show W.heap.size + 1 ≠ W.heap.size + 1 + 1; omega) _, (h.c.set j v).congr hC, h.b.setCell (by show W.heap.size ≤ W.heap.size + 1 + 1; omega) _⟩

set_option maxHeartbeats 4000000 in
theorem ownAnswer_any (fa pa ca ra : Option Addr) (fn fc pn pc cn cc rn rc : Nat) (kd cs : Int) (fl po cu ci : List Int) (w : World) (ha : Ans w fa pa ca ra fn pn cn rn fl po cu ci) :
    Calls Tryz.prog 5 #[.agg #[.int .i64 kd, .int .i64 cs, .slice fa fn fc, .slice pa pn pc, .slice ca cn cc, .slice ra rn rc]] w fun e w' =>
      ∃ fa' fc' pa' pc' ca' cc' ra' rc', e = .returned (.agg #[.int .i64 kd, .int .i64 cs, .slice fa' fn fc', .slice pa' pn pc', .slice ca' cn cc', .slice ra' rn rc']) ∧ Ans w' fa' pa' ca' ra' fn pn cn rn fl po cu ci ∧ Below w.heap.size w w' := by
  go_enter Tryz.func5, Tryz.ntmps5
  go_wp2_with fail
  have w0 : Way w (((w.alloc (.cells #[.int .i64 kd, .int .i64 cs, .slice fa fn fc, .slice pa pn pc, .slice ca cn cc, .slice ra rn rc] 35)).alloc (.cells #[.int .i64 0, .int .i64 0, .slice none 0 0, .slice none 0 0, .slice none 0 0, .slice none 0 0] 35)).alloc (.cells #[.int .i64 kd, .int .i64 cs, .slice none 0 0, .slice none 0 0, .slice none 0 0, .slice none 0 0] 35))
      (ansRow (.int .i64 kd) (.int .i64 cs) (.slice fa fn fc) (.slice pa pn pc) (.slice ca cn cc) (.slice ra rn rc)) (ansRow (.int .i64 0) (.int .i64 0) (.slice none 0 0) (.slice none 0 0) (.slice none 0 0) (.slice none 0 0)) (ansRow (.int .i64 kd) (.int .i64 cs) (.slice none 0 0) (.slice none 0 0) (.slice none 0 0) (.slice none 0 0)) := by
    refine ⟨((ansRow_alloc _ _ _ _ _ _ _ _).alloc _).alloc _, ?_, ?_, Joins.below_alloc3 _ _ _ _⟩
    · have := (ansRow_alloc (w.alloc (.cells #[.int .i64 kd, .int .i64 cs, .slice fa fn fc, .slice pa pn pc, .slice ca cn cc, .slice ra rn rc] 35)) (.int .i64 0) (.int .i64 0) (.slice none 0 0) (.slice none 0 0) (.slice none 0 0) (.slice none 0 0) 35).alloc (.cells #[.int .i64 kd, .int .i64 cs, .slice none 0 0, .slice none 0 0, .slice none 0 0, .slice none 0 0] 35)
      simp at this
      exact this
    · have := ansRow_alloc ((w.alloc (.cells #[.int .i64 kd, .int .i64 cs, .slice fa fn fc, .slice pa pn pc, .slice ca cn cc, .slice ra rn rc] 35)).alloc (.cells #[.int .i64 0, .int .i64 0, .slice none 0 0, .slice none 0 0, .slice none 0 0, .slice none 0 0] 35)) (.int .i64 kd) (.int .i64 cs) (.slice none 0 0) (.slice none 0 0) (.slice none 0 0) (.slice none 0 0) 35
      simp at this
      exact this
  refine (own_any fa fn fc fl _ (ha.fl.below w0.b)).mono ?_
  rintro e w1 ⟨fa', fc', rfl, hF, fF, hb1⟩
  have y1 := hide (w0.below hb1)
  have sz1 := y1.out.c.lt
  have fF1 : Hid (Fresh (w.heap.size + 1 + 1 + 1) fn fa') := fF.le (by simp)
  have hF1 := hide hF
  obtain ⟨⟨a0, a1, a2, a3, a4, a5⟩, -⟩ := row6 y1.out.a
  obtain ⟨⟨c0, c1, c2, c3, c4, c5⟩, ⟨d0, d1, d2, d3, d4, d5⟩⟩ := row6 y1.out.c
  clear hb1 w0 hF fF
  go_wp2_with fail
  have y2 := y1.out.set 2 (.slice fa' fn fc') (C' := ansRow (.int .i64 kd) (.int .i64 cs) (.slice fa' fn fc') (.slice none 0 0) (.slice none 0 0) (.slice none 0 0)) (fun i hi => by match i, hi with | 0, _ => rfl | 1, _ => rfl | 2, _ => rfl | 3, _ => rfl | 4, _ => rfl | 5, _ => rfl)
  have hF2 := hF1.out.setCell fF1.out (p := ⟨w.heap.size + 1 + 1, 2, none⟩) (by show w.heap.size + 1 + 1 < w.heap.size + 1 + 1 + 1; omega) (.slice fa' fn fc')
  refine (own_any pa pn pc po _ (ha.po.below y2.b)).mono ?_
  rintro e w2 ⟨pa', pc', rfl, hP, fP, hb2⟩
  have hF3 := hide (hF2.below hb2)
  have hP1 := hide hP
  have fP1 : Hid (Fresh (w.heap.size + 1 + 1 + 1) pn pa') := fP.le (by simp [World.setCell]; omega)
  have y3 := hide (y2.below hb2)
  clear a0 a1 a2 a3 a4 a5 c0 c1 c2 c3 c4 c5 d0 d1 d2 d3 d4 d5 y1 y2 hF1 hF2 hb2 sz1 hP fP
  have sz1 := y3.out.c.lt
  obtain ⟨⟨a0, a1, a2, a3, a4, a5⟩, -⟩ := row6 y3.out.a
  obtain ⟨⟨c0, c1, c2, c3, c4, c5⟩, ⟨d0, d1, d2, d3, d4, d5⟩⟩ := row6 y3.out.c
  go_wp2_with fail
  have y4 := y3.out.set 3 (.slice pa' pn pc') (C' := ansRow (.int .i64 kd) (.int .i64 cs) (.slice fa' fn fc') (.slice pa' pn pc') (.slice none 0 0) (.slice none 0 0)) (fun i hi => by match i, hi with | 0, _ => rfl | 1, _ => rfl | 2, _ => rfl | 3, _ => rfl | 4, _ => rfl | 5, _ => rfl)
  have hF4 := hF3.out.setCell fF1.out (p := ⟨w.heap.size + 1 + 1, 3, none⟩) (by show w.heap.size + 1 + 1 < w.heap.size + 1 + 1 + 1; omega) (.slice pa' pn pc')
  have hP2 := hP1.out.setCell fP1.out (p := ⟨w.heap.size + 1 + 1, 3, none⟩) (by show w.heap.size + 1 + 1 < w.heap.size + 1 + 1 + 1; omega) (.slice pa' pn pc')
  refine (own_any ca cn cc cu _ (ha.cu.below y4.b)).mono ?_
  rintro e w3 ⟨ca', cc', rfl, hC, fC, hb3⟩
  have hF5 := hide (hF4.below hb3)
  have hP3 := hide (hP2.below hb3)
  have hC1 := hide hC
  have fC1 : Hid (Fresh (w.heap.size + 1 + 1 + 1) cn ca') := fC.le (by simp [World.setCell]; omega)
  have y5 := hide (y4.below hb3)
  clear a0 a1 a2 a3 a4 a5 c0 c1 c2 c3 c4 c5 d0 d1 d2 d3 d4 d5 y3 y4 hF3 hF4 hP1 hP2 hb3 sz1 hC fC
  have sz1 := y5.out.c.lt
  obtain ⟨⟨a0, a1, a2, a3, a4, a5⟩, -⟩ := row6 y5.out.a
  obtain ⟨⟨c0, c1, c2, c3, c4, c5⟩, ⟨d0, d1, d2, d3, d4, d5⟩⟩ := row6 y5.out.c
  go_wp2_with fail
  have y6 := y5.out.set 4 (.slice ca' cn cc') (C' := ansRow (.int .i64 kd) (.int .i64 cs) (.slice fa' fn fc') (.slice pa' pn pc') (.slice ca' cn cc') (.slice none 0 0)) (fun i hi => by match i, hi with | 0, _ => rfl | 1, _ => rfl | 2, _ => rfl | 3, _ => rfl | 4, _ => rfl | 5, _ => rfl)
  have hF6 := hF5.out.setCell fF1.out (p := ⟨w.heap.size + 1 + 1, 4, none⟩) (by show w.heap.size + 1 + 1 < w.heap.size + 1 + 1 + 1; omega) (.slice ca' cn cc')
  have hP4 := hP3.out.setCell fP1.out (p := ⟨w.heap.size + 1 + 1, 4, none⟩) (by show w.heap.size + 1 + 1 < w.heap.size + 1 + 1 + 1; omega) (.slice ca' cn cc')
  have hC2 := hC1.out.setCell fC1.out (p := ⟨w.heap.size + 1 + 1, 4, none⟩) (by show w.heap.size + 1 + 1 < w.heap.size + 1 + 1 + 1; omega) (.slice ca' cn cc')
  refine (own_any ra rn rc ci _ (ha.ci.below y6.b)).mono ?_
  rintro e w4 ⟨ra', rc', rfl, hR, fR, hb4⟩
  have hF7 := hide (hF6.below hb4)
  have hP5 := hide (hP4.below hb4)
  have hC3 := hide (hC2.below hb4)
  have hR1 := hide hR
  have fR1 : Hid (Fresh (w.heap.size + 1 + 1 + 1) rn ra') := fR.le (by simp [World.setCell]; omega)
  have y7 := hide (y6.below hb4)
  clear a0 a1 a2 a3 a4 a5 c0 c1 c2 c3 c4 c5 d0 d1 d2 d3 d4 d5 y5 y6 hF5 hF6 hP3 hP4 hC1 hC2 hb4 sz1 hR fR ha
  have sz1 := y7.out.c.lt
  obtain ⟨⟨c0, c1, c2, c3, c4, c5⟩, ⟨d0, d1, d2, d3, d4, d5⟩⟩ := row6 y7.out.c
  obtain ⟨⟨z0, z1, z2, z3, z4, z5⟩, ⟨g0, g1, g2, g3, g4, g5⟩⟩ := row6 y7.out.z
  go_wp2
  have r0 := y7.out.z.setOther (a := ⟨w.heap.size + 1 + 1, 5, none⟩) (by show w.heap.size + 1 ≠ w.heap.size + 1 + 1; omega) (.slice ra' rn rc')
  have r1 := r0.set 0 (.int .i64 kd)
  have r2 := r1.set 1 (.int .i64 cs)
  have r3 := r2.set 2 (.slice fa' fn fc')
  have r4 := r3.set 3 (.slice pa' pn pc')
  have r5 := r4.set 4 (.slice ca' cn cc')
  have r6 := r5.set 5 (.slice ra' rn rc')
  have q0 := r1.cell (i := 0) (by omega)
  have q1 := r2.cell (i := 1) (by omega)
  have q2 := r3.cell (i := 2) (by omega)
  have q3 := r4.cell (i := 3) (by omega)
  have q4 := r5.cell (i := 4) (by omega)
  have q5 := r6.cell (i := 5) (by omega)
  simp only [if_true] at q0 q1 q2 q3 q4 q5
  clear r0 r1 r2 r3 r4 r5 r6
  refine bodyPost_ret (v := .agg #[.int .i64 kd, .int .i64 cs, .slice fa' fn fc', .slice pa' pn pc', .slice ca' cn cc', .slice ra' rn rc']) (by simp [results, Tryz.results5, go_sem, q0, q1, q2, q3, q4, q5]) rfl ⟨fa', fc', pa', pc', ca', cc', ra', rc', rfl, ?_, ?_⟩
  · have keepI : ∀ {a : Option Addr} {n : Nat} {l : List Int}, Ints w4 a n l → Fresh (w.heap.size + 1 + 1 + 1) n a → Ints (((((((w4.setCell ⟨w.heap.size + 1 + 1, 5, none⟩ (.slice ra' rn rc')).setCell ⟨w.heap.size + 1, 0, none⟩ (.int .i64 kd)).setCell ⟨w.heap.size + 1, 1, none⟩ (.int .i64 cs)).setCell ⟨w.heap.size + 1, 2, none⟩ (.slice fa' fn fc')).setCell ⟨w.heap.size + 1, 3, none⟩ (.slice pa' pn pc')).setCell ⟨w.heap.size + 1, 4, none⟩ (.slice ca' cn cc')).setCell ⟨w.heap.size + 1, 5, none⟩ (.slice ra' rn rc')) a n l := by
      intro a n l hI hf
      have g : w.heap.size + 1 < w.heap.size + 1 + 1 + 1 := by omega
      have g' : w.heap.size + 1 + 1 < w.heap.size + 1 + 1 + 1 := by omega
      exact ((((((hI.setCell hf (p := ⟨w.heap.size + 1 + 1, 5, none⟩) g' _).setCell hf (p := ⟨w.heap.size + 1, 0, none⟩) g _).setCell hf (p := ⟨w.heap.size + 1, 1, none⟩) g _).setCell hf (p := ⟨w.heap.size + 1, 2, none⟩) g _).setCell hf (p := ⟨w.heap.size + 1, 3, none⟩) g _).setCell hf (p := ⟨w.heap.size + 1, 4, none⟩) g _).setCell hf (p := ⟨w.heap.size + 1, 5, none⟩) g _
    exact ⟨keepI hF7.out fF1.out, keepI hP5.out fP1.out, keepI hC3.out fC1.out, keepI hR1.out fR1.out⟩
  · have g : w.heap.size ≤ w.heap.size + 1 := by omega
    have g' : w.heap.size ≤ w.heap.size + 1 + 1 := by omega
    exact ((((((y7.out.b.setCell (p := ⟨w.heap.size + 1 + 1, 5, none⟩) g' _).setCell (p := ⟨w.heap.size + 1, 0, none⟩) g _).setCell (p := ⟨w.heap.size + 1, 1, none⟩) g _).setCell (p := ⟨w.heap.size + 1, 2, none⟩) g _).setCell (p := ⟨w.heap.size + 1, 3, none⟩) g _).setCell (p := ⟨w.heap.size + 1, 4, none⟩) g _).setCell (p := ⟨w.heap.size + 1, 5, none⟩) g _
end Go.Proofs.YtnbccoflcoaoaaaGreat

namespace Go.Proofs.YtnbccoflcoaoaaaGreat
open Go.RowKit Go.Deep
set_option linter.unusedSimpArgs false
set_option linter.unusedVariables false

/-! ### one unit more round the circle, arc by arc -/
def moreTo (fl ci : List Int) : Nat → List Int
  | 0 => fl
  | k + 1 => bump (moreTo fl ci k) (ci.getD k 0).toNat
theorem more_len (fl ci : List Int) (k : Nat) : (moreTo fl ci k).length = fl.length := by
  induction k with
  | zero => rfl
  | succ k ih => simp only [moreTo, bump_len, ih]
theorem more_net {es : List A5} {fl ci : List Int} (hl : fl.length = es.length) (ho : onceB es.length ci = true) (node : Int) (k : Nat) (hk : k ≤ ci.length) :
    netTo es (moreTo fl ci k) node es.length = netTo es fl node es.length + ringTo es ci node k := by
  induction k with
  | zero => simp [moreTo, ringTo]
  | succ k ih =>
    have hv := once_out ho (i := k) (by omega)
    simp only [moreTo, ringTo]
    rw [bump_net es _ _ (by rw [more_len, hl]; omega), ih (by omega), if_pos (by omega)]
    unfold arcOf
    omega
theorem more_cost {es : List A5} {fl ci : List Int} (hl : fl.length = es.length) (ho : onceB es.length ci = true) (k : Nat) (hk : k ≤ ci.length) :
    costTo es (moreTo fl ci k) es.length = costTo es fl es.length + circTo es ci k := by
  induction k with
  | zero => simp [moreTo, circTo]
  | succ k ih =>
    have hv := once_out ho (i := k) (by omega)
    simp only [moreTo, circTo]
    rw [bump_cost es _ _ (by rw [more_len, hl]; omega), ih (by omega), if_pos (by omega)]
    unfold arcOf
    omega

/-- A flow's numbers keep the bounds. -/
def Bds (es : List A5) (y : List Int) : Prop := ∀ i, i < es.length → (es.getD i zA).lo ≤ y.getD i 0 ∧ y.getD i 0 ≤ 1000000 ∧ ((es.getD i zA).cap = -1 ∨ y.getD i 0 ≤ (es.getD i zA).cap)
theorem more_bds {es : List A5} {fl ci : List Int} (hl : fl.length = es.length) (ho : onceB es.length ci = true) (hu : unlB es ci = true) {k : Nat} (hk : k < ci.length) (h : Bds es (moreTo fl ci k)) (hm : (moreTo fl ci k).getD (ci.getD k 0).toNat 0 < 1000000) : Bds es (moreTo fl ci (k + 1)) := by
  have hv := once_out ho hk
  have hcap : (es.getD (ci.getD k 0).toNat zA).cap = -1 := by have := of_all hu k hk; simpa [unlAt, arcOf] using this
  intro i hi
  have hb := h i hi
  simp only [moreTo]
  rw [bump_at _ _ _ (by rw [more_len, hl]; omega)]
  by_cases he : i = (ci.getD k 0).toNat
  · subst he
    rw [if_pos rfl]
    refine ⟨by omega, by omega, .inl hcap⟩
  · rw [if_neg he]; exact hb

theorem end_more {xs : List Int} {es : List A5} {fl ci : List Int} (hf : Fits xs es fl) (hg : goodB es ci = true) (hb : Bds es (moreTo fl ci ci.length)) :
    flowErr xs es (moreTo fl ci ci.length) = 0 ∧ costTo es (moreTo fl ci ci.length) es.length < costTo es fl es.length := by
  unfold goodB at hg
  rw [next_prev] at hg
  simp only [Bool.and_eq_true, decide_eq_true_eq] at hg
  obtain ⟨⟨⟨⟨ho, hu⟩, hp⟩, h0⟩, hc⟩ := hg
  refine ⟨of_fits ⟨by rw [more_len]; exact hf.len, hb, fun k hk => ?_⟩, ?_⟩
  · rw [more_net hf.len ho _ _ (Nat.le_refl _), ring_zero hp, hf.bal k hk]; omega
  · rw [more_cost hf.len ho _ (Nat.le_refl _)]; omega

/-- A row of its own that an append has made. -/
def OwnRow (w : World) (lo n : Nat) (a : Option Addr) (c : Nat) (l : List Int) : Prop :=
  n = 0 ∨ ∃ g f, a = some ⟨g, 0, none⟩ ∧ lo ≤ g ∧ w.rowIs g 3 c f ∧ n ≤ c ∧ ∀ i, i < n → f i = .int .i64 (l.getD i 0)

theorem own_row {w : World} {lo : Nat} {v : Value} {n : Nat} {xs : List Int} (h : w.ownsRow lo 3 1 v n (intCells xs)) (hl : xs.length = n) : ∃ a c, v = .slice a n c ∧ OwnRow w lo n a c xs := by
  rcases h.2 with ⟨rfl, rfl⟩ | ⟨g, cap, cur, rfl, hg, hh, hn, _, hc, ht⟩
  · exact ⟨none, 0, rfl, .inl rfl⟩
  · refine ⟨_, _, rfl, .inr ⟨g, fun i => cur.getD i (.bool false), rfl, hg, ⟨cur, hh, by omega, fun i hi => ?_⟩, hn, fun i hi => ?_⟩⟩
    · simp [Array.getD, show i < cur.size by omega]
    · have h1 := own_cell (base := lo) (cap := cap) hh ht i _ (intCells_at xs i (by omega))
      rw [Joins.cell_of_block hh] at h1
      simp [Array.getD, show i < cur.size by omega] at h1 ⊢
      exact h1

theorem wpList_copy_row {w : World} {ops : Array Oper} {rest : List Oper} {o : Oper} {a : Act} {Q : Exit → Act → World → Prop} (hgd : o.guard = none) (s x : Operand)
    (ho : o.op = .call { callee := .builtin .append, args := #[s, x], argTypes := #[32, 32] })
    (hs : a.eval s = .slice none 0 0) (sa : Option Addr) (m c : Nat) (hx : a.eval x = .slice sa m c) (xs : List Int) (hX : Ints w sa m xs)
    (h : ∀ a' c' w', OwnRow w' w.heap.size m a' c' xs → Below w.heap.size w w' → wpList Tryz.prog ops Q rest (a.put o.dst (.slice a' m c')) w') : wpList Tryz.prog ops Q (o :: rest) a w := by
  obtain ⟨i0, hi, hz0, hz1, hz2⟩ := info_parts infoInt
  have hsm := hX.small
  refine wpList_append_copy w hgd s x 32 ho 3 i0 _ 1 8 Tryz.underlying32 hi hz0 hz1 hz2 rfl (by decide) hs sa m c hx (intCells xs) (by rw [intCells_length, hX.len]; omega) hX.src (intCells_one xs) (by unfold maxLen; omega) (by omega) ?_
  intro v' w' hown hgr
  obtain ⟨a', c', rfl, hO⟩ := own_row hown hX.len
  exact h a' c' w' hO ((Below.refl _ _).grown hgr (Nat.le_refl _) (fun k hk => by cases hk))

theorem lit_one (w : World) : Ints (w.alloc (.cells #[.int .i64 0] 3)) (some ⟨w.heap.size, 0, none⟩) 1 [0] :=
  ⟨rfl, by omega, fun x hx => by simp at hx; subst hx; omega, .inr ⟨w.heap.size, 0, rfl, by simp, fun i hi => by
    have : i = 0 := by omega
    subst this; simp⟩⟩
theorem nil_ints (w : World) : Ints w none 0 [] := ⟨rfl, by omega, fun x hx => by simp at hx, .inl rfl⟩
theorem nil_arcs (w : World) : Arcs w none 0 [] := ⟨rfl, by omega, fun x hx => by simp at hx, .inl rfl⟩

theorem acc_one : accS [0] [] ⟨1, 0, [], [0], [], []⟩ = (true, 0) := by decide
theorem acc_two : accS [0] [] ⟨2, 0, [], [], [0], []⟩ = (false, 0) := by decide

end Go.Proofs.YtnbccoflcoaoaaaGreat
