import Derived.Test.YtnbccoflcoaoaabGAcb
import Derived.Test.YtnbccoflcoaoaabGFlo
import Derived.Test.YtnbccoflcoaoaabGSnd
import Derived.Deep.RegionWith
namespace Go.Proofs.Ytnbccoflcoaoaab
open Go.RowKit Go.Deep
set_option linter.unusedSimpArgs false
set_option linter.unusedVariables false

theorem Ints.take {w : World} {a : Option Addr} {n k : Nat} {l : List Int} (h : Ints w a n l) (hk : k ≤ n) : Ints w a k (l.take k) := by
  refine ⟨by rw [List.length_take, h.len]; omega, Nat.le_trans hk h.small, fun x hx => h.wf x (List.mem_of_mem_take hx), ?_⟩
  by_cases h0 : k = 0
  · exact .inl h0
  · obtain ⟨b, off, e, hl, hc⟩ := h.lies.resolve_left (by omega)
    refine .inr ⟨b, off, e, hl, fun i hi => ?_⟩
    rw [hc i (by omega)]
    simp [List.getD, List.getElem?_take, hi]

end Go.Proofs.Ytnbccoflcoaoaab

namespace Go.Proofs.Ytnbccoflcoaoaab
open Go.RowKit Go.Deep
set_option linter.unusedSimpArgs false
set_option linter.unusedVariables false

theorem dec_cast (a b : Nat) : decide ((a : Int) = (b : Int)) = decide (a = b) := by rw [decide_eq_decide]; omega

/-- An answer's four lists lie in w. -/
structure Ans (w : World) (fa pa ca ra : Option Addr) (fn pn cn rn : Nat) (fl po cu ci : List Int) : Prop where
  fl : Ints w fa fn fl
  po : Ints w pa pn po
  cu : Ints w ca cn cu
  ci : Ints w ra rn ci
theorem Ans.below {w w' : World} {fa pa ca ra : Option Addr} {fn pn cn rn : Nat} {fl po cu ci : List Int} (h : Ans w fa pa ca ra fn pn cn rn fl po cu ci) (hb : Below w.heap.size w w') : Ans w' fa pa ca ra fn pn cn rn fl po cu ci :=
  ⟨h.fl.below hb, h.po.below hb, h.cu.below hb, h.ci.below hb⟩

/-- The boxes of a net and of an answer, at block g and behind it. -/
structure Boxed (w : World) (g : Nat) (sv av : Value) (v0 v1 v2 v3 v4 v5 : Value) : Prop where
  n0 : w.cell? ⟨g, 0, none⟩ = some sv
  n1 : w.cell? ⟨g, 1, none⟩ = some av
  a0 : w.cell? ⟨g + 1, 0, none⟩ = some v0
  a1 : w.cell? ⟨g + 1, 1, none⟩ = some v1
  a2 : w.cell? ⟨g + 1, 2, none⟩ = some v2
  a3 : w.cell? ⟨g + 1, 3, none⟩ = some v3
  a4 : w.cell? ⟨g + 1, 4, none⟩ = some v4
  a5 : w.cell? ⟨g + 1, 5, none⟩ = some v5
  lt : g + 1 < w.heap.size
theorem Boxed.below {w w' : World} {g : Nat} {sv av v0 v1 v2 v3 v4 v5 : Value} (h : Boxed w g sv av v0 v1 v2 v3 v4 v5) (hb : Below w.heap.size w w') : Boxed w' g sv av v0 v1 v2 v3 v4 v5 := by
  have hl := h.lt
  have hs := hb.size
  exact ⟨(hb.cell (p := ⟨g, 0, none⟩) (show g < w.heap.size by omega)).trans h.n0, (hb.cell (p := ⟨g, 1, none⟩) (show g < w.heap.size by omega)).trans h.n1,
    (hb.cell (p := ⟨g + 1, 0, none⟩) hl).trans h.a0, (hb.cell (p := ⟨g + 1, 1, none⟩) hl).trans h.a1, (hb.cell (p := ⟨g + 1, 2, none⟩) hl).trans h.a2,
    (hb.cell (p := ⟨g + 1, 3, none⟩) hl).trans h.a3, (hb.cell (p := ⟨g + 1, 4, none⟩) hl).trans h.a4, (hb.cell (p := ⟨g + 1, 5, none⟩) hl).trans h.a5, by omega⟩
theorem boxed_new (w : World) (sv av v0 v1 v2 v3 v4 v5 : Value) (t u : TypeId) : Boxed ((w.alloc (.cells #[sv, av] t)).alloc (.cells #[v0, v1, v2, v3, v4, v5] u)) w.heap.size sv av v0 v1 v2 v3 v4 v5 := by
  constructor <;> first | (simp; done) | (rw [World.cell?_alloc_lt _ _ _ (by simp)]; simp)

set_option maxHeartbeats 2000000 in
theorem gAcceptBest_any (sa aa fa pa ca ra : Option Addr) (sn sc an ac fn fc pn pc cn cc rn rc : Nat) (kd cs : Int) (xs : List Int) (es : List A5) (fl po cu ci : List Int) (w : World) (hx : Ints w sa sn xs) (he : Arcs w aa an es) (hn : NetOK xs es)
    (ha : Ans w fa pa ca ra fn pn cn rn fl po cu ci) :
    Calls Try.prog 46 #[.agg #[.slice sa sn sc, .slice aa an ac], .agg #[.int .i64 kd, .int .i64 cs, .slice fa fn fc, .slice pa pn pc, .slice ca cn cc, .slice ra rn rc]] w fun e w' => e = .returned (.bool (bestB xs es ⟨kd, cs, fl, po, cu, ci⟩)) ∧ Below w.heap.size w w' := by
  have hL : Hid (cu.length = cn ∧ ci.length = rn) := ⟨ha.cu.len, ha.ci.len⟩
  have hsc := ha.cu.small
  have hsr := ha.ci.small
  have hbx := boxed_new w (.slice sa sn sc) (.slice aa an ac) (.int .i64 kd) (.int .i64 cs) (.slice fa fn fc) (.slice pa pn pc) (.slice ca cn cc) (.slice ra rn rc) 25 39
  have hb0 := Joins.below_alloc2 w (.cells #[.slice sa sn sc, .slice aa an ac] 25) (.cells #[.int .i64 kd, .int .i64 cs, .slice fa fn fc, .slice pa pn pc, .slice ca cn cc, .slice ra rn rc] 39)
  have hN := hide hn
  by_cases hz : cn = 0 ∧ rn = 0
  · obtain ⟨rfl, rfl⟩ := hz
    have HZ : Hid (decide (cu.length = 0) = true ∧ decide (ci.length = 0) = true) := ⟨decide_eq_true hL.out.1, decide_eq_true hL.out.2⟩
    go_enter Try.func46, Try.ntmps46
    go_wp2_with fail
    refine (gFlowError_any sa aa fa sn sc an ac fn fc xs es fl _ (hx.below hb0) (he.below hb0) (ha.fl.below hb0) hn).mono ?_
    rintro e w1 ⟨rfl, hb1⟩
    have hB1 : Below w.heap.size w w1 := hb0.trans (hb1.mono (by simp; omega))
    have hx1 := hbx.below hb1
    clear hb1 hb0 hbx
    obtain ⟨m0, m1, m2, m3, m4, m5, m6, m7, m8⟩ := hx1
    have hx1 := hide (Boxed.mk m0 m1 m2 m3 m4 m5 m6 m7 m8)
    obtain ⟨c, hc⟩ : ∃ c, flowErr xs es fl = c := ⟨_, rfl⟩
    rw [hc]
    cases hcz : (c != 0) with
    | true =>
      have HF : Hid (bestB xs es ⟨kd, cs, fl, po, cu, ci⟩ = false) := by
        show bestB xs es ⟨kd, cs, fl, po, cu, ci⟩ = false
        unfold bestB
        simp only []
        rw [hc, decide_eq_false (show ¬ c = 0 by simpa using hcz)]
        rfl
      clear hc
      go_wp2
      go_ret
      exact ⟨ret_b HF.out.symm, hB1⟩
    | false =>
      have h0 := hc.trans (show c = 0 by simpa using hcz)
      have H0 := hide h0
      obtain ⟨hl, hbd, -⟩ := flowErr_zero h0
      have hfn : fn = an := by rw [← ha.fl.len, ← he.len]; exact hl
      subst hfn
      have hM : Mild fl fn := by have := hn.mild hbd; rw [he.len] at this; exact this
      have HM := hide hM
      clear hc h0 hl hbd hM
      go_wp2
      obtain ⟨k, hk⟩ : ∃ k, costTo es fl es.length = k := ⟨_, rfl⟩
      have cQ : ∀ d' os, Calls Try.prog 66 #[.agg #[.slice sa sn sc, .slice aa fn ac], .slice fa fn fc] (Sort.grow (redrawn w1 d') os) fun e w'' => e = .returned (.int .i64 k) ∧ ∃ p : Regrown, w'' = Sort.grow (redrawn w1 p.d) p.os := fun d' os => Calls.regrown_of (by rw [← hk]; exact gCostOf_any sa aa fa sn sc fn ac fc xs es fl _ ((he.below hB1).below (below_regrown _ _ _)) ((ha.fl.below hB1).below (below_regrown _ _ _)) hn HM.out)
      have HK := hide hk
      have kn0 := cell_regrown m0
      have kn1 := cell_regrown m1
      have ka1 := cell_regrown m3
      have ka2 := cell_regrown m4
      clear hk m0 m1 m2 m3 m4 m5 m6 m7 m8
      refine wp_region_quiet_below (by kernel_rfl) (by kernel_rfl) ?_
      repeat (quiet_step (first | exact cQ _ _))
      refine wpQuiet_nil ?_
      intro _ hw'
      obtain ⟨⟨dq, osq⟩, hw''⟩ := hw'
      subst hw''
      have hbr := below_regrown w1 dq osq
      have hx2 := hx1.out.below hbr
      have hB2 : Below w.heap.size w (Sort.grow (redrawn w1 dq) osq) := hB1.trans (hbr.mono hB1.size)
      clear kn0 kn1 ka1 ka2 cQ hbr hx1 hB1
      generalize Sort.grow (redrawn w1 dq) osq = w2 at *
      cases hkc : (k != cs) with
      | true =>
        have HF : Hid (bestB xs es ⟨kd, cs, fl, po, cu, ci⟩ = false) := by
          show bestB xs es ⟨kd, cs, fl, po, cu, ci⟩ = false
          unfold bestB
          simp only []
          rw [HK.out, decide_eq_false (show ¬ k = cs by simpa using hkc)]
          simp
        go_wp2
        go_ret
        exact ⟨ret_b HF.out.symm, hB2⟩
      | false =>
        have HK2 : Hid (decide (costTo es fl es.length = cs) = true) := decide_eq_true (by rw [HK.out]; simpa using hkc)
        obtain ⟨m0, m1, m2, m3, m4, m5, m6, m7, m8⟩ := hx2
        go_wp2_with fail
        refine (gArePotentials_any pa pn pc sn po _ (ha.po.below hB2)).mono ?_
        rintro e w3 ⟨rfl, rfl⟩
        obtain ⟨B, hB⟩ : ∃ B, (decide ((po.length : Int) = (sn : Int)) && potB po) = B := ⟨_, rfl⟩
        rw [hB]
        cases B with
        | false =>
          have HF : Hid (bestB xs es ⟨kd, cs, fl, po, cu, ci⟩ = false) := by
            show bestB xs es ⟨kd, cs, fl, po, cu, ci⟩ = false
            unfold bestB holdsB
            simp only []
            have : (decide (po.length = xs.length) && potB po) = false := by
              rw [hx.len, ← dec_cast, hB]
            rw [this]; simp
          clear hB
          go_wp2
          go_ret
          exact ⟨ret_b HF.out.symm, hB2⟩
        | true =>
          simp only [Bool.and_eq_true, decide_eq_true_eq] at hB
          have hpn : pn = sn := by have := ha.po.len; omega
          have HPB := hide hB.2
          subst hpn
          clear hB
          go_wp2_with fail
          refine (gHold_any sa aa fa pa pn sc fn ac fc pn pc xs es fl po _ (he.below hB2) (ha.fl.below hB2) (ha.po.below hB2) hn hx.len HPB.out).mono ?_
          rintro e w4 ⟨rfl, hb4⟩
          have hB4 : Below w.heap.size w w4 := hB2.trans (hb4.mono hB2.size)
          have HF : Hid (bestB xs es ⟨kd, cs, fl, po, cu, ci⟩ = holdB es fl po) := by
            show bestB xs es ⟨kd, cs, fl, po, cu, ci⟩ = holdB es fl po
            unfold bestB holdsB
            simp only []
            rw [H0.out, HK2.out, HZ.out.1, HZ.out.2, HPB.out, decide_eq_true (show po.length = xs.length by rw [ha.po.len, hx.len])]
            simp
          generalize holdB es fl po = hb at *
          clear m0 m1 m2 m3 m4 m5 m6 m7 m8 hb4 hn hx he ha
          go_wp2
          go_ret
          exact ⟨ret_b HF.out.symm, hB4⟩
  · have HF : Hid (bestB xs es ⟨kd, cs, fl, po, cu, ci⟩ = false) := by
      show bestB xs es ⟨kd, cs, fl, po, cu, ci⟩ = false
      unfold bestB
      simp only []
      by_cases h1 : cn = 0
      · rw [decide_eq_false (show ¬ ci.length = 0 by rw [hL.out.2]; omega)]; simp
      · rw [decide_eq_false (show ¬ cu.length = 0 by rw [hL.out.1]; omega)]; simp
    by_cases h1 : cn = 0
    · subst h1
      have h2 : ((rn : Int) != 0) = true := by simp; omega
      go_enter Try.func46, Try.ntmps46
      go_wp2
      go_ret
      exact ⟨ret_b HF.out.symm, hb0⟩
    · have h2 : ((cn : Int) != 0) = true := by simp; omega
      go_enter Try.func46, Try.ntmps46
      go_wp2
      go_ret
      exact ⟨ret_b HF.out.symm, hb0⟩
end Go.Proofs.Ytnbccoflcoaoaab

namespace Go.Proofs.Ytnbccoflcoaoaab
open Go.RowKit Go.Deep
set_option linter.unusedSimpArgs false
set_option linter.unusedVariables false

set_option maxHeartbeats 2000000 in
theorem gAcceptNone_any (sa aa fa pa ca ra : Option Addr) (sn sc an ac fn fc pn pc cn cc rn rc : Nat) (kd cs : Int) (xs : List Int) (es : List A5) (fl po cu ci : List Int) (w : World) (hx : Ints w sa sn xs) (he : Arcs w aa an es) (hn : NetOK xs es)
    (ha : Ans w fa pa ca ra fn pn cn rn fl po cu ci) :
    Calls Try.prog 47 #[.agg #[.slice sa sn sc, .slice aa an ac], .agg #[.int .i64 kd, .int .i64 cs, .slice fa fn fc, .slice pa pn pc, .slice ca cn cc, .slice ra rn rc]] w fun e w' => e = .returned (.bool (noneB xs es ⟨kd, cs, fl, po, cu, ci⟩)) ∧ Below w.heap.size w w' := by
  have hL : Hid (fl.length = fn ∧ po.length = pn ∧ ci.length = rn) := ⟨ha.fl.len, ha.po.len, ha.ci.len⟩
  have hsf := ha.fl.small
  have hsp := ha.po.small
  have hsr := ha.ci.small
  have hbx := boxed_new w (.slice sa sn sc) (.slice aa an ac) (.int .i64 kd) (.int .i64 cs) (.slice fa fn fc) (.slice pa pn pc) (.slice ca cn cc) (.slice ra rn rc) 25 39
  have hb0 := Joins.below_alloc2 w (.cells #[.slice sa sn sc, .slice aa an ac] 25) (.cells #[.int .i64 kd, .int .i64 cs, .slice fa fn fc, .slice pa pn pc, .slice ca cn cc, .slice ra rn rc] 39)
  by_cases hz : cs = 0 ∧ fn = 0 ∧ pn = 0 ∧ rn = 0
  · obtain ⟨rfl, rfl, rfl, rfl⟩ := hz
    have HZ : Hid (decide (fl.length = 0) = true ∧ decide (po.length = 0) = true ∧ decide (ci.length = 0) = true) := ⟨decide_eq_true hL.out.1, decide_eq_true hL.out.2.1, decide_eq_true hL.out.2.2⟩
    go_enter Try.func47, Try.ntmps47
    go_wp2_with fail
    refine (gIsCut_any ca cn cc sn cu _ (ha.cu.below hb0)).mono ?_
    rintro e w1 ⟨rfl, rfl⟩
    cases hR : risB cu sn with
    | false =>
      have HF : Hid (noneB xs es ⟨kd, 0, fl, po, cu, ci⟩ = false) := by
        show noneB xs es ⟨kd, 0, fl, po, cu, ci⟩ = false
        unfold noneB
        simp only []
        rw [hx.len, hR]; rfl
      clear hR
      go_wp2
      go_ret
      exact ⟨ret_b HF.out.symm, hb0⟩
    | true =>
      have hr : risB cu xs.length = true := by rw [hx.len]; exact hR
      have HR := hide hr
      clear hR hr
      go_wp2_with fail
      refine (gViolated_any sa aa ca sn sc an ac cn cc xs es cu _ (hx.below hb0) (he.below hb0) (ha.cu.below hb0) hn HR.out).mono ?_
      rintro e w2 ⟨rfl, hb2⟩
      have hB2 : Below w.heap.size w w2 := hb0.trans (hb2.mono (by simp; omega))
      have HF : Hid (noneB xs es ⟨kd, 0, fl, po, cu, ci⟩ = violB xs es cu) := by
        show noneB xs es ⟨kd, 0, fl, po, cu, ci⟩ = violB xs es cu
        unfold noneB
        simp only []
        rw [HR.out, HZ.out.1, HZ.out.2.1, HZ.out.2.2]; simp
      generalize violB xs es cu = vb at *
      clear hb2 hn hx he ha hbx hb0
      go_wp2
      go_ret
      exact ⟨ret_b HF.out.symm, hB2⟩
  · have HF : Hid (noneB xs es ⟨kd, cs, fl, po, cu, ci⟩ = false) := by
      show noneB xs es ⟨kd, cs, fl, po, cu, ci⟩ = false
      unfold noneB
      simp only []
      obtain ⟨h1, h2, h3⟩ := hL.out
      rw [h1, h2, h3]
      by_cases g1 : cs = 0
      · by_cases g2 : fn = 0
        · by_cases g3 : pn = 0
          · rw [decide_eq_false (show ¬ rn = 0 by omega)]; simp
          · rw [decide_eq_false g3]; simp
        · rw [decide_eq_false g2]; simp
      · rw [decide_eq_false g1]; simp
    by_cases g1 : cs = 0
    · subst g1
      by_cases g2 : fn = 0
      · subst g2
        by_cases g3 : pn = 0
        · subst g3
          have t4 : ((rn : Int) != 0) = true := by simp; omega
          go_enter Try.func47, Try.ntmps47
          go_wp2
          go_ret
          exact ⟨ret_b HF.out.symm, hb0⟩
        · have t3 : ((pn : Int) != 0) = true := by simp; omega
          go_enter Try.func47, Try.ntmps47
          go_wp2
          go_ret
          exact ⟨ret_b HF.out.symm, hb0⟩
      · have t2 : ((fn : Int) != 0) = true := by simp; omega
        go_enter Try.func47, Try.ntmps47
        go_wp2
        go_ret
        exact ⟨ret_b HF.out.symm, hb0⟩
    · have t1 : (cs != 0) = true := by simpa using g1
      go_enter Try.func47, Try.ntmps47
      go_wp2
      go_ret
      exact ⟨ret_b HF.out.symm, hb0⟩

set_option maxHeartbeats 2000000 in
theorem gAcceptEndless_any (sa aa fa pa ca ra : Option Addr) (sn sc an ac fn fc pn pc cn cc rn rc : Nat) (kd cs : Int) (xs : List Int) (es : List A5) (fl po cu ci : List Int) (w : World) (hx : Ints w sa sn xs) (he : Arcs w aa an es) (hn : NetOK xs es)
    (ha : Ans w fa pa ca ra fn pn cn rn fl po cu ci) :
    Calls Try.prog 48 #[.agg #[.slice sa sn sc, .slice aa an ac], .agg #[.int .i64 kd, .int .i64 cs, .slice fa fn fc, .slice pa pn pc, .slice ca cn cc, .slice ra rn rc]] w fun e w' => e = .returned (.bool (endB xs es ⟨kd, cs, fl, po, cu, ci⟩)) ∧ Below w.heap.size w w' := by
  have hL : Hid (po.length = pn ∧ cu.length = cn) := ⟨ha.po.len, ha.cu.len⟩
  have hsp := ha.po.small
  have hsc := ha.cu.small
  have hbx := boxed_new w (.slice sa sn sc) (.slice aa an ac) (.int .i64 kd) (.int .i64 cs) (.slice fa fn fc) (.slice pa pn pc) (.slice ca cn cc) (.slice ra rn rc) 25 39
  have hb0 := Joins.below_alloc2 w (.cells #[.slice sa sn sc, .slice aa an ac] 25) (.cells #[.int .i64 kd, .int .i64 cs, .slice fa fn fc, .slice pa pn pc, .slice ca cn cc, .slice ra rn rc] 39)
  by_cases hz : cs = 0 ∧ pn = 0 ∧ cn = 0
  · obtain ⟨rfl, rfl, rfl⟩ := hz
    have HZ : Hid (decide (po.length = 0) = true ∧ decide (cu.length = 0) = true) := ⟨decide_eq_true hL.out.1, decide_eq_true hL.out.2⟩
    go_enter Try.func48, Try.ntmps48
    go_wp2_with fail
    refine (gFlowError_any sa aa fa sn sc an ac fn fc xs es fl _ (hx.below hb0) (he.below hb0) (ha.fl.below hb0) hn).mono ?_
    rintro e w1 ⟨rfl, hb1⟩
    have hB1 : Below w.heap.size w w1 := hb0.trans (hb1.mono (by simp; omega))
    have hx1 := hbx.below hb1
    clear hb1 hb0 hbx
    obtain ⟨m0, m1, m2, m3, m4, m5, m6, m7, m8⟩ := hx1
    obtain ⟨c, hc⟩ : ∃ c, flowErr xs es fl = c := ⟨_, rfl⟩
    rw [hc]
    cases hcz : (c != 0) with
    | true =>
      have HF : Hid (endB xs es ⟨kd, 0, fl, po, cu, ci⟩ = false) := by
        show endB xs es ⟨kd, 0, fl, po, cu, ci⟩ = false
        unfold endB
        simp only []
        rw [hc, decide_eq_false (show ¬ c = 0 by simpa using hcz)]
        rfl
      clear hc
      go_wp2
      go_ret
      exact ⟨ret_b HF.out.symm, hB1⟩
    | false =>
      have H0 := hide (hc.trans (show c = 0 by simpa using hcz))
      clear hc
      have HE : Hid (endB xs es ⟨kd, 0, fl, po, cu, ci⟩ = goodB es ci) := by
        show endB xs es ⟨kd, 0, fl, po, cu, ci⟩ = goodB es ci
        unfold endB
        simp only []
        rw [H0.out, HZ.out.1, HZ.out.2]; simp
      have hx1 := hide (Boxed.mk m0 m1 m2 m3 m4 m5 m6 m7 m8)
      go_wp2_with fail
      refine (gIsCircle_any sa aa ra sn sc an ac rn rc xs es ci _ (he.below hB1) (ha.ci.below hB1) hn).mono ?_
      rintro e w2 ⟨rfl, hb2⟩
      have hB2 : Below w.heap.size w w2 := hB1.trans (hb2.mono hB1.size)
      have hx2 := hx1.out.below hb2
      clear hb2 m0 m1 m2 m3 m4 m5 m6 m7 m8 hx1
      obtain ⟨m0, m1, m2, m3, m4, m5, m6, m7, m8⟩ := hx2
      obtain ⟨B, hB⟩ : ∃ B, (decide (0 < ci.length) && onceB es.length ci && prevB es ci) = B := ⟨_, rfl⟩
      rw [hB]
      cases B with
      | false =>
        have HF : Hid (goodB es ci = false) := by
          show goodB es ci = false
          unfold goodB
          rw [next_prev]
          revert hB
          cases decide (0 < ci.length) <;> cases onceB es.length ci <;> cases prevB es ci <;> simp
        clear hB
        go_wp2
        go_ret
        exact ⟨ret_b (HE.out.trans HF.out).symm, hB2⟩
      | true =>
        have hB' := hB
        simp only [Bool.and_eq_true] at hB'
        have HO := hide hB'.1.2
        have HF : Hid (goodB es ci = (unlB es ci && decide (circTo es ci ci.length < 0))) := by
          show goodB es ci = _
          unfold goodB
          rw [next_prev, hB'.1.2, hB'.2, hB'.1.1]; simp
        clear hB hB'
        go_wp2_with fail
        refine (gGood_any sa aa ra sn sc an ac rn rc xs es ci _ (he.below hB2) (ha.ci.below hB2) hn HO.out).mono ?_
        rintro e w3 ⟨rfl, hb3⟩
        have hB3 : Below w.heap.size w w3 := hB2.trans (hb3.mono hB2.size)
        generalize (unlB es ci && decide (circTo es ci ci.length < 0)) = gb at *
        clear m0 m1 m2 m3 m4 m5 m6 m7 m8 hb3 hn hx he ha
        go_wp2
        go_ret
        exact ⟨ret_b (HE.out.trans HF.out).symm, hB3⟩
  · have HF : Hid (endB xs es ⟨kd, cs, fl, po, cu, ci⟩ = false) := by
      show endB xs es ⟨kd, cs, fl, po, cu, ci⟩ = false
      unfold endB
      simp only []
      obtain ⟨h1, h2⟩ := hL.out
      rw [h1, h2]
      by_cases g1 : cs = 0
      · by_cases g2 : pn = 0
        · rw [decide_eq_false (show ¬ cn = 0 by omega)]; simp
        · rw [decide_eq_false g2]; simp
      · rw [decide_eq_false g1]; simp
    by_cases g1 : cs = 0
    · subst g1
      by_cases g2 : pn = 0
      · subst g2
        have t4 : ((cn : Int) != 0) = true := by simp; omega
        go_enter Try.func48, Try.ntmps48
        go_wp2
        go_ret
        exact ⟨ret_b HF.out.symm, hb0⟩
      · have t2 : ((pn : Int) != 0) = true := by simp; omega
        go_enter Try.func48, Try.ntmps48
        go_wp2
        go_ret
        exact ⟨ret_b HF.out.symm, hb0⟩
    · have t1 : (cs != 0) = true := by simpa using g1
      go_enter Try.func48, Try.ntmps48
      go_wp2
      go_ret
      exact ⟨ret_b HF.out.symm, hb0⟩

theorem accS_check {xs : List Int} {es : List A5} {a : A6} {c : Int} (h : (checkS xs es).1 = c) (hc : c ≠ 0) : accS xs es a = (false, c) := by rw [accS, h, if_pos hc]
theorem accS_ok {xs : List Int} {es : List A5} {a : A6} (hn : NetOK xs es) : accS xs es a = (okB xs es a, 0) := by rw [accS, hn.zero, if_neg (by simp)]
theorem ret_bi {x y : Bool} {c d : Int} (h : x = y) (k : c = d) : Ending.returned (.tuple #[.bool x, .int .i64 c]) = .returned (.tuple #[.bool y, .int .i64 d]) := by rw [h, k]

set_option maxHeartbeats 2000000 in
theorem gAccept_any (sa aa fa pa ca ra : Option Addr) (sn sc an ac fn fc pn pc cn cc rn rc : Nat) (kd cs : Int) (xs : List Int) (es : List A5) (fl po cu ci : List Int) (w : World) (hx : Ints w sa sn xs) (he : Arcs w aa an es)
    (ha : Ans w fa pa ca ra fn pn cn rn fl po cu ci) :
    Calls Try.prog 29 #[.agg #[.slice sa sn sc, .slice aa an ac], .agg #[.int .i64 kd, .int .i64 cs, .slice fa fn fc, .slice pa pn pc, .slice ca cn cc, .slice ra rn rc]] w fun e w' =>
      e = .returned (.tuple #[.bool (accS xs es ⟨kd, cs, fl, po, cu, ci⟩).1, .int .i64 (accS xs es ⟨kd, cs, fl, po, cu, ci⟩).2]) ∧ Below w.heap.size w w' := by
  have hbx := boxed_new w (.slice sa sn sc) (.slice aa an ac) (.int .i64 kd) (.int .i64 cs) (.slice fa fn fc) (.slice pa pn pc) (.slice ca cn cc) (.slice ra rn rc) 25 39
  have hb0 := Joins.below_alloc2 w (.cells #[.slice sa sn sc, .slice aa an ac] 25) (.cells #[.int .i64 kd, .int .i64 cs, .slice fa fn fc, .slice pa pn pc, .slice ca cn cc, .slice ra rn rc] 39)
  go_enter Try.func29, Try.ntmps29
  go_wp2_with fail
  refine (gCheck_any sa aa sn sc an ac xs es _ (hx.below hb0) (he.below hb0)).mono ?_
  rintro e w1 ⟨rfl, hb1⟩
  have hB1 : Below w.heap.size w w1 := hb0.trans (hb1.mono (by simp; omega))
  have hx1 := hbx.below hb1
  clear hb1 hb0 hbx
  obtain ⟨m0, m1, m2, m3, m4, m5, m6, m7, m8⟩ := hx1
  obtain ⟨c, hc⟩ : ∃ c, (checkS xs es).1 = c := ⟨_, rfl⟩
  rw [hc]
  cases hz : (c != 0) with
  | true =>
    have HS := hide (accS_check (a := ⟨kd, cs, fl, po, cu, ci⟩) hc (by simpa using hz))
    clear hc
    go_wp2
    go_ret2
    exact ⟨ret_bi (by rw [HS.out]) (by rw [HS.out]), hB1⟩
  | false =>
    have hn := netOK_of (hc.trans (by simpa using hz))
    have hN := hide hn
    have HS := hide (accS_ok (a := ⟨kd, cs, fl, po, cu, ci⟩) hn)
    clear hc hn
    by_cases k1 : kd = 1
    · subst k1
      have HK : Hid (okB xs es ⟨1, cs, fl, po, cu, ci⟩ = bestB xs es ⟨1, cs, fl, po, cu, ci⟩) := rfl
      go_wp2_with fail
      refine (gAcceptBest_any sa aa fa pa ca ra sn sc an ac fn fc pn pc cn cc rn rc 1 cs xs es fl po cu ci _ (hx.below hB1) (he.below hB1) hN.out (ha.below hB1)).mono ?_
      rintro e w2 ⟨rfl, hb2⟩
      have hB2 : Below w.heap.size w w2 := hB1.trans (hb2.mono hB1.size)
      generalize bestB xs es ⟨1, cs, fl, po, cu, ci⟩ = gb at *
      clear m0 m1 m2 m3 m4 m5 m6 m7 m8 hb2 hx he ha
      go_wp2
      go_ret2
      exact ⟨ret_bi (by rw [HS.out, HK.out]) (by rw [HS.out]), hB2⟩
    have t1 : (kd == 1) = false := by simpa using k1
    by_cases k2 : kd = 2
    · subst k2
      have HK : Hid (okB xs es ⟨2, cs, fl, po, cu, ci⟩ = noneB xs es ⟨2, cs, fl, po, cu, ci⟩) := rfl
      go_wp2_with fail
      refine (gAcceptNone_any sa aa fa pa ca ra sn sc an ac fn fc pn pc cn cc rn rc 2 cs xs es fl po cu ci _ (hx.below hB1) (he.below hB1) hN.out (ha.below hB1)).mono ?_
      rintro e w2 ⟨rfl, hb2⟩
      have hB2 : Below w.heap.size w w2 := hB1.trans (hb2.mono hB1.size)
      generalize noneB xs es ⟨2, cs, fl, po, cu, ci⟩ = gb at *
      clear m0 m1 m2 m3 m4 m5 m6 m7 m8 hb2 hx he ha
      go_wp2
      go_ret2
      exact ⟨ret_bi (by rw [HS.out, HK.out]) (by rw [HS.out]), hB2⟩
    have t2 : (kd == 2) = false := by simpa using k2
    by_cases k3 : kd = 3
    · subst k3
      have HK : Hid (okB xs es ⟨3, cs, fl, po, cu, ci⟩ = endB xs es ⟨3, cs, fl, po, cu, ci⟩) := rfl
      go_wp2_with fail
      refine (gAcceptEndless_any sa aa fa pa ca ra sn sc an ac fn fc pn pc cn cc rn rc 3 cs xs es fl po cu ci _ (hx.below hB1) (he.below hB1) hN.out (ha.below hB1)).mono ?_
      rintro e w2 ⟨rfl, hb2⟩
      have hB2 : Below w.heap.size w w2 := hB1.trans (hb2.mono hB1.size)
      generalize endB xs es ⟨3, cs, fl, po, cu, ci⟩ = gb at *
      clear m0 m1 m2 m3 m4 m5 m6 m7 m8 hb2 hx he ha
      go_wp2
      go_ret2
      exact ⟨ret_bi (by rw [HS.out, HK.out]) (by rw [HS.out]), hB2⟩
    have t3 : (kd == 3) = false := by simpa using k3
    have HK : Hid (okB xs es ⟨kd, cs, fl, po, cu, ci⟩ = false) := by
      show okB xs es ⟨kd, cs, fl, po, cu, ci⟩ = false
      unfold okB
      simp only []
      rw [if_neg k1, if_neg k2, if_neg k3]
    clear k1 k2 k3
    go_wp2
    go_ret2
    exact ⟨ret_bi (by rw [HS.out, HK.out]) (by rw [HS.out]), hB1⟩

set_option maxHeartbeats 400000 in
theorem accept_any (sa aa fa pa ca ra : Option Addr) (sn sc an ac fn fc pn pc cn cc rn rc : Nat) (kd cs : Int) (xs : List Int) (es : List A5) (fl po cu ci : List Int) (w : World) (hx : Ints w sa sn xs) (he : Arcs w aa an es)
    (ha : Ans w fa pa ca ra fn pn cn rn fl po cu ci) :
    Calls Try.prog 23 #[.agg #[.slice sa sn sc, .slice aa an ac], .agg #[.int .i64 kd, .int .i64 cs, .slice fa fn fc, .slice pa pn pc, .slice ca cn cc, .slice ra rn rc]] w fun e w' =>
      e = .returned (.tuple #[.bool (accS xs es ⟨kd, cs, fl, po, cu, ci⟩).1, .int .i64 (accS xs es ⟨kd, cs, fl, po, cu, ci⟩).2]) ∧ Below w.heap.size w w' := by
  have hb0 := Joins.below_alloc2 w (.cells #[.slice sa sn sc, .slice aa an ac] 25) (.cells #[.int .i64 kd, .int .i64 cs, .slice fa fn fc, .slice pa pn pc, .slice ca cn cc, .slice ra rn rc] 39)
  go_enter Try.func23, Try.ntmps23
  go_wp2_with fail
  refine (gAccept_any sa aa fa pa ca ra sn sc an ac fn fc pn pc cn cc rn rc kd cs xs es fl po cu ci _ (hx.below hb0) (he.below hb0) (ha.below hb0)).mono ?_
  rintro e w1 ⟨rfl, hb⟩
  go_wp2
  go_ret2
  exact ⟨rfl, hb0.trans (hb.mono (by simp; omega))⟩
end Go.Proofs.Ytnbccoflcoaoaab

namespace Go.Proofs.Ytnbccoflcoaoaab
open Go.RowKit Go.Deep
set_option linter.unusedSimpArgs false
set_option linter.unusedVariables false

theorem costS_cases {xs : List Int} {es : List A5} (fl : List Int) (hn : NetOK xs es) : (flowErr xs es fl ≠ 0 ∧ costS xs es fl = (0, flowErr xs es fl)) ∨ (flowErr xs es fl = 0 ∧ costS xs es fl = (costTo es fl es.length, 0)) := by
  by_cases h : flowErr xs es fl = 0
  · exact .inr ⟨h, costS_ok hn h⟩
  · exact .inl ⟨h, costS_flow hn rfl h⟩

end Go.Proofs.Ytnbccoflcoaoaab

namespace Go.Proofs.Ytnbccoflcoaoaab
open Go.RowKit Go.Deep
set_option linter.unusedSimpArgs false
set_option linter.unusedVariables false

/-- The six cells of an answer. -/
def ansRow (v0 v1 v2 v3 v4 v5 : Value) : Nat → Value
  | 0 => v0
  | 1 => v1
  | 2 => v2
  | 3 => v3
  | 4 => v4
  | _ => v5
theorem ansRow_alloc (w : World) (v0 v1 v2 v3 v4 v5 : Value) (t : TypeId) : (w.alloc (.cells #[v0, v1, v2, v3, v4, v5] t)).rowIs w.heap.size t 6 (ansRow v0 v1 v2 v3 v4 v5) := by
  have := World.rowIs_alloc w #[v0, v1, v2, v3, v4, v5] t (ansRow v0 v1 v2 v3 v4 v5) (fun i hi => by
    match i, hi with
    | 0, _ => rfl
    | 1, _ => rfl
    | 2, _ => rfl
    | 3, _ => rfl
    | 4, _ => rfl
    | 5, _ => rfl)
  simpa using this

/-- The cells and the marks of a row of six. -/
theorem row6 {w : World} {g : Nat} {t : TypeId} {v0 v1 v2 v3 v4 v5 : Value} (h : w.rowIs g t 6 (ansRow v0 v1 v2 v3 v4 v5)) :
    (w.cell? ⟨g, 0, none⟩ = some v0 ∧ w.cell? ⟨g, 1, none⟩ = some v1 ∧ w.cell? ⟨g, 2, none⟩ = some v2 ∧ w.cell? ⟨g, 3, none⟩ = some v3 ∧ w.cell? ⟨g, 4, none⟩ = some v4 ∧ w.cell? ⟨g, 5, none⟩ = some v5) ∧
    (w.frozen? ⟨g, 0, none⟩ = false ∧ w.frozen? ⟨g, 1, none⟩ = false ∧ w.frozen? ⟨g, 2, none⟩ = false ∧ w.frozen? ⟨g, 3, none⟩ = false ∧ w.frozen? ⟨g, 4, none⟩ = false ∧ w.frozen? ⟨g, 5, none⟩ = false) :=
  ⟨⟨h.cell (i := 0) (by omega), h.cell (i := 1) (by omega), h.cell (i := 2) (by omega), h.cell (i := 3) (by omega), h.cell (i := 4) (by omega), h.cell (i := 5) (by omega)⟩,
   ⟨h.frozen 0, h.frozen 1, h.frozen 2, h.frozen 3, h.frozen 4, h.frozen 5⟩⟩

theorem Ints.setCell {w : World} {a : Option Addr} {n lo : Nat} {xs : List Int} (h : Ints w a n xs) (hf : Fresh lo n a) {p : Addr} (hp : p.block < lo) (v : Value) : Ints (w.setCell p v) a n xs :=
  h.keep hf (by simp [World.setCell]) (fun b off hlo _ => World.cell?_of_block (Below.heap_setCell _ _ _ _ (by show b ≠ p.block; omega)))
theorem Fresh.le {lo lo' n : Nat} {a : Option Addr} (h : Fresh lo n a) (hl : lo' ≤ lo) : Fresh lo' n a := h.imp id fun ⟨b, off, e, hb⟩ => ⟨b, off, e, by omega⟩

/-- What the call holds on its way: the answer handed in, the result's place, the copy. -/
structure Way (W w : World) (A Z C : Nat → Value) : Prop where
  a : w.rowIs W.heap.size 39 6 A
  z : w.rowIs (W.heap.size + 1) 39 6 Z
  c : w.rowIs (W.heap.size + 1 + 1) 39 6 C
  b : Below W.heap.size W w
theorem Way.below {W w w' : World} {A Z C : Nat → Value} (h : Way W w A Z C) (hb : Below w.heap.size w w') : Way W w' A Z C :=
  ⟨blockBelow hb h.a.lt h.a, blockBelow hb h.z.lt h.z, blockBelow hb h.c.lt h.c, h.b.trans (hb.mono h.b.size)⟩
theorem Way.set {W w : World} {A Z C C' : Nat → Value} (h : Way W w A Z C) (j : Nat) (v : Value) (hC : ∀ i, i < 6 → (if i = j then v else C i) = C' i) : Way W (w.setCell ⟨W.heap.size + 1 + 1, j, none⟩ v) A Z C' :=
  ⟨h.a.setOther (by show W.heap.size ≠ W.heap.size + 1 + 1; omega) _, h.z.setOther (by show W.heap.size + 1 ≠ W.heap.size + 1 + 1; omega) _, (h.c.set j v).congr hC, h.b.setCell (by show W.heap.size ≤ W.heap.size + 1 + 1; omega) _⟩

end Go.Proofs.Ytnbccoflcoaoaab

namespace Go.Proofs.Ytnbccoflcoaoaab
open Go.RowKit Go.Deep
set_option linter.unusedSimpArgs false
set_option linter.unusedVariables false

/-! ### one unit more round the circle, arc by arc -/
def moreTo (fl ci : List Int) : Nat → List Int
  | 0 => fl
  | k + 1 => bump (moreTo fl ci k) (ci.getD k 0).toNat
theorem more_len (fl ci : List Int) (k : Nat) : (moreTo fl ci k).length = fl.length := by
  induction k with
  | zero => rfl
  | succ k ih => simp only [moreTo, bump_len, ih]
theorem more_net {es : List A5} {fl ci : List Int} (hl : fl.length = es.length) (ho : onceB es.length ci = true) (node : Int) (k : Nat) (hk : k ≤ ci.length) :
    netTo es (moreTo fl ci k) node es.length = netTo es fl node es.length + ringTo es ci node k := by
  induction k with
  | zero => simp [moreTo, ringTo]
  | succ k ih =>
    have hv := once_out ho (i := k) (by omega)
    simp only [moreTo, ringTo]
    rw [bump_net es _ _ (by rw [more_len, hl]; omega), ih (by omega), if_pos (by omega)]
    unfold arcOf
    omega
theorem more_cost {es : List A5} {fl ci : List Int} (hl : fl.length = es.length) (ho : onceB es.length ci = true) (k : Nat) (hk : k ≤ ci.length) :
    costTo es (moreTo fl ci k) es.length = costTo es fl es.length + circTo es ci k := by
  induction k with
  | zero => simp [moreTo, circTo]
  | succ k ih =>
    have hv := once_out ho (i := k) (by omega)
    simp only [moreTo, circTo]
    rw [bump_cost es _ _ (by rw [more_len, hl]; omega), ih (by omega), if_pos (by omega)]
    unfold arcOf
    omega

/-- A flow's numbers keep the bounds. -/
def Bds (es : List A5) (y : List Int) : Prop := ∀ i, i < es.length → (es.getD i zA).lo ≤ y.getD i 0 ∧ y.getD i 0 ≤ 1000000 ∧ ((es.getD i zA).cap = -1 ∨ y.getD i 0 ≤ (es.getD i zA).cap)
theorem more_bds {es : List A5} {fl ci : List Int} (hl : fl.length = es.length) (ho : onceB es.length ci = true) (hu : unlB es ci = true) {k : Nat} (hk : k < ci.length) (h : Bds es (moreTo fl ci k)) (hm : (moreTo fl ci k).getD (ci.getD k 0).toNat 0 < 1000000) : Bds es (moreTo fl ci (k + 1)) := by
  have hv := once_out ho hk
  have hcap : (es.getD (ci.getD k 0).toNat zA).cap = -1 := by have := of_all hu k hk; simpa [unlAt, arcOf] using this
  intro i hi
  have hb := h i hi
  simp only [moreTo]
  rw [bump_at _ _ _ (by rw [more_len, hl]; omega)]
  by_cases he : i = (ci.getD k 0).toNat
  · subst he
    rw [if_pos rfl]
    refine ⟨by omega, by omega, .inl hcap⟩
  · rw [if_neg he]; exact hb

theorem end_more {xs : List Int} {es : List A5} {fl ci : List Int} (hf : Fits xs es fl) (hg : goodB es ci = true) (hb : Bds es (moreTo fl ci ci.length)) :
    flowErr xs es (moreTo fl ci ci.length) = 0 ∧ costTo es (moreTo fl ci ci.length) es.length < costTo es fl es.length := by
  unfold goodB at hg
  rw [next_prev] at hg
  simp only [Bool.and_eq_true, decide_eq_true_eq] at hg
  obtain ⟨⟨⟨⟨ho, hu⟩, hp⟩, h0⟩, hc⟩ := hg
  refine ⟨of_fits ⟨by rw [more_len]; exact hf.len, hb, fun k hk => ?_⟩, ?_⟩
  · rw [more_net hf.len ho _ _ (Nat.le_refl _), ring_zero hp, hf.bal k hk]; omega
  · rw [more_cost hf.len ho _ (Nat.le_refl _)]; omega

/-- A row of its own that an append has made. -/
def OwnRow (w : World) (lo n : Nat) (a : Option Addr) (c : Nat) (l : List Int) : Prop :=
  n = 0 ∨ ∃ g f, a = some ⟨g, 0, none⟩ ∧ lo ≤ g ∧ w.rowIs g 3 c f ∧ n ≤ c ∧ ∀ i, i < n → f i = .int .i64 (l.getD i 0)

theorem own_row {w : World} {lo : Nat} {v : Value} {n : Nat} {xs : List Int} (h : w.ownsRow lo 3 1 v n (intCells xs)) (hl : xs.length = n) : ∃ a c, v = .slice a n c ∧ OwnRow w lo n a c xs := by
  rcases h.2 with ⟨rfl, rfl⟩ | ⟨g, cap, cur, rfl, hg, hh, hn, _, hc, ht⟩
  · exact ⟨none, 0, rfl, .inl rfl⟩
  · refine ⟨_, _, rfl, .inr ⟨g, fun i => cur.getD i (.bool false), rfl, hg, ⟨cur, hh, by omega, fun i hi => ?_⟩, hn, fun i hi => ?_⟩⟩
    · simp [Array.getD, show i < cur.size by omega]
    · have h1 := own_cell (base := lo) (cap := cap) hh ht i _ (intCells_at xs i (by omega))
      rw [Joins.cell_of_block hh] at h1
      simp [Array.getD, show i < cur.size by omega] at h1 ⊢
      exact h1

theorem wpList_copy_row {w : World} {ops : Array Oper} {rest : List Oper} {o : Oper} {a : Act} {Q : Exit → Act → World → Prop} (hgd : o.guard = none) (s x : Operand)
    (ho : o.op = .call { callee := .builtin .append, args := #[s, x], argTypes := #[22, 22] })
    (hs : a.eval s = .slice none 0 0) (sa : Option Addr) (m c : Nat) (hx : a.eval x = .slice sa m c) (xs : List Int) (hX : Ints w sa m xs)
    (h : ∀ a' c' w', OwnRow w' w.heap.size m a' c' xs → Below w.heap.size w w' → wpList Try.prog ops Q rest (a.put o.dst (.slice a' m c')) w') : wpList Try.prog ops Q (o :: rest) a w := by
  obtain ⟨i0, hi, hz0, hz1, hz2⟩ := info_parts infoInt
  have hsm := hX.small
  refine wpList_append_copy w hgd s x 22 ho 3 i0 _ 1 8 Try.underlying22 hi hz0 hz1 hz2 rfl (by decide) hs sa m c hx (intCells xs) (by rw [intCells_length, hX.len]; omega) hX.src (intCells_one xs) (by unfold maxLen; omega) (by omega) ?_
  intro v' w' hown hgr
  obtain ⟨a', c', rfl, hO⟩ := own_row hown hX.len
  exact h a' c' w' hO ((Below.refl _ _).grown hgr (Nat.le_refl _) (fun k hk => by cases hk))

theorem lit_one (w : World) : Ints (w.alloc (.cells #[.int .i64 0] 3)) (some ⟨w.heap.size, 0, none⟩) 1 [0] :=
  ⟨rfl, by omega, fun x hx => by simp at hx; subst hx; omega, .inr ⟨w.heap.size, 0, rfl, by simp, fun i hi => by
    have : i = 0 := by omega
    subst this; simp⟩⟩
theorem nil_ints (w : World) : Ints w none 0 [] := ⟨rfl, by omega, fun x hx => by simp at hx, .inl rfl⟩
theorem nil_arcs (w : World) : Arcs w none 0 [] := ⟨rfl, by omega, fun x hx => by simp at hx, .inl rfl⟩

theorem acc_one : accS [0] [] ⟨1, 0, [], [0], [], []⟩ = (true, 0) := by decide
theorem acc_two : accS [0] [] ⟨2, 0, [], [], [0], []⟩ = (false, 0) := by decide

end Go.Proofs.Ytnbccoflcoaoaab
