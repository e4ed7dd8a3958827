import Derived.Test.YtampcheafdlomaaAccI
import Derived.Test.YtampcheafdlomaaFlowE
namespace Go.Proofs.Ytampcheafdlomaa
open Go.RowKit Go.Deep
set_option linter.unusedSimpArgs false
set_option linter.unusedVariables false

theorem dec_cast (a b : Nat) : decide ((a : Int) = (b : Int)) = decide (a = b) := by rw [decide_eq_decide]; omega

/-- An answer's four lists lie in w. -/
structure Ans (w : World) (fa pa ca ra : Option Addr) (fn pn cn rn : Nat) (fl po cu ci : List Int) : Prop where
  fl : Ints w fa fn fl
  po : Ints w pa pn po
  cu : Ints w ca cn cu
  ci : Ints w ra rn ci
theorem Ans.below {w w' : World} {fa pa ca ra : Option Addr} {fn pn cn rn : Nat} {fl po cu ci : List Int} (h : Ans w fa pa ca ra fn pn cn rn fl po cu ci) (hb : Below w.heap.size w w') : Ans w' fa pa ca ra fn pn cn rn fl po cu ci :=
  ⟨h.fl.below hb, h.po.below hb, h.cu.below hb, h.ci.below hb⟩

/-- The boxes of a net and of an answer, at block g and behind it. -/
structure Boxed (w : World) (g : Nat) (sv av : Value) (v0 v1 v2 v3 v4 v5 : Value) : Prop where
  n0 : w.cell? ⟨g, 0, none⟩ = some sv
  n1 : w.cell? ⟨g, 1, none⟩ = some av
  a0 : w.cell? ⟨g + 1, 0, none⟩ = some v0
  a1 : w.cell? ⟨g + 1, 1, none⟩ = some v1
  a2 : w.cell? ⟨g + 1, 2, none⟩ = some v2
  a3 : w.cell? ⟨g + 1, 3, none⟩ = some v3
  a4 : w.cell? ⟨g + 1, 4, none⟩ = some v4
  a5 : w.cell? ⟨g + 1, 5, none⟩ = some v5
  lt : g + 1 < w.heap.size
theorem Boxed.below {w w' : World} {g : Nat} {sv av v0 v1 v2 v3 v4 v5 : Value} (h : Boxed w g sv av v0 v1 v2 v3 v4 v5) (hb : Below w.heap.size w w') : Boxed w' g sv av v0 v1 v2 v3 v4 v5 := by
  have hl := h.lt
  have hs := hb.size
  exact ⟨(hb.cell (p := ⟨g, 0, none⟩) (show g < w.heap.size by omega)).trans h.n0, (hb.cell (p := ⟨g, 1, none⟩) (show g < w.heap.size by omega)).trans h.n1,
    (hb.cell (p := ⟨g + 1, 0, none⟩) hl).trans h.a0, (hb.cell (p := ⟨g + 1, 1, none⟩) hl).trans h.a1, (hb.cell (p := ⟨g + 1, 2, none⟩) hl).trans h.a2,
    (hb.cell (p := ⟨g + 1, 3, none⟩) hl).trans h.a3, (hb.cell (p := ⟨g + 1, 4, none⟩) hl).trans h.a4, (hb.cell (p := ⟨g + 1, 5, none⟩) hl).trans h.a5, by omega⟩
theorem boxed_new (w : World) (sv av v0 v1 v2 v3 v4 v5 : Value) (t u : TypeId) : Boxed ((w.alloc (.cells #[sv, av] t)).alloc (.cells #[v0, v1, v2, v3, v4, v5] u)) w.heap.size sv av v0 v1 v2 v3 v4 v5 := by
  constructor <;> first | (simp; done) | (rw [World.cell?_alloc_lt _ _ _ (by simp)]; simp)

set_option maxHeartbeats 2000000 in
theorem gAcceptBest_any (sa aa fa pa ca ra : Option Addr) (sn sc an ac fn fc pn pc cn cc rn rc : Nat) (kd cs : Int) (xs : List Int) (es : List A5) (fl po cu ci : List Int) (w : World) (hx : Ints w sa sn xs) (he : Arcs w aa an es) (hn : NetOK xs es)
    (ha : Ans w fa pa ca ra fn pn cn rn fl po cu ci) :
    Calls Try.prog 45 #[.agg #[.slice sa sn sc, .slice aa an ac], .agg #[.int .i64 kd, .int .i64 cs, .slice fa fn fc, .slice pa pn pc, .slice ca cn cc, .slice ra rn rc]] w fun e w' => e = .returned (.bool (bestB xs es ⟨kd, cs, fl, po, cu, ci⟩)) ∧ Below w.heap.size w w' := by
  have hL : Hid (cu.length = cn ∧ ci.length = rn) := ⟨ha.cu.len, ha.ci.len⟩
  have hsc := ha.cu.small
  have hsr := ha.ci.small
  have hbx := boxed_new w (.slice sa sn sc) (.slice aa an ac) (.int .i64 kd) (.int .i64 cs) (.slice fa fn fc) (.slice pa pn pc) (.slice ca cn cc) (.slice ra rn rc) 25 36
  have hb0 := Joins.below_alloc2 w (.cells #[.slice sa sn sc, .slice aa an ac] 25) (.cells #[.int .i64 kd, .int .i64 cs, .slice fa fn fc, .slice pa pn pc, .slice ca cn cc, .slice ra rn rc] 36)
  have hN := hide hn
  by_cases hz : cn = 0 ∧ rn = 0
  · obtain ⟨rfl, rfl⟩ := hz
    have HZ : Hid (decide (cu.length = 0) = true ∧ decide (ci.length = 0) = true) := ⟨decide_eq_true hL.out.1, decide_eq_true hL.out.2⟩
    go_enter Try.func45, Try.ntmps45
    go_wp2_with fail
    refine (gFlowError_any sa aa fa sn sc an ac fn fc xs es fl _ (hx.below hb0) (he.below hb0) (ha.fl.below hb0) hn).mono ?_
    rintro e w1 ⟨rfl, hb1⟩
    have hB1 : Below w.heap.size w w1 := hb0.trans (hb1.mono (by simp; omega))
    have hx1 := hbx.below hb1
    clear hb1 hb0 hbx
    obtain ⟨m0, m1, m2, m3, m4, m5, m6, m7, m8⟩ := hx1
    have hx1 := hide (Boxed.mk m0 m1 m2 m3 m4 m5 m6 m7 m8)
    obtain ⟨c, hc⟩ : ∃ c, flowErr xs es fl = c := ⟨_, rfl⟩
    rw [hc]
    cases hcz : (c != 0) with
    | true =>
      have HF : Hid (bestB xs es ⟨kd, cs, fl, po, cu, ci⟩ = false) := by
        show bestB xs es ⟨kd, cs, fl, po, cu, ci⟩ = false
        unfold bestB
        simp only []
        rw [hc, decide_eq_false (show ¬ c = 0 by simpa using hcz)]
        rfl
      clear hc
      go_wp2
      go_ret
      exact ⟨ret_b HF.out.symm, hB1⟩
    | false =>
      have h0 := hc.trans (show c = 0 by simpa using hcz)
      have H0 := hide h0
      obtain ⟨hl, hbd, -⟩ := flowErr_zero h0
      have hfn : fn = an := by rw [← ha.fl.len, ← he.len]; exact hl
      subst hfn
      have hM : Mild fl fn := by have := hn.mild hbd; rw [he.len] at this; exact this
      have HM := hide hM
      clear hc h0 hl hbd hM
      go_wp2
      obtain ⟨k, hk⟩ : ∃ k, costTo es fl es.length = k := ⟨_, rfl⟩
      have cQ : ∀ d' os, Calls Try.prog 42 #[.agg #[.slice sa sn sc, .slice aa fn ac], .slice fa fn fc] (Sort.grow (redrawn w1 d') os) fun e w'' => e = .returned (.int .i64 k) ∧ ∃ p : Regrown, w'' = Sort.grow (redrawn w1 p.d) p.os := fun d' os => Calls.regrown_of (by rw [← hk]; exact gCostOf_any sa aa fa sn sc fn ac fc xs es fl _ ((he.below hB1).below (below_regrown _ _ _)) ((ha.fl.below hB1).below (below_regrown _ _ _)) hn HM.out)
      have HK := hide hk
      have kn0 := cell_regrown m0
      have kn1 := cell_regrown m1
      have ka1 := cell_regrown m3
      have ka2 := cell_regrown m4
      clear hk m0 m1 m2 m3 m4 m5 m6 m7 m8
      refine wp_region_quiet_below (by kernel_rfl) (by kernel_rfl) ?_
      repeat (quiet_step (first | exact cQ _ _))
      refine wpQuiet_nil ?_
      intro _ hw'
      obtain ⟨⟨dq, osq⟩, hw''⟩ := hw'
      subst hw''
      have hbr := below_regrown w1 dq osq
      have hx2 := hx1.out.below hbr
      have hB2 : Below w.heap.size w (Sort.grow (redrawn w1 dq) osq) := hB1.trans (hbr.mono hB1.size)
      clear kn0 kn1 ka1 ka2 cQ hbr hx1 hB1
      generalize Sort.grow (redrawn w1 dq) osq = w2 at *
      cases hkc : (k != cs) with
      | true =>
        have HF : Hid (bestB xs es ⟨kd, cs, fl, po, cu, ci⟩ = false) := by
          show bestB xs es ⟨kd, cs, fl, po, cu, ci⟩ = false
          unfold bestB
          simp only []
          rw [HK.out, decide_eq_false (show ¬ k = cs by simpa using hkc)]
          simp
        go_wp2
        go_ret
        exact ⟨ret_b HF.out.symm, hB2⟩
      | false =>
        have HK2 : Hid (decide (costTo es fl es.length = cs) = true) := decide_eq_true (by rw [HK.out]; simpa using hkc)
        obtain ⟨m0, m1, m2, m3, m4, m5, m6, m7, m8⟩ := hx2
        go_wp2_with fail
        refine (gArePotentials_any pa pn pc sn po _ (ha.po.below hB2)).mono ?_
        rintro e w3 ⟨rfl, rfl⟩
        obtain ⟨B, hB⟩ : ∃ B, (decide ((po.length : Int) = (sn : Int)) && potB po) = B := ⟨_, rfl⟩
        rw [hB]
        cases B with
        | false =>
          have HF : Hid (bestB xs es ⟨kd, cs, fl, po, cu, ci⟩ = false) := by
            show bestB xs es ⟨kd, cs, fl, po, cu, ci⟩ = false
            unfold bestB holdsB
            simp only []
            have : (decide (po.length = xs.length) && potB po) = false := by
              rw [hx.len, ← dec_cast, hB]
            rw [this]; simp
          clear hB
          go_wp2
          go_ret
          exact ⟨ret_b HF.out.symm, hB2⟩
        | true =>
          simp only [Bool.and_eq_true, decide_eq_true_eq] at hB
          have hpn : pn = sn := by have := ha.po.len; omega
          have HPB := hide hB.2
          subst hpn
          clear hB
          go_wp2_with fail
          refine (gHold_any sa aa fa pa pn sc fn ac fc pn pc xs es fl po _ (he.below hB2) (ha.fl.below hB2) (ha.po.below hB2) hn hx.len HPB.out).mono ?_
          rintro e w4 ⟨rfl, hb4⟩
          have hB4 : Below w.heap.size w w4 := hB2.trans (hb4.mono hB2.size)
          have HF : Hid (bestB xs es ⟨kd, cs, fl, po, cu, ci⟩ = holdB es fl po) := by
            show bestB xs es ⟨kd, cs, fl, po, cu, ci⟩ = holdB es fl po
            unfold bestB holdsB
            simp only []
            rw [H0.out, HK2.out, HZ.out.1, HZ.out.2, HPB.out, decide_eq_true (show po.length = xs.length by rw [ha.po.len, hx.len])]
            simp
          generalize holdB es fl po = hb at *
          clear m0 m1 m2 m3 m4 m5 m6 m7 m8 hb4 hn hx he ha
          go_wp2
          go_ret
          exact ⟨ret_b HF.out.symm, hB4⟩
  · have HF : Hid (bestB xs es ⟨kd, cs, fl, po, cu, ci⟩ = false) := by
      show bestB xs es ⟨kd, cs, fl, po, cu, ci⟩ = false
      unfold bestB
      simp only []
      by_cases h1 : cn = 0
      · rw [decide_eq_false (show ¬ ci.length = 0 by rw [hL.out.2]; omega)]; simp
      · rw [decide_eq_false (show ¬ cu.length = 0 by rw [hL.out.1]; omega)]; simp
    by_cases h1 : cn = 0
    · subst h1
      have h2 : ((rn : Int) != 0) = true := by simp; omega
      go_enter Try.func45, Try.ntmps45
      go_wp2
      go_ret
      exact ⟨ret_b HF.out.symm, hb0⟩
    · have h2 : ((cn : Int) != 0) = true := by simp; omega
      go_enter Try.func45, Try.ntmps45
      go_wp2
      go_ret
      exact ⟨ret_b HF.out.symm, hb0⟩
end Go.Proofs.Ytampcheafdlomaa
