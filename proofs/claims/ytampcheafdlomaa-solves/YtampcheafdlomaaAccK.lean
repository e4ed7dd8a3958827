import Derived.Test.YtampcheafdlomaaAccJ
namespace Go.Proofs.Ytampcheafdlomaa
open Go.RowKit Go.Deep
set_option linter.unusedSimpArgs false
set_option linter.unusedVariables false

set_option maxHeartbeats 2000000 in
theorem gAcceptNone_any (sa aa fa pa ca ra : Option Addr) (sn sc an ac fn fc pn pc cn cc rn rc : Nat) (kd cs : Int) (xs : List Int) (es : List A5) (fl po cu ci : List Int) (w : World) (hx : Ints w sa sn xs) (he : Arcs w aa an es) (hn : NetOK xs es)
    (ha : Ans w fa pa ca ra fn pn cn rn fl po cu ci) :
    Calls Try.prog 46 #[.agg #[.slice sa sn sc, .slice aa an ac], .agg #[.int .i64 kd, .int .i64 cs, .slice fa fn fc, .slice pa pn pc, .slice ca cn cc, .slice ra rn rc]] w fun e w' => e = .returned (.bool (noneB xs es ⟨kd, cs, fl, po, cu, ci⟩)) ∧ Below w.heap.size w w' := by
  have hL : Hid (fl.length = fn ∧ po.length = pn ∧ ci.length = rn) := ⟨ha.fl.len, ha.po.len, ha.ci.len⟩
  have hsf := ha.fl.small
  have hsp := ha.po.small
  have hsr := ha.ci.small
  have hbx := boxed_new w (.slice sa sn sc) (.slice aa an ac) (.int .i64 kd) (.int .i64 cs) (.slice fa fn fc) (.slice pa pn pc) (.slice ca cn cc) (.slice ra rn rc) 25 36
  have hb0 := Joins.below_alloc2 w (.cells #[.slice sa sn sc, .slice aa an ac] 25) (.cells #[.int .i64 kd, .int .i64 cs, .slice fa fn fc, .slice pa pn pc, .slice ca cn cc, .slice ra rn rc] 36)
  by_cases hz : cs = 0 ∧ fn = 0 ∧ pn = 0 ∧ rn = 0
  · obtain ⟨rfl, rfl, rfl, rfl⟩ := hz
    have HZ : Hid (decide (fl.length = 0) = true ∧ decide (po.length = 0) = true ∧ decide (ci.length = 0) = true) := ⟨decide_eq_true hL.out.1, decide_eq_true hL.out.2.1, decide_eq_true hL.out.2.2⟩
    go_enter Try.func46, Try.ntmps46
    go_wp2_with fail
    refine (gIsCut_any ca cn cc sn cu _ (ha.cu.below hb0)).mono ?_
    rintro e w1 ⟨rfl, rfl⟩
    cases hR : risB cu sn with
    | false =>
      have HF : Hid (noneB xs es ⟨kd, 0, fl, po, cu, ci⟩ = false) := by
        show noneB xs es ⟨kd, 0, fl, po, cu, ci⟩ = false
        unfold noneB
        simp only []
        rw [hx.len, hR]; rfl
      clear hR
      go_wp2
      go_ret
      exact ⟨ret_b HF.out.symm, hb0⟩
    | true =>
      have hr : risB cu xs.length = true := by rw [hx.len]; exact hR
      have HR := hide hr
      clear hR hr
      go_wp2_with fail
      refine (gViolated_any sa aa ca sn sc an ac cn cc xs es cu _ (hx.below hb0) (he.below hb0) (ha.cu.below hb0) hn HR.out).mono ?_
      rintro e w2 ⟨rfl, hb2⟩
      have hB2 : Below w.heap.size w w2 := hb0.trans (hb2.mono (by simp; omega))
      have HF : Hid (noneB xs es ⟨kd, 0, fl, po, cu, ci⟩ = violB xs es cu) := by
        show noneB xs es ⟨kd, 0, fl, po, cu, ci⟩ = violB xs es cu
        unfold noneB
        simp only []
        rw [HR.out, HZ.out.1, HZ.out.2.1, HZ.out.2.2]; simp
      generalize violB xs es cu = vb at *
      clear hb2 hn hx he ha hbx hb0
      go_wp2
      go_ret
      exact ⟨ret_b HF.out.symm, hB2⟩
  · have HF : Hid (noneB xs es ⟨kd, cs, fl, po, cu, ci⟩ = false) := by
      show noneB xs es ⟨kd, cs, fl, po, cu, ci⟩ = false
      unfold noneB
      simp only []
      obtain ⟨h1, h2, h3⟩ := hL.out
      rw [h1, h2, h3]
      by_cases g1 : cs = 0
      · by_cases g2 : fn = 0
        · by_cases g3 : pn = 0
          · rw [decide_eq_false (show ¬ rn = 0 by omega)]; simp
          · rw [decide_eq_false g3]; simp
        · rw [decide_eq_false g2]; simp
      · rw [decide_eq_false g1]; simp
    by_cases g1 : cs = 0
    · subst g1
      by_cases g2 : fn = 0
      · subst g2
        by_cases g3 : pn = 0
        · subst g3
          have t4 : ((rn : Int) != 0) = true := by simp; omega
          go_enter Try.func46, Try.ntmps46
          go_wp2
          go_ret
          exact ⟨ret_b HF.out.symm, hb0⟩
        · have t3 : ((pn : Int) != 0) = true := by simp; omega
          go_enter Try.func46, Try.ntmps46
          go_wp2
          go_ret
          exact ⟨ret_b HF.out.symm, hb0⟩
      · have t2 : ((fn : Int) != 0) = true := by simp; omega
        go_enter Try.func46, Try.ntmps46
        go_wp2
        go_ret
        exact ⟨ret_b HF.out.symm, hb0⟩
    · have t1 : (cs != 0) = true := by simpa using g1
      go_enter Try.func46, Try.ntmps46
      go_wp2
      go_ret
      exact ⟨ret_b HF.out.symm, hb0⟩

set_option maxHeartbeats 2000000 in
theorem gAcceptEndless_any (sa aa fa pa ca ra : Option Addr) (sn sc an ac fn fc pn pc cn cc rn rc : Nat) (kd cs : Int) (xs : List Int) (es : List A5) (fl po cu ci : List Int) (w : World) (hx : Ints w sa sn xs) (he : Arcs w aa an es) (hn : NetOK xs es)
    (ha : Ans w fa pa ca ra fn pn cn rn fl po cu ci) :
    Calls Try.prog 47 #[.agg #[.slice sa sn sc, .slice aa an ac], .agg #[.int .i64 kd, .int .i64 cs, .slice fa fn fc, .slice pa pn pc, .slice ca cn cc, .slice ra rn rc]] w fun e w' => e = .returned (.bool (endB xs es ⟨kd, cs, fl, po, cu, ci⟩)) ∧ Below w.heap.size w w' := by
  have hL : Hid (po.length = pn ∧ cu.length = cn) := ⟨ha.po.len, ha.cu.len⟩
  have hsp := ha.po.small
  have hsc := ha.cu.small
  have hbx := boxed_new w (.slice sa sn sc) (.slice aa an ac) (.int .i64 kd) (.int .i64 cs) (.slice fa fn fc) (.slice pa pn pc) (.slice ca cn cc) (.slice ra rn rc) 25 36
  have hb0 := Joins.below_alloc2 w (.cells #[.slice sa sn sc, .slice aa an ac] 25) (.cells #[.int .i64 kd, .int .i64 cs, .slice fa fn fc, .slice pa pn pc, .slice ca cn cc, .slice ra rn rc] 36)
  by_cases hz : cs = 0 ∧ pn = 0 ∧ cn = 0
  · obtain ⟨rfl, rfl, rfl⟩ := hz
    have HZ : Hid (decide (po.length = 0) = true ∧ decide (cu.length = 0) = true) := ⟨decide_eq_true hL.out.1, decide_eq_true hL.out.2⟩
    go_enter Try.func47, Try.ntmps47
    go_wp2_with fail
    refine (gFlowError_any sa aa fa sn sc an ac fn fc xs es fl _ (hx.below hb0) (he.below hb0) (ha.fl.below hb0) hn).mono ?_
    rintro e w1 ⟨rfl, hb1⟩
    have hB1 : Below w.heap.size w w1 := hb0.trans (hb1.mono (by simp; omega))
    have hx1 := hbx.below hb1
    clear hb1 hb0 hbx
    obtain ⟨m0, m1, m2, m3, m4, m5, m6, m7, m8⟩ := hx1
    obtain ⟨c, hc⟩ : ∃ c, flowErr xs es fl = c := ⟨_, rfl⟩
    rw [hc]
    cases hcz : (c != 0) with
    | true =>
      have HF : Hid (endB xs es ⟨kd, 0, fl, po, cu, ci⟩ = false) := by
        show endB xs es ⟨kd, 0, fl, po, cu, ci⟩ = false
        unfold endB
        simp only []
        rw [hc, decide_eq_false (show ¬ c = 0 by simpa using hcz)]
        rfl
      clear hc
      go_wp2
      go_ret
      exact ⟨ret_b HF.out.symm, hB1⟩
    | false =>
      have H0 := hide (hc.trans (show c = 0 by simpa using hcz))
      clear hc
      have HE : Hid (endB xs es ⟨kd, 0, fl, po, cu, ci⟩ = goodB es ci) := by
        show endB xs es ⟨kd, 0, fl, po, cu, ci⟩ = goodB es ci
        unfold endB
        simp only []
        rw [H0.out, HZ.out.1, HZ.out.2]; simp
      have hx1 := hide (Boxed.mk m0 m1 m2 m3 m4 m5 m6 m7 m8)
      go_wp2_with fail
      refine (gIsCircle_any sa aa ra sn sc an ac rn rc xs es ci _ (he.below hB1) (ha.ci.below hB1) hn).mono ?_
      rintro e w2 ⟨rfl, hb2⟩
      have hB2 : Below w.heap.size w w2 := hB1.trans (hb2.mono hB1.size)
      have hx2 := hx1.out.below hb2
      clear hb2 m0 m1 m2 m3 m4 m5 m6 m7 m8 hx1
      obtain ⟨m0, m1, m2, m3, m4, m5, m6, m7, m8⟩ := hx2
      obtain ⟨B, hB⟩ : ∃ B, (decide (0 < ci.length) && onceB es.length ci && prevB es ci) = B := ⟨_, rfl⟩
      rw [hB]
      cases B with
      | false =>
        have HF : Hid (goodB es ci = false) := by
          show goodB es ci = false
          unfold goodB
          rw [next_prev]
          revert hB
          cases decide (0 < ci.length) <;> cases onceB es.length ci <;> cases prevB es ci <;> simp
        clear hB
        go_wp2
        go_ret
        exact ⟨ret_b (HE.out.trans HF.out).symm, hB2⟩
      | true =>
        have hB' := hB
        simp only [Bool.and_eq_true] at hB'
        have HO := hide hB'.1.2
        have HF : Hid (goodB es ci = (unlB es ci && decide (circTo es ci ci.length < 0))) := by
          show goodB es ci = _
          unfold goodB
          rw [next_prev, hB'.1.2, hB'.2, hB'.1.1]; simp
        clear hB hB'
        go_wp2_with fail
        refine (gGood_any sa aa ra sn sc an ac rn rc xs es ci _ (he.below hB2) (ha.ci.below hB2) hn HO.out).mono ?_
        rintro e w3 ⟨rfl, hb3⟩
        have hB3 : Below w.heap.size w w3 := hB2.trans (hb3.mono hB2.size)
        generalize (unlB es ci && decide (circTo es ci ci.length < 0)) = gb at *
        clear m0 m1 m2 m3 m4 m5 m6 m7 m8 hb3 hn hx he ha
        go_wp2
        go_ret
        exact ⟨ret_b (HE.out.trans HF.out).symm, hB3⟩
  · have HF : Hid (endB xs es ⟨kd, cs, fl, po, cu, ci⟩ = false) := by
      show endB xs es ⟨kd, cs, fl, po, cu, ci⟩ = false
      unfold endB
      simp only []
      obtain ⟨h1, h2⟩ := hL.out
      rw [h1, h2]
      by_cases g1 : cs = 0
      · by_cases g2 : pn = 0
        · rw [decide_eq_false (show ¬ cn = 0 by omega)]; simp
        · rw [decide_eq_false g2]; simp
      · rw [decide_eq_false g1]; simp
    by_cases g1 : cs = 0
    · subst g1
      by_cases g2 : pn = 0
      · subst g2
        have t4 : ((cn : Int) != 0) = true := by simp; omega
        go_enter Try.func47, Try.ntmps47
        go_wp2
        go_ret
        exact ⟨ret_b HF.out.symm, hb0⟩
      · have t2 : ((pn : Int) != 0) = true := by simp; omega
        go_enter Try.func47, Try.ntmps47
        go_wp2
        go_ret
        exact ⟨ret_b HF.out.symm, hb0⟩
    · have t1 : (cs != 0) = true := by simpa using g1
      go_enter Try.func47, Try.ntmps47
      go_wp2
      go_ret
      exact ⟨ret_b HF.out.symm, hb0⟩

theorem accS_check {xs : List Int} {es : List A5} {a : A6} {c : Int} (h : (checkS xs es).1 = c) (hc : c ≠ 0) : accS xs es a = (false, c) := by rw [accS, h, if_pos hc]
theorem accS_ok {xs : List Int} {es : List A5} {a : A6} (hn : NetOK xs es) : accS xs es a = (okB xs es a, 0) := by rw [accS, hn.zero, if_neg (by simp)]
theorem ret_bi {x y : Bool} {c d : Int} (h : x = y) (k : c = d) : Ending.returned (.tuple #[.bool x, .int .i64 c]) = .returned (.tuple #[.bool y, .int .i64 d]) := by rw [h, k]

set_option maxHeartbeats 2000000 in
theorem gAccept_any (sa aa fa pa ca ra : Option Addr) (sn sc an ac fn fc pn pc cn cc rn rc : Nat) (kd cs : Int) (xs : List Int) (es : List A5) (fl po cu ci : List Int) (w : World) (hx : Ints w sa sn xs) (he : Arcs w aa an es)
    (ha : Ans w fa pa ca ra fn pn cn rn fl po cu ci) :
    Calls Try.prog 34 #[.agg #[.slice sa sn sc, .slice aa an ac], .agg #[.int .i64 kd, .int .i64 cs, .slice fa fn fc, .slice pa pn pc, .slice ca cn cc, .slice ra rn rc]] w fun e w' =>
      e = .returned (.tuple #[.bool (accS xs es ⟨kd, cs, fl, po, cu, ci⟩).1, .int .i64 (accS xs es ⟨kd, cs, fl, po, cu, ci⟩).2]) ∧ Below w.heap.size w w' := by
  have hbx := boxed_new w (.slice sa sn sc) (.slice aa an ac) (.int .i64 kd) (.int .i64 cs) (.slice fa fn fc) (.slice pa pn pc) (.slice ca cn cc) (.slice ra rn rc) 25 36
  have hb0 := Joins.below_alloc2 w (.cells #[.slice sa sn sc, .slice aa an ac] 25) (.cells #[.int .i64 kd, .int .i64 cs, .slice fa fn fc, .slice pa pn pc, .slice ca cn cc, .slice ra rn rc] 36)
  go_enter Try.func34, Try.ntmps34
  go_wp2_with fail
  refine (gCheck_any sa aa sn sc an ac xs es _ (hx.below hb0) (he.below hb0)).mono ?_
  rintro e w1 ⟨rfl, hb1⟩
  have hB1 : Below w.heap.size w w1 := hb0.trans (hb1.mono (by simp; omega))
  have hx1 := hbx.below hb1
  clear hb1 hb0 hbx
  obtain ⟨m0, m1, m2, m3, m4, m5, m6, m7, m8⟩ := hx1
  obtain ⟨c, hc⟩ : ∃ c, (checkS xs es).1 = c := ⟨_, rfl⟩
  rw [hc]
  cases hz : (c != 0) with
  | true =>
    have HS := hide (accS_check (a := ⟨kd, cs, fl, po, cu, ci⟩) hc (by simpa using hz))
    clear hc
    go_wp2
    go_ret2
    exact ⟨ret_bi (by rw [HS.out]) (by rw [HS.out]), hB1⟩
  | false =>
    have hn := netOK_of (hc.trans (by simpa using hz))
    have hN := hide hn
    have HS := hide (accS_ok (a := ⟨kd, cs, fl, po, cu, ci⟩) hn)
    clear hc hn
    by_cases k1 : kd = 1
    · subst k1
      have HK : Hid (okB xs es ⟨1, cs, fl, po, cu, ci⟩ = bestB xs es ⟨1, cs, fl, po, cu, ci⟩) := rfl
      go_wp2_with fail
      refine (gAcceptBest_any sa aa fa pa ca ra sn sc an ac fn fc pn pc cn cc rn rc 1 cs xs es fl po cu ci _ (hx.below hB1) (he.below hB1) hN.out (ha.below hB1)).mono ?_
      rintro e w2 ⟨rfl, hb2⟩
      have hB2 : Below w.heap.size w w2 := hB1.trans (hb2.mono hB1.size)
      generalize bestB xs es ⟨1, cs, fl, po, cu, ci⟩ = gb at *
      clear m0 m1 m2 m3 m4 m5 m6 m7 m8 hb2 hx he ha
      go_wp2
      go_ret2
      exact ⟨ret_bi (by rw [HS.out, HK.out]) (by rw [HS.out]), hB2⟩
    have t1 : (kd == 1) = false := by simpa using k1
    by_cases k2 : kd = 2
    · subst k2
      have HK : Hid (okB xs es ⟨2, cs, fl, po, cu, ci⟩ = noneB xs es ⟨2, cs, fl, po, cu, ci⟩) := rfl
      go_wp2_with fail
      refine (gAcceptNone_any sa aa fa pa ca ra sn sc an ac fn fc pn pc cn cc rn rc 2 cs xs es fl po cu ci _ (hx.below hB1) (he.below hB1) hN.out (ha.below hB1)).mono ?_
      rintro e w2 ⟨rfl, hb2⟩
      have hB2 : Below w.heap.size w w2 := hB1.trans (hb2.mono hB1.size)
      generalize noneB xs es ⟨2, cs, fl, po, cu, ci⟩ = gb at *
      clear m0 m1 m2 m3 m4 m5 m6 m7 m8 hb2 hx he ha
      go_wp2
      go_ret2
      exact ⟨ret_bi (by rw [HS.out, HK.out]) (by rw [HS.out]), hB2⟩
    have t2 : (kd == 2) = false := by simpa using k2
    by_cases k3 : kd = 3
    · subst k3
      have HK : Hid (okB xs es ⟨3, cs, fl, po, cu, ci⟩ = endB xs es ⟨3, cs, fl, po, cu, ci⟩) := rfl
      go_wp2_with fail
      refine (gAcceptEndless_any sa aa fa pa ca ra sn sc an ac fn fc pn pc cn cc rn rc 3 cs xs es fl po cu ci _ (hx.below hB1) (he.below hB1) hN.out (ha.below hB1)).mono ?_
      rintro e w2 ⟨rfl, hb2⟩
      have hB2 : Below w.heap.size w w2 := hB1.trans (hb2.mono hB1.size)
      generalize endB xs es ⟨3, cs, fl, po, cu, ci⟩ = gb at *
      clear m0 m1 m2 m3 m4 m5 m6 m7 m8 hb2 hx he ha
      go_wp2
      go_ret2
      exact ⟨ret_bi (by rw [HS.out, HK.out]) (by rw [HS.out]), hB2⟩
    have t3 : (kd == 3) = false := by simpa using k3
    have HK : Hid (okB xs es ⟨kd, cs, fl, po, cu, ci⟩ = false) := by
      show okB xs es ⟨kd, cs, fl, po, cu, ci⟩ = false
      unfold okB
      simp only []
      rw [if_neg k1, if_neg k2, if_neg k3]
    clear k1 k2 k3
    go_wp2
    go_ret2
    exact ⟨ret_bi (by rw [HS.out, HK.out]) (by rw [HS.out]), hB1⟩

set_option maxHeartbeats 400000 in
theorem accept_any (sa aa fa pa ca ra : Option Addr) (sn sc an ac fn fc pn pc cn cc rn rc : Nat) (kd cs : Int) (xs : List Int) (es : List A5) (fl po cu ci : List Int) (w : World) (hx : Ints w sa sn xs) (he : Arcs w aa an es)
    (ha : Ans w fa pa ca ra fn pn cn rn fl po cu ci) :
    Calls Try.prog 18 #[.agg #[.slice sa sn sc, .slice aa an ac], .agg #[.int .i64 kd, .int .i64 cs, .slice fa fn fc, .slice pa pn pc, .slice ca cn cc, .slice ra rn rc]] w fun e w' =>
      e = .returned (.tuple #[.bool (accS xs es ⟨kd, cs, fl, po, cu, ci⟩).1, .int .i64 (accS xs es ⟨kd, cs, fl, po, cu, ci⟩).2]) ∧ Below w.heap.size w w' := by
  have hb0 := Joins.below_alloc2 w (.cells #[.slice sa sn sc, .slice aa an ac] 25) (.cells #[.int .i64 kd, .int .i64 cs, .slice fa fn fc, .slice pa pn pc, .slice ca cn cc, .slice ra rn rc] 36)
  go_enter Try.func18, Try.ntmps18
  go_wp2_with fail
  refine (gAccept_any sa aa fa pa ca ra sn sc an ac fn fc pn pc cn cc rn rc kd cs xs es fl po cu ci _ (hx.below hb0) (he.below hb0) (ha.below hb0)).mono ?_
  rintro e w1 ⟨rfl, hb⟩
  go_wp2
  go_ret2
  exact ⟨rfl, hb0.trans (hb.mono (by simp; omega))⟩
end Go.Proofs.Ytampcheafdlomaa
