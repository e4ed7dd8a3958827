import Derived.Test.YtampcheafdlomaaAccK
namespace Go.Proofs.Ytampcheafdlomaa
open Go.RowKit Go.Deep
set_option linter.unusedSimpArgs false
set_option linter.unusedVariables false

theorem costS_cases {xs : List Int} {es : List A5} (fl : List Int) (hn : NetOK xs es) : (flowErr xs es fl ≠ 0 ∧ costS xs es fl = (0, flowErr xs es fl)) ∨ (flowErr xs es fl = 0 ∧ costS xs es fl = (costTo es fl es.length, 0)) := by
  by_cases h : flowErr xs es fl = 0
  · exact .inr ⟨h, costS_ok hn h⟩
  · exact .inl ⟨h, costS_flow hn rfl h⟩

set_option maxHeartbeats 4000000 in
theorem refAccepted_any (sa aa fa pa ca ra : Option Addr) (sn sc an ac fn fc pn pc cn cc rn rc : Nat) (kd cs : Int) (xs : List Int) (es : List A5) (fl po cu ci : List Int) (w : World) (hx : Ints w sa sn xs) (he : Arcs w aa an es) (hn : NetOK xs es)
    (ha : Ans w fa pa ca ra fn pn cn rn fl po cu ci) (hle : rn ≤ rc) :
    Calls Try.prog 35 #[.agg #[.slice sa sn sc, .slice aa an ac], .agg #[.int .i64 kd, .int .i64 cs, .slice fa fn fc, .slice pa pn pc, .slice ca cn cc, .slice ra rn rc]] w fun e w' => e = .returned (.bool (okB xs es ⟨kd, cs, fl, po, cu, ci⟩)) ∧ Below w.heap.size w w' := by
  have hL : Hid (fl.length = fn ∧ po.length = pn ∧ cu.length = cn ∧ ci.length = rn) := ⟨ha.fl.len, ha.po.len, ha.cu.len, ha.ci.len⟩
  have hsf := ha.fl.small
  have hsp := ha.po.small
  have hsc := ha.cu.small
  have hsr := ha.ci.small
  have hbx := boxed_new w (.slice sa sn sc) (.slice aa an ac) (.int .i64 kd) (.int .i64 cs) (.slice fa fn fc) (.slice pa pn pc) (.slice ca cn cc) (.slice ra rn rc) 25 36
  have hb0 := Joins.below_alloc2 w (.cells #[.slice sa sn sc, .slice aa an ac] 25) (.cells #[.int .i64 kd, .int .i64 cs, .slice fa fn fc, .slice pa pn pc, .slice ca cn cc, .slice ra rn rc] 36)
  have hN := hide hn
  have hcase := hide (costS_cases fl hn)
  clear hn
  go_enter Try.func35, Try.ntmps35
  go_wp2_with fail
  refine (refCost_any sa aa fa sn sc an ac fn fc xs es fl _ (hx.below hb0) (he.below hb0) (ha.fl.below hb0)).mono ?_
  rintro e w1 ⟨rfl, hb1⟩
  have hB1 : Below w.heap.size w w1 := hb0.trans (hb1.mono (by simp; omega))
  have hx1 := hbx.below hb1
  clear hb1 hb0 hbx
  obtain ⟨m0, m1, m2, m3, m4, m5, m6, m7, m8⟩ := hx1
  have hbx := hide (Boxed.mk m0 m1 m2 m3 m4 m5 m6 m7 m8)
  obtain ⟨c, e, hce⟩ : ∃ c e, costS xs es fl = (c, e) := ⟨_, _, rfl⟩
  rw [hce]
  simp only []
  have hCE : Hid ((e ≠ 0 ∧ flowErr xs es fl ≠ 0) ∨ (e = 0 ∧ flowErr xs es fl = 0 ∧ costTo es fl es.length = c)) := by
    rcases hcase.out with ⟨g1, g2⟩ | ⟨g1, g2⟩
    · rw [hce] at g2; cases g2; exact .inl ⟨g1, g1⟩
    · rw [hce] at g2; cases g2; exact .inr ⟨rfl, g1, rfl⟩
  clear hce hcase
  by_cases k1 : kd = 1
  · subst k1
    have HK : Hid (okB xs es ⟨1, cs, fl, po, cu, ci⟩ = bestB xs es ⟨1, cs, fl, po, cu, ci⟩) := rfl
    by_cases ht : e = 0 ∧ c = cs ∧ cn = 0 ∧ rn = 0
    · obtain ⟨rfl, rfl, rfl, rfl⟩ := ht
      obtain ⟨-, g1, g2⟩ := hCE.out.resolve_left (by simp)
      have hfn : fn = an := by rw [← ha.fl.len, ← he.len]; exact (flowErr_zero g1).1
      subst hfn
      have HF : Hid (bestB xs es ⟨1, c, fl, po, cu, ci⟩ = holdsB xs es fl po) := by
        show bestB xs es ⟨1, c, fl, po, cu, ci⟩ = holdsB xs es fl po
        unfold bestB
        simp only []
        rw [g1, g2, decide_eq_true hL.out.2.2.1, decide_eq_true hL.out.2.2.2]; simp
      clear g1 g2
      go_wp2_with fail
      refine (refHolds_any sa aa fa pa sn sc fn ac fc pn pc xs es fl po _ (hx.below hB1) (he.below hB1) (ha.fl.below hB1) (ha.po.below hB1) hN.out).mono ?_
      rintro e w2 ⟨rfl, hb2⟩
      have hB2 : Below w.heap.size w w2 := hB1.trans (hb2.mono hB1.size)
      generalize holdsB xs es fl po = gb at *
      clear m0 m1 m2 m3 m4 m5 m6 m7 m8 hb2 hx he ha
      go_wp2
      go_ret
      exact ⟨ret_b (HK.out.trans HF.out).symm, hB2⟩
    · have HF : Hid (bestB xs es ⟨1, cs, fl, po, cu, ci⟩ = false) := by
        show bestB xs es ⟨1, cs, fl, po, cu, ci⟩ = false
        unfold bestB
        simp only []
        rw [hL.out.2.2.1, hL.out.2.2.2]
        rcases hCE.out with ⟨g1, g2⟩ | ⟨g1, g2, g3⟩
        · rw [decide_eq_false g2]; rfl
        · rw [g3]
          by_cases q1 : c = cs
          · by_cases q2 : cn = 0
            · rw [decide_eq_false (show ¬ rn = 0 from fun q3 => ht ⟨g1, q1, q2, q3⟩)]; simp
            · rw [decide_eq_false q2]; simp
          · rw [decide_eq_false q1]; simp
      by_cases q0 : e = 0
      · subst q0
        by_cases q1 : c = cs
        · subst q1
          by_cases q2 : cn = 0
          · subst q2
            have t4 : (0 : Int) < (rn : Int) := by omega
            clear ht
            go_wp2
            go_ret
            exact ⟨ret_b (HK.out.trans HF.out).symm, hB1⟩
          · have t3 : (0 : Int) < (cn : Int) := by omega
            clear ht
            go_wp2
            go_ret
            exact ⟨ret_b (HK.out.trans HF.out).symm, hB1⟩
        · have t2 : (c != cs) = true := by simpa using q1
          clear ht q1
          go_wp2
          go_ret
          exact ⟨ret_b (HK.out.trans HF.out).symm, hB1⟩
      · have t1 : (e != 0) = true := by simpa using q0
        clear ht q0
        go_wp2
        go_ret
        exact ⟨ret_b (HK.out.trans HF.out).symm, hB1⟩
  have t1 : (kd == 1) = false := by simpa using k1
  by_cases k2 : kd = 2
  · subst k2
    have HK : Hid (okB xs es ⟨2, cs, fl, po, cu, ci⟩ = noneB xs es ⟨2, cs, fl, po, cu, ci⟩) := rfl
    clear k1
    go_wp2_with fail
    refine (refRising_any ca cn cc sn cu _ (ha.cu.below hB1)).mono ?_
    rintro e' w2 ⟨rfl, hb2⟩
    have hB2 : Below w.heap.size w w2 := hB1.trans (hb2.mono hB1.size)
    have hx2 := hbx.out.below hb2
    clear hb2 m0 m1 m2 m3 m4 m5 m6 m7 m8 hbx
    obtain ⟨m0, m1, m2, m3, m4, m5, m6, m7, m8⟩ := hx2
    by_cases ht : risB cu sn = true ∧ cs = 0 ∧ fn = 0 ∧ pn = 0 ∧ rn = 0
    · obtain ⟨hr, rfl, rfl, rfl, rfl⟩ := ht
      have hr' : risB cu xs.length = true := by rw [hx.len]; exact hr
      have HR := hide hr'
      rw [hr]
      clear hr hr'
      have HF : Hid (noneB xs es ⟨2, 0, fl, po, cu, ci⟩ = violB xs es cu) := by
        show noneB xs es ⟨2, 0, fl, po, cu, ci⟩ = violB xs es cu
        unfold noneB
        simp only []
        rw [HR.out, decide_eq_true hL.out.1, decide_eq_true hL.out.2.1, decide_eq_true hL.out.2.2.2]; simp
      go_wp2_with fail
      refine (refViolated_any sa aa ca sn sc an ac cn cc xs es cu _ (hx.below hB2) (he.below hB2) (ha.cu.below hB2) hN.out HR.out).mono ?_
      rintro e w3 ⟨rfl, hb3⟩
      have hB3 : Below w.heap.size w w3 := hB2.trans (hb3.mono hB2.size)
      generalize violB xs es cu = gb at *
      clear m0 m1 m2 m3 m4 m5 m6 m7 m8 hb3 hx he ha
      go_wp2
      go_ret
      exact ⟨ret_b (HK.out.trans HF.out).symm, hB3⟩
    · have HF : Hid (noneB xs es ⟨2, cs, fl, po, cu, ci⟩ = false) := by
        show noneB xs es ⟨2, cs, fl, po, cu, ci⟩ = false
        unfold noneB
        simp only []
        rw [hL.out.1, hL.out.2.1, hL.out.2.2.2, hx.len]
        by_cases q0 : risB cu sn = true
        · by_cases q1 : cs = 0
          · by_cases q2 : fn = 0
            · by_cases q3 : pn = 0
              · rw [decide_eq_false (show ¬ rn = 0 from fun q4 => ht ⟨q0, q1, q2, q3, q4⟩)]; simp
              · rw [decide_eq_false q3]; simp
            · rw [decide_eq_false q2]; simp
          · rw [decide_eq_false q1]; simp
        · rw [show risB cu sn = false by simpa using q0]; rfl
      cases q0 : risB cu sn with
      | false =>
        clear ht q0
        go_wp2
        go_ret
        exact ⟨ret_b (HK.out.trans HF.out).symm, hB2⟩
      | true =>
        by_cases q1 : cs = 0
        · subst q1
          by_cases q2 : fn = 0
          · subst q2
            by_cases q3 : pn = 0
            · subst q3
              have t4 : (0 : Int) < (rn : Int) := by
                rcases Nat.eq_zero_or_pos rn with h | h
                · exact absurd ⟨q0, rfl, rfl, rfl, h⟩ ht
                · omega
              clear ht q0
              go_wp2
              go_ret
              exact ⟨ret_b (HK.out.trans HF.out).symm, hB2⟩
            · have t3 : (0 : Int) < (pn : Int) := by omega
              clear ht q0
              go_wp2
              go_ret
              exact ⟨ret_b (HK.out.trans HF.out).symm, hB2⟩
          · have t2 : (0 : Int) < (fn : Int) := by omega
            clear ht q0
            go_wp2
            go_ret
            exact ⟨ret_b (HK.out.trans HF.out).symm, hB2⟩
        · have t5 : (cs != 0) = true := by simpa using q1
          clear ht q0 q1
          go_wp2
          go_ret
          exact ⟨ret_b (HK.out.trans HF.out).symm, hB2⟩
  have t2 : (kd == 2) = false := by simpa using k2
  by_cases k3 : kd = 3
  · subst k3
    have HK : Hid (okB xs es ⟨3, cs, fl, po, cu, ci⟩ = endB xs es ⟨3, cs, fl, po, cu, ci⟩) := rfl
    clear k1 k2
    by_cases ht : e = 0 ∧ cs = 0 ∧ pn = 0 ∧ cn = 0
    · obtain ⟨rfl, rfl, rfl, rfl⟩ := ht
      obtain ⟨-, g1, g2⟩ := hCE.out.resolve_left (by simp)
      have HF : Hid (endB xs es ⟨3, 0, fl, po, cu, ci⟩ = goodB es ci) := by
        show endB xs es ⟨3, 0, fl, po, cu, ci⟩ = goodB es ci
        unfold endB
        simp only []
        rw [g1, decide_eq_true hL.out.2.1, decide_eq_true hL.out.2.2.1]; simp
      clear g1 g2
      go_wp2_with fail
      refine (refGood_any sa aa ra sn sc an ac rn rc xs es ci _ (he.below hB1) (ha.ci.below hB1) hN.out hle).mono ?_
      rintro e w2 ⟨rfl, hb2⟩
      have hB2 : Below w.heap.size w w2 := hB1.trans (hb2.mono hB1.size)
      generalize goodB es ci = gb at *
      clear m0 m1 m2 m3 m4 m5 m6 m7 m8 hb2 hx he ha
      go_wp2
      go_ret
      exact ⟨ret_b (HK.out.trans HF.out).symm, hB2⟩
    · have HF : Hid (endB xs es ⟨3, cs, fl, po, cu, ci⟩ = false) := by
        show endB xs es ⟨3, cs, fl, po, cu, ci⟩ = false
        unfold endB
        simp only []
        rw [hL.out.2.1, hL.out.2.2.1]
        rcases hCE.out with ⟨g1, g2⟩ | ⟨g1, g2, g3⟩
        · rw [decide_eq_false g2]; rfl
        · by_cases q1 : cs = 0
          · by_cases q2 : pn = 0
            · rw [decide_eq_false (show ¬ cn = 0 from fun q3 => ht ⟨g1, q1, q2, q3⟩)]; simp
            · rw [decide_eq_false q2]; simp
          · rw [decide_eq_false q1]; simp
      by_cases q0 : e = 0
      · subst q0
        by_cases q1 : cs = 0
        · subst q1
          by_cases q2 : pn = 0
          · subst q2
            have t4 : (0 : Int) < (cn : Int) := by omega
            clear ht
            go_wp2
            go_ret
            exact ⟨ret_b (HK.out.trans HF.out).symm, hB1⟩
          · have t3 : (0 : Int) < (pn : Int) := by omega
            clear ht
            go_wp2
            go_ret
            exact ⟨ret_b (HK.out.trans HF.out).symm, hB1⟩
        · have t5 : (cs != 0) = true := by simpa using q1
          clear ht q1
          go_wp2
          go_ret
          exact ⟨ret_b (HK.out.trans HF.out).symm, hB1⟩
      · have t6 : (e != 0) = true := by simpa using q0
        clear ht q0
        go_wp2
        go_ret
        exact ⟨ret_b (HK.out.trans HF.out).symm, hB1⟩
  have t3 : (kd == 3) = false := by simpa using k3
  have HK : Hid (okB xs es ⟨kd, cs, fl, po, cu, ci⟩ = false) := by
    show okB xs es ⟨kd, cs, fl, po, cu, ci⟩ = false
    unfold okB
    simp only []
    rw [if_neg k1, if_neg k2, if_neg k3]
  clear k1 k2 k3
  go_wp2
  go_ret
  exact ⟨ret_b HK.out.symm, hB1⟩

set_option maxHeartbeats 1000000 in
theorem refAccept_any (sa aa fa pa ca ra : Option Addr) (sn sc an ac fn fc pn pc cn cc rn rc : Nat) (kd cs : Int) (xs : List Int) (es : List A5) (fl po cu ci : List Int) (w : World) (hx : Ints w sa sn xs) (he : Arcs w aa an es)
    (ha : Ans w fa pa ca ra fn pn cn rn fl po cu ci) (hle : rn ≤ rc) :
    Calls Try.prog 20 #[.agg #[.slice sa sn sc, .slice aa an ac], .agg #[.int .i64 kd, .int .i64 cs, .slice fa fn fc, .slice pa pn pc, .slice ca cn cc, .slice ra rn rc]] w fun e w' =>
      e = .returned (.tuple #[.bool (accS xs es ⟨kd, cs, fl, po, cu, ci⟩).1, .int .i64 (accS xs es ⟨kd, cs, fl, po, cu, ci⟩).2]) ∧ Below w.heap.size w w' := by
  have hbx := boxed_new w (.slice sa sn sc) (.slice aa an ac) (.int .i64 kd) (.int .i64 cs) (.slice fa fn fc) (.slice pa pn pc) (.slice ca cn cc) (.slice ra rn rc) 25 36
  have hb0 := Joins.below_alloc2 w (.cells #[.slice sa sn sc, .slice aa an ac] 25) (.cells #[.int .i64 kd, .int .i64 cs, .slice fa fn fc, .slice pa pn pc, .slice ca cn cc, .slice ra rn rc] 36)
  go_enter Try.func20, Try.ntmps20
  go_wp2_with fail
  refine (refCheck_any sa aa sn sc an ac xs es _ (hx.below hb0) (he.below hb0)).mono ?_
  rintro e w1 ⟨rfl, hb1⟩
  have hB1 : Below w.heap.size w w1 := hb0.trans (hb1.mono (by simp; omega))
  have hx1 := hbx.below hb1
  clear hb1 hb0 hbx
  obtain ⟨m0, m1, m2, m3, m4, m5, m6, m7, m8⟩ := hx1
  obtain ⟨c, hc⟩ : ∃ c, (checkS xs es).1 = c := ⟨_, rfl⟩
  rw [hc]
  cases hz : (c != 0) with
  | true =>
    have HS := hide (accS_check (a := ⟨kd, cs, fl, po, cu, ci⟩) hc (by simpa using hz))
    clear hc
    go_wp2
    go_ret2
    exact ⟨ret_bi (by rw [HS.out]) (by rw [HS.out]), hB1⟩
  | false =>
    have hn := netOK_of (hc.trans (by simpa using hz))
    have hN := hide hn
    have HS := hide (accS_ok (a := ⟨kd, cs, fl, po, cu, ci⟩) hn)
    clear hc hn
    go_wp2_with fail
    refine (refAccepted_any sa aa fa pa ca ra sn sc an ac fn fc pn pc cn cc rn rc kd cs xs es fl po cu ci _ (hx.below hB1) (he.below hB1) hN.out (ha.below hB1) hle).mono ?_
    rintro e w2 ⟨rfl, hb2⟩
    have hB2 : Below w.heap.size w w2 := hB1.trans (hb2.mono hB1.size)
    generalize okB xs es ⟨kd, cs, fl, po, cu, ci⟩ = gb at *
    clear m0 m1 m2 m3 m4 m5 m6 m7 m8 hb2 hx he ha
    go_wp2
    go_ret2
    exact ⟨ret_bi (by rw [HS.out]) (by rw [HS.out]), hB2⟩
end Go.Proofs.Ytampcheafdlomaa
